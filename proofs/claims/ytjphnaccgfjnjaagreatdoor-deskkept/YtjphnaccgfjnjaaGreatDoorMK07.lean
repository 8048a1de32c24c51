/- A part of the proof. -/
import Derived.Test.YtjphnaccgfjnjaaGreatDoorMK06
set_option maxRecDepth 100000
set_option maxHeartbeats 20000000
namespace Go.Proofs.YtjphnaccgfjnjaaGreatDoor
variable {rs : List Rg} {i j n k rn sn b base g base' ln : Nat} {ss : List Sb} {w w' : World} {x : Option Addr} {f : Nat → Bool} {L ns ids es : List Int} {fs : List Fc} {a l h0 h1 : Int} {vs : List Vn} {ps ls : List (Int × Int)} {P : Program} {v : Value} {cs : Array Value} {t : TypeId} {fr : Nat × Nat}
open Go.RowKit Go.Shelf
theorem C8(h:j<i):aQ (rs.take i) j=aQ rs j:=by
 unfold aQ;rw[zF,zF,List.getElem?_take_of_lt h]
theorem uX(h:j<i):sbAt (ss.take i) j=sbAt ss j:=by
 unfold sbAt;rw[zF,zF,List.getElem?_take_of_lt h]
theorem RS.take(h:RS w x n rs)(hi:i<=n):RS w x i (rs.take i) where
 len:=by rw[List.length_take,h.len];omega
 cells:=fun j hj=>by rw[C8 hj];exact h.cells j (by omega)
theorem SS.take(h:SS w x n ss)(hi:i<=n):SS w x i (ss.take i) where
 len:=by rw[List.length_take,h.len];omega
 cells:=fun j hj=>by rw[uX hj];exact h.cells j (by omega)
 faces:=fun j hj=>by rw[uX hj];exact h.faces j (by omega)
theorem gX(hk:k<n)(h:f k=false):(List.range n).all f=false:=by
 rw[List.all_eq_false];exact⟨k,by simpa using hk,by simp[h]⟩
theorem oM(h:∀j,j<n->f j=true):(List.range n).all f=true:=by
 rw[List.all_eq_true];intro j hj;exact h j (by simpa using hj)
theorem B2(rs:List Rg)(i:Nat)(x:Option Addr)(n k:Nat)(w:World)(t:Bool)(hp:RS w x n rs)(hi:i<=n)(hn:n<=64)(c m:Int)(h:anyAt i (LV rs c m)=t):
  Calls Tryz.prog 207 #[.slice x i k, .agg #[.int .i64 c, .int .i64 m]] w fun e w'=>e= .returned (.bool t)/\Below w.heap.size w w':=by
 have hm:=oL c m x i k (rs.take i) w (hp.take hi) (by omega);rw[uM (f:=LV (rs.take i) c m) (g:=LV rs c m) (fun j hj=>by unfold LV;rw[C8 hj]),h]at hm;exact hm
theorem wM(ss:List Sb)(i:Nat)(x:Option Addr)(n k:Nat)(w:World)(t:Bool)(hp:SS w x n ss)(hi:i<=n)(hn:n<=64)(c m:Int)(h:anyAt i (C4 ss c m)=t):
  Calls Tryz.prog 167 #[.slice x i k, .agg #[.int .i64 c, .int .i64 m]] w fun e w'=>e= .returned (.bool t)/\Below w.heap.size w w':=by
 have hm:=sW c m x i k (ss.take i) w (hp.take hi) (by omega);rw[uM (f:=C4 (ss.take i) c m) (g:=C4 ss c m) (fun j hj=>by unfold C4;rw[uX hj]),h]at hm;exact hm
abbrev FY(p:Rg):Obj:= .cells #[.int .i64 p.a, .int .i64 p.l, .int .i64 p.p] 127
def DA(rs:List Rg)(i:Nat):Bool:=IX (aQ rs i)&&!anyAt i (LV rs (aQ rs i).a (aQ rs i).l)
def EY(n:Nat)(rs:List Rg):Bool:=(List.range n).all (DA rs)&&EU rs
theorem xJ(x:Option Addr)(n c:Nat)(rs:List Rg)(w:World)(hp:RS w x n rs)(hn:n<=64)(hnc:n<=c)(hc63:c<=9223372036854775807):
  Calls Tryz.prog 188 #[.slice x n c] w fun e w'=>e= .returned (.bool (EY n rs))/\Below w.heap.size w w':=by
 have hbd:Hid (EY n rs=((List.range n).all (DA rs)&&EU rs)):=rfl;go_enter Tryz.func188,Tryz.ntmps188;go_wp2;go_loopw [7] (fun i wr=>∃k:Nat,k<=n/\i= .int .i64 k/\Below w.heap.size w wr/\(∀j,j<k->DA rs j=true)) (fun i _=>n- (intOf i).toNat)
 case atStart=>exact⟨0,by omega,rfl,zD,fun j hj=>by omega⟩
 case round=>
  obtain⟨k,hk,rfl,hB,hok⟩:=hrel
  by_cases hlt:k<n
  ·have hpr:=hp.later hB;obtain⟨b,o,rfl,c0,c1,c2⟩:=hpr.cells k hlt;have hlt':=hlt;have hta:Hid (DA rs k=(IX (aQ rs k)&&!anyAt k (LV rs (aQ rs k).a (aQ rs k).l))):=rfl;go_upto_region 4 with fail
   obtain⟨w2,hw2⟩:∃w2,w2=wr.alloc (FY (aQ rs k)):=⟨_,rfl⟩;rw[<-hw2];have h02:Below wr.heap.size wr w2:=by rw[hw2];exact bl1 wr _
   have hbox:w2.heap[wr.heap.size]?=some (FY (aQ rs k)):=by rw[hw2];exact aB _ rfl
   clear hw2 c0 c1 c2;have hp2:=hpr.later h02;obtain⟨hcl, -⟩:=aC hbox;have g0:=Ws.here (v:= .int .i64 (aQ rs k).a) (hcl 0);have g1:=Ws.here (v:= .int .i64 (aQ rs k).l) (hcl 1);have g2:=Ws.here (v:= .int .i64 (aQ rs k).p) (hcl 2);clear hcl
   cases hu:IX (aQ rs k)
   ·refine aH w2.heap.size (by kernel_rfl) (by kernel_rfl) ?_;repeat(go_big_quiet_step ((go_at_call 206;exact Calls.in_ws (zE) (gW _ _ hu _))))
    refine wpQuiet_nil ?_;rintro _ ⟨u,rfl⟩;have hB2:=hB.trans (h02.mono hB.size);have hu2:=hB2.trans (u.property.mono hB2.size);generalize u.val=wu at hu2⊢;clear u g0 g1 g2;go_wp2;go_ret;exact⟨aM (by rw[hbd.out,gX hlt' (by rw[hta.out,hu];rfl)];rfl),hu2⟩
   ·cases ha:anyAt k (LV rs (aQ rs k).a (aQ rs k).l);all_goals refine aH w2.heap.size (by kernel_rfl) (by kernel_rfl) ?_
    all_goals repeat(go_big_quiet_step (first|(go_at_call 206;exact Calls.in_ws (zE) (gW _ _ hu _))|(go_at_call 207;exact Calls.in_ws (zE) (B2 rs k _ n _ _ _ (hp2.later (Ws.property _)) (by omega) hn _ _ ha))))
    all_goals refine wpQuiet_nil ?_
    all_goals rintro _ ⟨u,rfl⟩
    all_goals have hB2:=hB.trans (h02.mono hB.size)
    all_goals have hu2:=hB2.trans (u.property.mono hB2.size)
    all_goals generalize u.val=wu at hu2⊢
    all_goals clear u g0 g1 g2
    ·go_wp2;go_roundw
     case rel=>exact⟨k+1,hlt',by go_num,hu2,fun j hj=>by
      by_cases hj2:j<k
      ·exact hok j hj2
      ·obtain rfl:j=k:=by omega
       rw[hta.out,hu,ha];rfl⟩
     case measure=>simp[intOf];omega
    ·go_wp2;go_ret;exact⟨aM (by rw[hbd.out,gX hlt' (by rw[hta.out,hu,ha];rfl)];rfl),hu2⟩
  ·obtain rfl:k=n:=by omega
   go_wp2_with fail;refine(NS x k c rs wr.heap.size 1 _ ((hp.later hB).later (bl1 wr _)) hn (by simp)).mono ?_;rintro e w1 ⟨rfl,hb1⟩;go_wp2;go_ret;exact⟨aM (by rw[hbd.out,oM hok];rfl),hB.trans (((bl1 wr _).trans (hb1.mono (by simp))).mono hB.size)⟩
theorem rangesRight_is(x:Option Addr)(n c:Nat)(rs:List Rg)(t:Bool)(h:EY n rs=t)(w:World)(hp:RS w x n rs)(hn:n<=64)(hnc:n<=c)(hc63:c<=9223372036854775807):
  Calls Tryz.prog 188 #[.slice x n c] w fun e w'=>e= .returned (.bool t)/\Below w.heap.size w w':=by
 subst h;exact xJ x n c rs w hp hn hnc hc63
def US(a l:Int)(n:Nat)(ns:List Int):Bool:=EW ns&&!anyAt n fun i=>!rL a l (bT ns i)
theorem xK(a l x:Int)(b:Nat)(w:World)(hr:rt a l=true)(h0:w.cell? ⟨b,0,none⟩=some (.int .i64 a))(h1:w.cell? ⟨b,1,none⟩=some (.int .i64 l)):
  Calls Tryz.prog 273 #[.int .i64 x, .pointer (some ⟨b,0,none⟩)] w fun e w'=>e= .returned (.bool (!rL a l x))/\Below w.heap.size w w':=by
 go_enter Tryz.func273,Tryz.ntmps273;go_wp2_with (go_at_call 254;refine(usable_any _ _ _ _ hr).mono ?_;rintro e w1 ⟨rfl,hb1⟩);go_ret;exact⟨rfl,hb1⟩
theorem uY(args:Array Value)(W:World):(callFunc 273 args).run Tryz.prog W= .ok (.enter 273 args) W:=by simp[go_sem]
theorem B3(a l:Int)(hr:rt a l=true)(b n:Nat)(ns:List Int)(w:World)(h0:w.cell? ⟨b,0,none⟩=some (.int .i64 a))(h1:w.cell? ⟨b,1,none⟩=some (.int .i64 l)):
  JY 273 #[.pointer (some ⟨b,0,none⟩)] n ns (fun i=>!rL a l (bT ns i)) w:=fun i _ W hW=>xK a l (bT ns i) b W hr (cell_later hW h0) (cell_later hW h1)
theorem zX(a l:Int)(x:Option Addr)(n c:Nat)(ns:List Int)(w:World)(hr:rt a l=true)(hp:IS w x n ns)(hn:n<=64):
  Calls Tryz.prog 260 #[.agg #[.int .i64 a, .int .i64 l], .slice x n c] w fun e w'=>e= .returned (.bool (US a l n ns))/\Below w.heap.size w w':=by
 have hbd:Hid (US a l n ns=(EW ns&&!anyAt n fun i=>!rL a l (bT ns i))):=rfl;go_enter Tryz.func260,Tryz.ntmps260;go_wp2_with fail;refine(NV x n c ns (w.heap.size+1) 1 _ (hp.later (bO w _ _)) hn (by simp)).mono ?_;rintro e w1 ⟨rfl,hb1⟩;have hB:=(bO w _ _).trans (hb1.mono (by simp;omega));have c0:w1.cell? ⟨w.heap.size,0,none⟩=some (.int .i64 a):=cell_later hb1 (by simp);have c1:w1.cell? ⟨w.heap.size,1,none⟩=some (.int .i64 l):=cell_later hb1 (by simp);clear hb1
 cases hri:EW ns
 ·go_wp2;go_ret;exact⟨aM (by rw[hbd.out,hri];rfl),hB⟩
 ·go_wp2_with fail;refine(rG 273 _ x n c ns _ _ (hp.later hB) (by omega) (B3 a l hr w.heap.size n ns _ c0 c1) uY).mono ?_;rintro e w2 ⟨rfl,hb2⟩;go_wp2;go_ret;exact⟨aM (by rw[hbd.out,hri];simp),hB.trans (hb2.mono hB.size)⟩
theorem qK(a l:Int)(x:Option Addr)(n c:Nat)(ns:List Int)(t:Bool)(h:US a l n ns=t)(w:World)(hr:rt a l=true)(hp:IS w x n ns)(hn:n<=64):
  Calls Tryz.prog 260 #[.agg #[.int .i64 a, .int .i64 l], .slice x n c] w fun e w'=>e= .returned (.bool t)/\Below w.heap.size w w':=by
 subst h;exact zX a l x n c ns w hr hp hn
open Go.RowKit Go.Shelf Go.Maps
theorem key_law:Keyed Tryz.prog 3:=int_keyed under_int
theorem zero_int(w:World):(zeroValue 3).run Tryz.prog w= .ok (.int .i64 0) w:=by kernel_rfl
theorem under_uses:Tryz.prog.underlying 328=some (.map 3 3):=by kernel_rfl
structure jX(D:DataW Unit)(L:List Int):Prop where
 isMap:IsMap D
 at_:∀a:Int,D.atKey (.int .i64 a) (.lit (.int .i64 0))= .lit (.int .i64 (L.count a))
 has_:∀a:Int,has D (.int .i64 a)=decide (a∈L)
theorem jX.empty:jX (.map []) []:=⟨isMap_empty,fun _=>rfl,fun _=>rfl⟩
theorem jX.put{D:DataW Unit}(h:jX D L)(a:Int):jX (D.put (.int .i64 a) (.lit (.int .i64 ((L.count a:Nat)+1)))) (L++[a]) where
 isMap:=h.isMap.put _ _
 at_:=fun b=>by
  by_cases e:b=a
  ·subst e;rw[atKey_put_same h.isMap (by trivial),List.count_append];simp
  ·rw[atKey_put_other (by intro e2;exact e (by cases e2;rfl)),h.at_ b,List.count_append];simp[Ne.symm e]
 has_:=fun b=>by
  by_cases e:b=a
  ·subst e;rw[has_put_same h.isMap (by trivial)];simp
  ·rw[has_put_other (by intro e2;exact e (by cases e2;rfl)),h.has_ b];simp[e]
def bG(fs:List Fc):List Int:=fs.flatMap (·.ns)
theorem RR(h:i<fs.length):fcAt fs i=fs[i]:=by simp[fcAt,List.getD_eq_getElem?_getD,h]
theorem J6(h:k<fs.length):bG (fs.take (k+1))=bG (fs.take k)++(fcAt fs k).ns:=by
 unfold bG;rw[List.take_add_one,List.getElem?_eq_getElem h,RR h,Option.toList_some,List.flatMap_append];simp only[List.flatMap_cons,List.flatMap_nil,List.append_nil]
theorem HO(h:i<ns.length):bT ns i=ns[i]:=by simp[bT,List.getD_eq_getElem?_getD,h]
theorem VO(h:k<ns.length):ns.take (k+1)=ns.take k++[bT ns k]:=by
 rw[List.take_add_one,List.getElem?_eq_getElem h,HO h,Option.toList_some]
theorem fS(h0:0<=a)(h1:a<=1000000):(Lit.int .i64 a).wf=true:=by
 have e1:IntKind.i64.min= -9223372036854775808:=by decide
 have e2:IntKind.i64.max=9223372036854775807:=by decide
 simp only[Lit.wf,e1,e2,zH,decide_eq_true_eq];omega
abbrev RT(p:Sb):Obj:= .cells #[.int .i64 p.id, .int .i64 p.a, .int .i64 p.l, .slice p.x p.n p.c] 130
abbrev fcO(p:Fc):Obj:= .cells #[.int .i64 p.id, .slice p.x p.n p.c] 133
theorem zY(id a l:Int)(x:Option Addr)(n c:Nat)(fs:List Fc)(w:World)(hp:sD w x n fs)(hn:n<=64)(hm:∀i,i<n->(fcAt fs i).n<=64)
 (hr:∀i,i<n->∀j,j<(fcAt fs i).n->0<=bT (fcAt fs i).ns j/\bT (fcAt fs i).ns j<=1000000):
  Calls Tryz.prog 253 #[.agg #[.int .i64 id, .int .i64 a, .int .i64 l, .slice x n c]] w fun e w'=>∃bm D,e= .returned (.map (some bm))/\w.heap.size<=bm/\w'.ownsMap Tryz.prog 3 (plainElem Tryz.prog 3) bm (bG fs).length D/\jX D (bG fs)/\Below w.heap.size w w':=by
 have hmm:= @run_makeMap Tryz.prog;have hfl:Hid (fs.length=n):=hp.len;go_enter Tryz.func253,Tryz.ntmps253;go_wp2;go_loopw [12] (fun i wr=>∃(k:Nat) (D:DataW Unit),k<=n/\i= .int .i64 k/\Below w.heap.size w wr/\wr.ownsMap Tryz.prog 3 (plainElem Tryz.prog 3) (w.heap.size+1) (bG (fs.take k)).length D/\jX D (bG (fs.take k))/\(bG (fs.take k)).length<=k*64) (fun i _=>n- (intOf i).toNat)
 case atStart=>
  refine⟨0, .map [],by omega,rfl,?_,?_,?_,?_⟩
  ·exact bO w _ _
  ·have:=World.ownsMap_made (H:=Unit) (w.alloc (.cells #[.int .i64 id, .int .i64 a, .int .i64 l, .slice x n c] 130)) Tryz.prog 3 (plainElem Tryz.prog 3);simpa[bG]using this
  ·exact jX.empty
  ·simp[bG]
 case round=>
  obtain⟨k,D,hk,rfl,hB,hO,hC,hL⟩:=hrel
  by_cases hlt:k<n
  ·have hlt':Hid (k<n):=hlt;have hpr:=hp.later hB;obtain⟨b,o,rfl,c0,c1⟩:=hpr.cells k hlt;have hI:=(hp.addrs k hlt).2.2;have hm1:=hm k hlt;have hr1:=hr k hlt;have hsz:=hB.size;have hst:Hid (bG (fs.take (k+1))=bG (fs.take k)++(fcAt fs k).ns):=J6 (by rw[hfl.out];exact hlt);generalize hf:fcAt fs k=f at*;obtain⟨fid,fx,fn,fc,ns⟩:=f;simp only at*;clear hf;go_wp2;obtain⟨wo,rfl⟩:∃wo,wo=wr:=⟨_,rfl⟩;go_loopw [19] (fun i wr=>∃(q:Nat) (D:DataW Unit),q<=fn/\i= .int .i64 q/\Below w.heap.size w wr/\wr.ownsMap Tryz.prog 3 (plainElem Tryz.prog 3) (w.heap.size+1) (bG (fs.take k)++ns.take q).length D/\jX D (bG (fs.take k)++ns.take q)) (fun i _=>fn- (intOf i).toNat)
   case atStart=>exact⟨0,D,by omega,rfl,hB.trans ((bl1 wo _).mono hsz),by simpa using hO.alloc _,by simpa using hC⟩
   case round=>
    obtain⟨q,D2,hq,rfl,hB2,hO2,hC2⟩:=hrel
    by_cases hq2:q<fn
    ·have hq':Hid (q<fn):=hq2;have hL2:Hid ((bG (fs.take k)++ns.take q).length<=k*64+q):=by
      show _<=_;rw[List.length_append,List.length_take];omega
     have hst2:Hid (bG (fs.take k)++ns.take (q+1)=(bG (fs.take k)++ns.take q)++[bT ns q]):=by
      show _=_;rw[VO (by rw[hI.len];exact hq2),List.append_assoc]
     obtain⟨b2,o2,rfl,d0⟩:=(hI.later hB2).cells q hq2;have hkey:keyOf Tryz.prog 3 (.int .i64 (bT ns q))=some (.int .i64 (bT ns q)):=keyOf_int_mk under_int (fS (hr1 q hq2).1 (hr1 q hq2).2);generalize hLd:bG (fs.take k)++ns.take q=L at*;have hat:=hC2.at_ (bT ns q);have hcl:Hid (L.count (bT ns q)<=L.length):=List.count_le_length;have hmx:L.length<maxLen:=by have:=hL2.out;unfold maxLen;omega
     go_wp2_with (first
      |(at_lookup;refine wpList_lookup_own_int _ rfl _ _ 328 rfl 3 3 .i64 key_law under_uses under_int (zero_int _) (w.heap.size+1) _ _ rfl hO2 _ _ rfl hkey ?_;intro cc hat2 hwc;obtain rfl:cc=(L.count (bT ns q):Nat):=(by rw[hat]at hat2;cases hat2;rfl))
      |(at_mapUpdate;refine wpList_mapUpdate_own _ rfl _ _ _ 328 rfl 3 3 key_law under_uses _ (w.heap.size+1) _ _ rfl hO2 hmx _ _ _ rfl rfl hkey _ [] (plainElem_int under_int (wrap64_wf _)) ?_;intro w1 hown1 hgrow1)
      |go_in)
     have hP:=hC2.put (bT ns q);have hwr:wrap64 ((L.count (bT ns q):Nat)+1)=(L.count (bT ns q):Nat)+1:=by
      have:=hcl.out;have:=hL2.out;unfold wrap64;omega
     go_roundw
     case rel=>
      refine⟨q+1,D2.put (.int .i64 (bT ns q)) (.lit (.int .i64 ((L.count (bT ns q):Nat)+1))),hq'.out,by go_num,hB2.grown hgrow1 hB2.size (fun j hj=>by cases hj;omega),?_,?_⟩
      ·rw[hst2.out,List.length_append];rw[hwr]at hown1;exact hown1
      ·rw[hst2.out];exact hP
     case measure=>simp[intOf];have:=hq'.out;omega
    ·obtain rfl:q=fn:=by omega
     have e:ns.take q=ns:=by rw[<-hI.len,List.take_length]
     rw[e,<-hst.out]at hO2 hC2;go_wp2;go_roundw
     case rel=>exact⟨k+1,D2,hlt'.out,by go_num,hB2,hO2,hC2,by rw[hst.out,List.length_append,hI.len];omega⟩
     case measure=>simp[intOf];have:=hlt'.out;omega
  ·obtain rfl:k=n:=by omega
   have e:fs.take k=fs:=by rw[<-hfl.out,List.take_length]
   rw[e]at hO hC;go_wp2;go_ret;exact⟨_,D,rfl,by omega,hO,hC,hB⟩
theorem oN:∀L:List Int,(∀a,L.count a<=1)↔L.Nodup
 |[]=>by simp
 |x::L=>by
  rw[List.nodup_cons,<-oN L];constructor
  ·intro h;have h1:=h x;rw[List.count_cons_self]at h1;refine⟨fun hm=>?_,fun a=>?_⟩
   ·have:=List.count_pos_iff.2 hm;omega
   ·have:=h a;rw[List.count_cons]at this;omega
  ·rintro⟨h1,h2⟩ a;by_cases e:a=x
   ·subst e;rw[List.count_cons_self,List.count_eq_zero.2 h1];omega
   ·rw[List.count_cons_of_ne (Ne.symm e)];exact h2 a
def J7(L:List Int):Bool:=!decide L.Nodup
theorem VP(h:1<L.count a):J7 L=true:=by
 unfold J7;rw[decide_eq_false]
 ·rfl
 ·intro hn;have:=(oN L).2 hn a;omega
theorem YU(h:∀a,L.count a<=1):J7 L=false:=by
 unfold J7;rw[decide_eq_true ((oN L).1 h)];rfl
theorem twice_any(bm m:Nat)(D:DataW Unit)(L:List Int)(w:World)(hO:w.ownsMap Tryz.prog 3 (plainElem Tryz.prog 3) bm m D)(hC:jX D L):
  Calls Tryz.prog 262 #[.map (some bm)] w fun e w'=>e= .returned (.bool (J7 L))/\Below w.heap.size w w':=by
 have hDb:Hid (jX D L):=hC;go_enter Tryz.func262,Tryz.ntmps262;go_wp2_with (first|(at_range;refine wpList_range_own _ rfl _ 328 rfl 3 3 key_law under_uses _ bm m D rfl hO ?_;intro w0 hrg0 hg0 hs0)|go_in)
 go_frame;go_loopw [] (fun wr=>∃left cnt,wr.ranges Tryz.prog 3 (plainElem Tryz.prog 3) bm w.heap.size m D left cnt/\Below w.heap.size w wr/\(∀a:Int,has D (.int .i64 a)=true->left (.int .i64 a)=true\/L.count a<=1)) (fun wr=>wr.rangeLeft bm w.heap.size)
 case atStart=>exact⟨_,_,hrg0,(zD).grown hg0 (zE) (fun j hj=>by cases hj),fun a h=> .inl h⟩
 case round=>
  obtain⟨left,cnt,hrg,hB,hall⟩:=hrel
  go_wp2_with (first
   |(at_next;refine wpList_next_ranges_ii _ rfl _ rfl 3 3 .i64 .i64 key_law under_int under_int bm w.heap.size m _ _ _ rfl hrg ?_ ?_)
   |go_in)
  ·intro hc0 hl0;go_wp2;go_ret;exact⟨aM (YU fun a=>by
    by_cases hm:a∈L
    ·rcases hall a (by rw[hDb.out.has_ a];simpa using hm)with h|h
     ·rw[hl0]at h;cases h
     ·exact h
    ·rw[List.count_eq_zero.2 hm];omega).symm,hB⟩
  ·intro x c w1 cnt1 hwx hwc hlx hat hrg1 hlt hg1 hs1 hen;have hcx:c=(L.count x:Nat):=by
    have:=hat (.lit (.int .i64 0));rw[hDb.out.at_ x]at this
    cases this;rfl
   have hB1:Below w.heap.size w w1:=hB.grown hg1 hB.size (fun j hj=>by cases hj;omega);by_cases hgt:c>1
   ·go_wp2;go_ret;exact⟨aM (VP (a:=x) (by omega)).symm,hB1⟩
   ·go_wp2;go_roundw
    case rel=>exact⟨_,cnt1,hrg1,hB1,fun a ha=>by
     by_cases e:a=x
     ·subst e;exact .inr (by omega)
     ·rcases hall a ha with h|h
      ·refine .inl ?_;rw[h,sameKey_ne (by intro e2;exact e (by cases e2;rfl))];rfl
      ·exact .inr h⟩
    case measure=>rw[hrg1.left_eq,hrg.left_eq];omega
def qL(a l:Int)(fs:List Fc)(i:Nat):Bool:=dE (fcAt fs i).id 1 65536&&decide (0<(fcAt fs i).n)&&US a l (fcAt fs i).n (fcAt fs i).ns
def sZ(a l:Int)(n:Nat)(fs:List Fc):Bool:=(List.range n).all (qL a l fs)&&rI fs&&!J7 (bG fs)
theorem zZ{x:Int}(hr:rt a l=true)(h:rL a l x=true):0<=x/\x<=1000000:=by
 obtain⟨h0,h1,h2,h3, -⟩:=bE hr;obtain⟨s0,s1⟩:=zW h0 h1;unfold rL at h;simp only[zH,decide_eq_true_eq]at h;omega
theorem XG(h:US a l n ns=true):∀j,j<n->rL a l (bT ns j)=true:=by
 intro j hj;unfold US at h;rw[zH]at h
 cases hu:rL a l (bT ns j)
 ·have:=bR (f:=fun i=>!rL a l (bT ns i)) hj (by rw[hu];rfl);rw[this]at h;exact absurd h.2 (by simp)
 ·rfl
theorem AA(id a l:Int)(x:Option Addr)(n c:Nat)(fs:List Fc)(w:World)(hr:rt a l=true)(hp:sD w x n fs)(hn:n<=8)(hm:∀i,i<n->(fcAt fs i).n<=4):
  Calls Tryz.prog 235 #[.agg #[.int .i64 id, .int .i64 a, .int .i64 l, .slice x n c]] w fun e w'=>e= .returned (.bool (sZ a l n fs))/\Below w.heap.size w w':=by
 have hbd:Hid (sZ a l n fs=((List.range n).all (qL a l fs)&&rI fs&&!J7 (bG fs))):=rfl;go_enter Tryz.func235,Tryz.ntmps235;go_upto_region 1 with fail
 obtain⟨w2,hw2⟩:∃w2,w2=w.alloc (.cells #[.int .i64 id, .int .i64 a, .int .i64 l, .slice x n c] 130):=⟨_,rfl⟩;rw[<-hw2];have h02:Below w.heap.size w w2:=by rw[hw2];exact bl1 w _
 have hbox:w2.heap[w.heap.size]?=some (.cells #[.int .i64 id, .int .i64 a, .int .i64 l, .slice x n c] 130):=by rw[hw2];exact aB _ rfl
 clear hw2;have hp2:=hp.later h02;obtain⟨hcl, -⟩:=aC hbox;have q0:w2.cell? ⟨w.heap.size,0,none⟩=some (.int .i64 id):=hcl 0;have q1:w2.cell? ⟨w.heap.size,1,none⟩=some (.int .i64 a):=hcl 1;have q2:w2.cell? ⟨w.heap.size,2,none⟩=some (.int .i64 l):=hcl 2;have q3:w2.cell? ⟨w.heap.size,3,none⟩=some (.slice x n c):=hcl 3;clear hcl hbox;generalize hbk:w.heap.size=bk at*;go_wp2;go_loopw [8] (fun i wr=>∃k:Nat,k<=n/\i= .int .i64 k/\Below w2.heap.size w2 wr/\(∀j,j<k->qL a l fs j=true)) (fun i _=>n- (intOf i).toNat)
 case atStart=>exact⟨0,by omega,rfl,zD,fun j hj=>by omega⟩
 case round=>
  obtain⟨k,hk,rfl,hB,hok⟩:=hrel
  have r0:=cell_later hB q0
  have r1:=cell_later hB q1
  have r2:=cell_later hB q2
  have r3:=cell_later hB q3
  have hall:Below bk w wr:=h02.trans (hB.mono (by have:=h02.size;omega))
  clear q0 q1 q2 q3
  by_cases hlt:k<n
  ·have hlt':Hid (k<n):=hlt;have hpr:=hp2.later hB;obtain⟨b,o,rfl,c0,c1⟩:=hpr.cells k hlt;have hI:=(hpr.addrs k hlt).2.2;have hm1:=hm k hlt;have hta:Hid (qL a l fs k=(dE (fcAt fs k).id 1 65536&&decide (0<(fcAt fs k).n)&&US a l (fcAt fs k).n (fcAt fs k).ns)):=rfl;generalize hf:fcAt fs k=f at*;obtain⟨fid,fx,fn,fcc,ns⟩:=f;simp only at*;clear hf;go_upto_region 4 with fail
   obtain⟨w3,hw3⟩:∃w3,w3=wr.alloc (.cells #[.int .i64 fid, .slice fx fn fcc] 133):=⟨_,rfl⟩;rw[<-hw3];have h23:Below wr.heap.size wr w3:=by rw[hw3];exact bl1 wr _
   have hbox:w3.heap[wr.heap.size]?=some (.cells #[.int .i64 fid, .slice fx fn fcc] 133):=by rw[hw3];exact aB _ rfl
   clear hw3 c0 c1;have s0:=cell_later h23 r0;have s1:=cell_later h23 r1;have s2:=cell_later h23 r2;have s3:=cell_later h23 r3;clear r0 r1 r2 r3;obtain⟨hcl, -⟩:=aC hbox;have t0:w3.cell? ⟨wr.heap.size,0,none⟩=some (.int .i64 fid):=hcl 0;have t1:w3.cell? ⟨wr.heap.size,1,none⟩=some (.slice fx fn fcc):=hcl 1;clear hcl hbox;have hall3:Below bk w w3:=hall.trans (h23.mono (by have:=h02.size;have:=hB.size;omega));have hB3:Below w2.heap.size w2 w3:=hB.trans (h23.mono hB.size);have hI3:=hI.later h23
   cases hw:dE fid 1 65536
   ·go_wp2_with (go_at_call 81;refine(isId_is _ _ hw _).mono ?_;rintro e w4 ⟨rfl,rfl⟩);go_ret;exact⟨aM (by rw[hbd.out,gX hlt'.out (by rw[hta.out,hw];rfl)];rfl),by rw[hbk];exact hall3⟩
   ·by_cases h0:0<fn
    ·have hd:Hid (decide (0<fn)=true):=by show _=_;simpa using h0
     have hne:((fn:Int)==0)=false:=by simp;omega
     cases had:US a l fn ns
     ·go_wp2_with (first|(go_at_call 81;refine(isId_is _ _ hw _).mono ?_;rintro e w4 ⟨rfl,rfl⟩)|(go_at_call 260;refine(qK _ _ _ _ _ _ _ had _ hr hI3 (by omega)).mono ?_;rintro e w4 ⟨rfl,hb4⟩))
      go_ret;exact⟨aM (by rw[hbd.out,gX hlt'.out (by rw[hta.out,hw,hd.out,had];rfl)];rfl),by rw[hbk];exact hall3.trans (hb4.mono (by have:=hall3.size;omega))⟩
     ·go_wp2_with (first|(go_at_call 81;refine(isId_is _ _ hw _).mono ?_;rintro e w4 ⟨rfl,rfl⟩)|(go_at_call 260;refine(qK _ _ _ _ _ _ _ had _ hr hI3 (by omega)).mono ?_;rintro e w4 ⟨rfl,hb4⟩))
      go_roundw
      case rel=>exact⟨k+1,hlt'.out,by go_num,hB3.trans (hb4.mono hB3.size),fun j hj=>by
       by_cases hj2:j<k
       ·exact hok j hj2
       ·obtain rfl:j=k:=by omega
        rw[hta.out,hw,hd.out,had];rfl⟩
      case measure=>simp[intOf];have:=hlt'.out;omega
    ·obtain rfl:fn=0:=by omega
     go_wp2_with (go_at_call 81;refine(isId_is _ _ hw _).mono ?_;rintro e w4 ⟨rfl,rfl⟩);go_ret;exact⟨aM (by rw[hbd.out,gX hlt'.out (by rw[hta.out,hw];rfl)];rfl),by rw[hbk];exact hall3⟩
  ·obtain rfl:k=n:=by omega
   have hpr:=hp2.later hB;go_wp2_with fail;refine(NU x k c fs wr.heap.size 1 _ (hpr.later (bl1 wr _)) (by omega) (by simp)).mono ?_;rintro e w3 ⟨rfl,hb3⟩;have h23:=(bl1 wr _).trans (hb3.mono (by simp));clear hb3;have hall3:Below bk w w3:=hall.trans (h23.mono (by have:=h02.size;have:=hB.size;omega));have s0:=cell_later h23 r0;have s1:=cell_later h23 r1;have s2:=cell_later h23 r2;have s3:=cell_later h23 r3;clear r0 r1 r2 r3
   cases hri:rI fs
   ·go_wp2;go_ret;exact⟨aM (by rw[hbd.out,hri];simp),by rw[hbk];exact hall3⟩
   ·go_wp2_with fail;refine(zY id a l x k c fs _ (hpr.later h23) (by omega) (fun i hi=>by have:=hm i hi;omega) (fun i hi j hj=>zZ hr (XG (by
     have:=hok i hi;unfold qL at this;simp only[zH]at this;exact this.2) j hj))).mono ?_
    rintro e w4 ⟨bm,D,rfl,hbm,hO,hC,hb4⟩;go_wp2_with (go_at_call 262;refine(twice_any _ _ _ _ _ hO hC).mono ?_;rintro e w5 ⟨rfl,hb5⟩);go_ret;have h4:=hall3.trans (hb4.mono (by have:=hall3.size;omega));exact⟨aM (by rw[hbd.out,hri,oM hok];simp),by rw[hbk];exact h4.trans (hb5.mono (by have:=h4.size;omega))⟩
theorem B4(id a l:Int)(x:Option Addr)(n c:Nat)(fs:List Fc)(t:Bool)(h:sZ a l n fs=t)(w:World)(hr:rt a l=true)(hp:sD w x n fs)(hn:n<=8)(hm:∀i,i<n->(fcAt fs i).n<=4):
  Calls Tryz.prog 235 #[.agg #[.int .i64 id, .int .i64 a, .int .i64 l, .slice x n c]] w fun e w'=>e= .returned (.bool t)/\Below w.heap.size w w':=by
 subst h;exact AA id a l x n c fs w hr hp hn hm
def tA(rn:Nat)(rs:List Rg)(ss:List Sb)(i:Nat):Bool:=rJ rn rs (sbAt ss i).id (sbAt ss i).a (sbAt ss i).l&&!anyAt i (C4 ss (sbAt ss i).a (sbAt ss i).l)&&sZ (sbAt ss i).a (sbAt ss i).l (sbAt ss i).n (sbAt ss i).fs
def B5(rn:Nat)(rs:List Rg)(n:Nat)(ss:List Sb):Bool:=(List.range n).all (tA rn rs ss)&&rH ss
theorem RU(h:anyAt n f=true):∃i,i<n/\f i=true:=by
 unfold anyAt at h;rw[List.any_eq_true]at h;obtain⟨i,hi,hf⟩:=h;exact⟨i,by simpa using hi,hf⟩
theorem RW{id:Int}(h:rJ rn rs id a l=true):rt a l=true:=by
 unfold rJ at h;rw[zH]at h;obtain⟨i, -,hi⟩:=RU h.2;unfold riB iH at hi;simp only[zH]at hi;exact hi.1.1.1
theorem B6(vid:Int)(rx:Option Addr)(rn rc:Nat)(rs:List Rg)(x:Option Addr)(n c:Nat)(ss:List Sb)(w:World)(hR:RS w rx rn rs)(hrn:rn<=4)(hp:SS w x n ss)(hn:n<=6)(hnc:n<=c)
 (hm:∀i,i<n->(sbAt ss i).n<=8)(hm2:∀i,i<n->∀j,j<(sbAt ss i).n->(fcAt (sbAt ss i).fs j).n<=4):
  Calls Tryz.prog 189 #[.agg #[.int .i64 vid, .slice rx rn rc, .slice x n c]] w fun e w'=>e= .returned (.bool (B5 rn rs n ss))/\Below w.heap.size w w':=by
 have hbd:Hid (B5 rn rs n ss=((List.range n).all (tA rn rs ss)&&rH ss)):=rfl;go_enter Tryz.func189,Tryz.ntmps189;go_upto_region 1 with fail
 obtain⟨w2,hw2⟩:∃w2,w2=w.alloc (.cells #[.int .i64 vid, .slice rx rn rc, .slice x n c] 92):=⟨_,rfl⟩;rw[<-hw2];have h02:Below w.heap.size w w2:=by rw[hw2];exact bl1 w _
 have hbox:w2.heap[w.heap.size]?=some (.cells #[.int .i64 vid, .slice rx rn rc, .slice x n c] 92):=by rw[hw2];exact aB _ rfl
 clear hw2;have hp2:=hp.later h02;have hR2:=hR.later h02;obtain⟨hcl, -⟩:=aC hbox;have q0:w2.cell? ⟨w.heap.size,0,none⟩=some (.int .i64 vid):=hcl 0;have q1:w2.cell? ⟨w.heap.size,1,none⟩=some (.slice rx rn rc):=hcl 1;have q2:w2.cell? ⟨w.heap.size,2,none⟩=some (.slice x n c):=hcl 2;clear hcl hbox;generalize hbk:w.heap.size=bk at*;go_wp2;go_loopw [8] (fun i wr=>∃k:Nat,k<=n/\i= .int .i64 k/\Below w2.heap.size w2 wr/\(∀j,j<k->tA rn rs ss j=true)) (fun i _=>n- (intOf i).toNat)
 case atStart=>exact⟨0,by omega,rfl,zD,fun j hj=>by omega⟩
 case round=>
  obtain⟨k,hk,rfl,hB,hok⟩:=hrel
  have r0:=cell_later hB q0
  have r1:=cell_later hB q1
  have r2:=cell_later hB q2
  have hall:Below bk w wr:=h02.trans (hB.mono (by have:=h02.size;omega))
  clear q0 q1 q2
  by_cases hlt:k<n
  ·have hlt':Hid (k<n):=hlt;have hpr:=hp2.later hB;obtain⟨b,o,rfl,c0,c1,c2,c3⟩:=hpr.cells k hlt;have hF:=(hpr.faces k hlt).2.2;have hm1:=hm k hlt;have hm3:=hm2 k hlt;have hta:Hid (tA rn rs ss k=(rJ rn rs (sbAt ss k).id (sbAt ss k).a (sbAt ss k).l&&!anyAt k (C4 ss (sbAt ss k).a (sbAt ss k).l)&&sZ (sbAt ss k).a (sbAt ss k).l (sbAt ss k).n (sbAt ss k).fs)):=rfl;generalize hf:sbAt ss k=s at*;obtain⟨sid,sa,sl,sx,sn,scc,fs⟩:=s;simp only at*;clear hf;go_upto_region 4 with fail
   obtain⟨w3,hw3⟩:∃w3,w3=wr.alloc (.cells #[.int .i64 sid, .int .i64 sa, .int .i64 sl, .slice sx sn scc] 130):=⟨_,rfl⟩;rw[<-hw3];have h23:Below wr.heap.size wr w3:=by rw[hw3];exact bl1 wr _
   have hbox:w3.heap[wr.heap.size]?=some (.cells #[.int .i64 sid, .int .i64 sa, .int .i64 sl, .slice sx sn scc] 130):=by rw[hw3];exact aB _ rfl
   clear hw3 c0 c1 c2 c3;have s0:=cell_later h23 r0;have s1:=cell_later h23 r1;have s2:=cell_later h23 r2;clear r0 r1 r2;obtain⟨hcl, -⟩:=aC hbox;have t0:w3.cell? ⟨wr.heap.size,0,none⟩=some (.int .i64 sid):=hcl 0;have t1:w3.cell? ⟨wr.heap.size,1,none⟩=some (.int .i64 sa):=hcl 1;have t2:w3.cell? ⟨wr.heap.size,2,none⟩=some (.int .i64 sl):=hcl 2;have t3:w3.cell? ⟨wr.heap.size,3,none⟩=some (.slice sx sn scc):=hcl 3;clear hcl hbox;have hall3:Below bk w w3:=hall.trans (h23.mono (by have:=h02.size;have:=hB.size;omega));have hB3:Below w2.heap.size w2 w3:=hB.trans (h23.mono hB.size);have hF3:=hF.later h23;have hR3:=hR2.later hB3;have hp3:=hp2.later hB3;have g0:=Ws.here s0;have g1:=Ws.here s1;have g2:=Ws.here s2;have k0:=Ws.here t0;have k1:=Ws.here t1;have k2:=Ws.here t2;have k3:=Ws.here t3;clear s0 s1 s2 t0 t1 t2 t3
   cases hu:rJ rn rs sid sa sl
   ·refine aH w3.heap.size (by kernel_rfl) (by kernel_rfl) ?_;repeat(go_big_quiet_step ((go_at_call 165;exact Calls.in_ws (zE) (kU _ _ _ _ _ _ _ _ _ _ _ _ hu _ (hR3.later (Ws.property _)) (by omega)))))
    refine wpQuiet_nil ?_;rintro _ ⟨u,rfl⟩;have hu2:=hall3.trans (u.property.mono (by have:=hall3.size;omega));generalize u.val=wu at hu2⊢;clear u g0 g1 g2 k0 k1 k2 k3;go_wp2;go_ret;exact⟨aM (by rw[hbd.out,gX hlt'.out (by rw[hta.out,hu];rfl)];rfl),by rw[hbk];exact hu2⟩
   ·have hrt:=RW hu
    cases ha:anyAt k (C4 ss sa sl)
    ·cases hfb:sZ sa sl sn fs;all_goals refine aH w3.heap.size (by kernel_rfl) (by kernel_rfl) ?_
     all_goals repeat(go_big_quiet_step (first|(go_at_call 165;exact Calls.in_ws (zE) (kU _ _ _ _ _ _ _ _ _ _ _ _ hu _ (hR3.later (Ws.property _)) (by omega)))|(go_at_call 167;exact Calls.in_ws (zE) (wM ss k _ n _ _ _ (hp3.later (Ws.property _)) (by omega) (by omega) _ _ ha))|(go_at_call 235;exact Calls.in_ws (zE) (B4 _ _ _ _ _ _ _ _ hfb _ hrt (hF3.later (Ws.property _)) hm1 hm3))))
     all_goals refine wpQuiet_nil ?_
     all_goals rintro _ ⟨u,rfl⟩
     all_goals have hu2:=hall3.trans (u.property.mono (by have:=hall3.size;omega))
     all_goals have hu3:=hB3.trans (u.property.mono hB3.size)
     all_goals generalize u.val=wu at hu2 hu3⊢
     all_goals clear u g0 g1 g2 k0 k1 k2 k3
     ·go_wp2;go_ret;exact⟨aM (by rw[hbd.out,gX hlt'.out (by rw[hta.out,hu,ha,hfb];rfl)];rfl),by rw[hbk];exact hu2⟩
     ·go_wp2;go_roundw
      case rel=>exact⟨k+1,hlt'.out,by go_num,hu3,fun j hj=>by
       by_cases hj2:j<k
       ·exact hok j hj2
       ·obtain rfl:j=k:=by omega
        rw[hta.out,hu,ha,hfb];rfl⟩
      case measure=>simp[intOf];have:=hlt'.out;omega
    ·refine aH w3.heap.size (by kernel_rfl) (by kernel_rfl) ?_;repeat(go_big_quiet_step (first|(go_at_call 165;exact Calls.in_ws (zE) (kU _ _ _ _ _ _ _ _ _ _ _ _ hu _ (hR3.later (Ws.property _)) (by omega)))|(go_at_call 167;exact Calls.in_ws (zE) (wM ss k _ n _ _ _ (hp3.later (Ws.property _)) (by omega) (by omega) _ _ ha))))
     refine wpQuiet_nil ?_;rintro _ ⟨u,rfl⟩;have hu2:=hall3.trans (u.property.mono (by have:=hall3.size;omega));generalize u.val=wu at hu2⊢;clear u g0 g1 g2 k0 k1 k2 k3;go_wp2;go_ret;exact⟨aM (by rw[hbd.out,gX hlt'.out (by rw[hta.out,hu,ha];rfl)];rfl),by rw[hbk];exact hu2⟩
  ·obtain rfl:k=n:=by omega
   have hpr:=hp2.later hB;go_wp2_with fail;refine(NT x k c ss wr.heap.size 1 _ (hpr.later (bl1 wr _)) (by omega) (by simp)).mono ?_;rintro e w3 ⟨rfl,hb3⟩;have h23:=(bl1 wr _).trans (hb3.mono (by simp));clear hb3;have hall3:Below bk w w3:=hall.trans (h23.mono (by have:=h02.size;have:=hB.size;omega));go_wp2;go_ret;exact⟨aM (by rw[hbd.out,oM hok];rfl),by rw[hbk];exact hall3⟩
theorem subsRight_is(vid:Int)(rx:Option Addr)(rn rc:Nat)(rs:List Rg)(x:Option Addr)(n c:Nat)(ss:List Sb)(t:Bool)(h:B5 rn rs n ss=t)(w:World)(hR:RS w rx rn rs)(hrn:rn<=4)(hp:SS w x n ss)(hn:n<=6)(hnc:n<=c)
 (hm:∀i,i<n->(sbAt ss i).n<=8)(hm2:∀i,i<n->∀j,j<(sbAt ss i).n->(fcAt (sbAt ss i).fs j).n<=4):
  Calls Tryz.prog 189 #[.agg #[.int .i64 vid, .slice rx rn rc, .slice x n c]] w fun e w'=>e= .returned (.bool t)/\Below w.heap.size w w':=by
 subst h;exact B6 vid rx rn rc rs x n c ss w hR hrn hp hn hnc hm hm2
def bD(vid:Int)(rn:Nat)(rs:List Rg)(sn:Nat)(ss:List Sb):Int:=if eL rn sn ss then 2 else if dE vid 1 65536&&EY rn rs&&B5 rn rs sn ss then 0 else 1
theorem few(h:eL rn sn ss=false):rn<=4/\sn<=6/\(∀i,i<sn->(sbAt ss i).n<=8)/\∀i,i<sn->∀j,j<(sbAt ss i).n->(fcAt (sbAt ss i).fs j).n<=4:=by
 unfold eL at h;simp only[Bool.or_eq_false_iff,decide_eq_false_iff_not]at h;obtain⟨⟨h1,h2⟩,h3⟩:=h;have h4:∀i,i<sn->fR (sbAt ss i)=false:=fun i hi=>by
  cases e:fR (sbAt ss i)
  ·rfl
  ·have:=bR (f:=fun i=>fR (sbAt ss i)) hi e;rw[this]at h3;cases h3
 have h5:∀i,i<sn->(sbAt ss i).n<=8/\∀j,j<(sbAt ss i).n->(fcAt (sbAt ss i).fs j).n<=4:=fun i hi=>by
  have:=h4 i hi;unfold fR at this;simp only[Bool.or_eq_false_iff,decide_eq_false_iff_not]at this;refine⟨by omega,fun j hj=>?_⟩;by_cases e:4<(fcAt (sbAt ss i).fs j).n
  ·have h6:=bR (f:=fun j=>decide (4<(fcAt (sbAt ss i).fs j).n)) hj (by simpa using e);rw[h6]at this;cases this.2
  ·omega
 exact⟨by omega,by omega,fun i hi=>(h5 i hi).1,fun i hi=>(h5 i hi).2⟩
theorem tooMany_is(vid:Int)(rx sx:Option Addr)(rn rc sn sc:Nat)(ss:List Sb)(t:Bool)(h:eL rn sn ss=t)(w:World)(hr63:rn<=9223372036854775807)(hp:SS w sx sn ss)(hs:sn<=9223372036854775807):
  Calls Tryz.prog 187 #[.agg #[.int .i64 vid, .slice rx rn rc, .slice sx sn sc]] w fun e w'=>e= .returned (.bool t)/\Below w.heap.size w w':=by
 subst h;exact HN vid rx sx rn rc sn sc ss w hr63 hp hs
theorem checkV_any(vid:Int)(rx:Option Addr)(rn rc:Nat)(rs:List Rg)(sx:Option Addr)(sn sc:Nat)(ss:List Sb)(w:World)(hv:Vp w rx rn rc rs sx sn sc ss)(hrn:rn<=9223372036854775807)(hsn:sn<=9223372036854775807)(hrc:rc<=9223372036854775807):
  Calls Tryz.prog 128 #[.agg #[.int .i64 vid, .slice rx rn rc, .slice sx sn sc]] w fun e w'=>e= .returned (.int .i64 (bD vid rn rs sn ss))/\Below w.heap.size w w':=by
 have hbd:Hid (bD vid rn rs sn ss=if eL rn sn ss then 2 else if dE vid 1 65536&&EY rn rs&&B5 rn rs sn ss then 0 else 1):=rfl;go_enter Tryz.func128,Tryz.ntmps128;go_upto_region 1 with fail
 obtain⟨w2,hw2⟩:∃w2,w2=w.alloc (.cells #[.int .i64 vid, .slice rx rn rc, .slice sx sn sc] 92):=⟨_,rfl⟩;rw[<-hw2];have h02:Below w.heap.size w w2:=by rw[hw2];exact bl1 w _
 have hbox:w2.heap[w.heap.size]?=some (.cells #[.int .i64 vid, .slice rx rn rc, .slice sx sn sc] 92):=by rw[hw2];exact aB _ rfl
 clear hw2;have hv2:=hv.later h02;obtain⟨hcl, -⟩:=aC hbox;have q0:w2.cell? ⟨w.heap.size,0,none⟩=some (.int .i64 vid):=hcl 0;have q1:w2.cell? ⟨w.heap.size,1,none⟩=some (.slice rx rn rc):=hcl 1;have q2:w2.cell? ⟨w.heap.size,2,none⟩=some (.slice sx sn sc):=hcl 2;clear hcl hbox;have hsz:Hid (w.heap.size<=w2.heap.size):=h02.size;generalize hbk:w.heap.size=bk at*
 cases hmy:eL rn sn ss
 ·obtain⟨f1,f2,f3,f4⟩:=few hmy;go_wp2_with fail;refine(tooMany_is _ _ _ _ _ _ _ _ _ hmy _ hrn hv2.subs hsn).mono ?_;rintro e w3 ⟨rfl,hb3⟩;have r0:=cell_later hb3 q0;have r1:=cell_later hb3 q1;have r2:=cell_later hb3 q2;clear q0 q1 q2;have hv3:=hv2.later hb3;have h03:Below bk w w3:=h02.trans (hb3.mono hsz.out);have hsz3:Hid (bk<=w3.heap.size):=Nat.le_trans hsz.out hb3.size
  cases hw:dE vid 1 65536
  ·go_wp2_with (go_at_call 81;refine(isId_is _ _ hw _).mono ?_;rintro e w4 ⟨rfl,rfl⟩);go_ret;exact⟨cO (by rw[hbd.out,hmy,hw];rfl),by rw[hbk];exact h03⟩
  ·go_wp2_with fail;refine(isId_is _ _ hw _).mono ?_;rintro e w4 ⟨rfl,rfl⟩
   cases hr:EY rn rs
   ·go_wp2_with (go_at_call 188;refine(rangesRight_is _ _ _ _ _ hr _ hv3.ranges (by omega) hv3.rcap hrc).mono ?_;rintro e w4 ⟨rfl,hb4⟩);go_ret;exact⟨cO (by rw[hbd.out,hmy,hw,hr];rfl),by rw[hbk];exact h03.trans (hb4.mono hsz3.out)⟩
   ·go_wp2_with fail;refine(rangesRight_is _ _ _ _ _ hr _ hv3.ranges (by omega) hv3.rcap hrc).mono ?_;rintro e w4 ⟨rfl,hb4⟩;have s0:=cell_later hb4 r0;have s1:=cell_later hb4 r1;have s2:=cell_later hb4 r2;clear r0 r1 r2;have hv4:=hv3.later hb4;have h04:Below bk w w4:=h03.trans (hb4.mono hsz3.out);have hsz4:Hid (bk<=w4.heap.size):=Nat.le_trans hsz3.out hb4.size
    cases hs:B5 rn rs sn ss;all_goals go_wp2_with (go_at_call 189;refine(subsRight_is _ _ _ _ _ _ _ _ _ _ hs _ hv4.ranges f1 hv4.subs f2 hv4.scap f3 f4).mono ?_;rintro e w5 ⟨rfl,hb5⟩)
    all_goals go_ret
    all_goals exact⟨cO (by rw[hbd.out,hmy,hw,hr,hs];rfl),by rw[hbk];exact h04.trans (hb5.mono hsz4.out)⟩
 ·go_wp2_with (go_at_call 187;refine(tooMany_is _ _ _ _ _ _ _ _ _ hmy _ hrn hv2.subs hsn).mono ?_;rintro e w3 ⟨rfl,hb3⟩);go_ret;exact⟨cO (by rw[hbd.out,hmy];rfl),by rw[hbk];exact h02.trans (hb3.mono hsz.out)⟩
def RX(g:Nat)(cap:Array Value)(n:Nat)(ps:List Vn)(f:Nat->Bool)(w:World):Prop:=
 ∀i,i<n->∀W,Below w.heap.size w W->Calls Tryz.prog g (#[.agg #[.int .i64 (aE ps i).id, .slice (aE ps i).rx (aE ps i).rn (aE ps i).rc, .slice (aE ps i).sx (aE ps i).sn (aE ps i).sc]]++cap) W fun e W'=>e= .returned (.bool (f i))/\Below W.heap.size W W'
theorem iL(g:Nat)(cap:Array Value)(x:Option Addr)(n c:Nat)(ps:List Vn)(f:Nat->Bool)(w:World)(hp:VS w x n ps)(hn:n<=1048576)(hF:RX g cap n ps f w)
 (hg:∀args W,(callFunc g args).run Tryz.prog W= .ok (.enter g args) W):
  Calls Tryz.prog 154 #[.slice x n c, .func (.func g) #[] cap] w fun e w'=>(∃r:Int,e= .returned (.int .i64 r)/\((∃i:Nat,i<n/\f i=true/\(∀j,j<i->f j=false)/\r=i)\/((∀j,j<n->f j=false)/\r= -1)))/\Below w.heap.size w w':=(nG.2.2.2.2.2.2.1 g cap x n c _ f w hp.idx (by omega) hF hg).1
theorem rM(g:Nat)(cap:Array Value)(x:Option Addr)(n c:Nat)(ps:List Vn)(f:Nat->Bool)(w:World)(hp:VS w x n ps)(hn:n<=1048576)(hF:RX g cap n ps f w)
 (hg:∀args W,(callFunc g args).run Tryz.prog W= .ok (.enter g args) W):
  Calls Tryz.prog 126 #[.slice x n c, .func (.func g) #[] cap] w fun e w'=>e= .returned (.bool (anyAt n f))/\Below w.heap.size w w':=(nG.2.2.2.2.2.2.1 g cap x n c _ f w hp.idx (by omega) hF hg).2
def RY(g:Nat)(cap:Array Value)(n:Nat)(ps:List (Int×Int))(f:Nat->Bool)(w:World):Prop:=
 ∀i,i<n->∀W,Below w.heap.size w W->Calls Tryz.prog g (#[.agg #[.int .i64 (cM ps i), .int .i64 (eF ps i)]]++cap) W fun e W'=>e= .returned (.bool (f i))/\Below W.heap.size W W'
theorem xL(g:Nat)(cap:Array Value)(x:Option Addr)(n c:Nat)(ps:List (Int×Int))(f:Nat->Bool)(w:World)(hp:PS w x n ps)(hn:n<=1048576)(hF:RY g cap n ps f w)
 (hg:∀args W,(callFunc g args).run Tryz.prog W= .ok (.enter g args) W):
  Calls Tryz.prog 180 #[.slice x n c, .func (.func g) #[] cap] w fun e w'=>(∃r:Int,e= .returned (.int .i64 r)/\((∃i:Nat,i<n/\f i=true/\(∀j,j<i->f j=false)/\r=i)\/((∀j,j<n->f j=false)/\r= -1)))/\Below w.heap.size w w':=(nG.2.2.2.2.2.2.2 g cap x n c _ f w hp.idx (by omega) hF hg).1
theorem rN(g:Nat)(cap:Array Value)(x:Option Addr)(n c:Nat)(ps:List (Int×Int))(f:Nat->Bool)(w:World)(hp:PS w x n ps)(hn:n<=1048576)(hF:RY g cap n ps f w)
 (hg:∀args W,(callFunc g args).run Tryz.prog W= .ok (.enter g args) W):
  Calls Tryz.prog 130 #[.slice x n c, .func (.func g) #[] cap] w fun e w'=>e= .returned (.bool (anyAt n f))/\Below w.heap.size w w':=(nG.2.2.2.2.2.2.2 g cap x n c _ f w hp.idx (by omega) hF hg).2
theorem wN(p r:Vn)(v:Int)(hv:F7 p.id r.id v)(bb kk:Nat)(w:World)(hby:w.cell? ⟨bb,0,none⟩=some (.func (.func 125) #[] #[])):
  Calls Tryz.prog 186 #[.agg #[.int .i64 p.id, .slice p.rx p.rn p.rc, .slice p.sx p.sn p.sc], .agg #[.int .i64 r.id, .slice r.rx r.rn r.rc, .slice r.sx r.sn r.sc], .slice (some ⟨bb,0,none⟩) 1 kk] w fun e w'=>e= .returned (.int .i64 v)/\Below w.heap.size w w':=NC.2.2.2.2.2 bys.2.2.2.2.2 p r v hv bb kk w hby
def EZ(ps:List Vn)(i:Nat):Bool:=i==0||decide ((aE ps (i- 1)).id<(aE ps i).id)
def oO(ps:List Vn):Bool:=(List.range ps.length).all (EZ ps)
theorem NW(x:Option Addr)(n c:Nat)(ps:List Vn)(bb kk:Nat)(w:World)(hp:VS w x n ps)(hn:n<=64)(hby:w.cell? ⟨bb,0,none⟩=some (.func (.func 125) #[] #[])):
  Calls Tryz.prog 124 #[.slice x n c, .slice (some ⟨bb,0,none⟩) 1 kk] w fun e w'=>e= .returned (.bool (oO ps))/\Below w.heap.size w w':=by
 refine(CO.2.2.2.2.2 (aE ps) (fun i=>decide ((aE ps i).id<(aE ps (i+1)).id)) x n c bb 1 kk w hn (fun i hi=>?_) (fun i hi=>?_)).mono ?_
 ·obtain⟨b,o,hx,d0,d1,d2⟩:=hp.cells i hi;exact⟨b,o,hx,by rintro(_|_|_|q) hq<;>first|assumption|omega⟩
 ·obtain⟨v,hv,hd⟩:=uH ((aE ps i).id) ((aE ps (i+1)).id);exact⟨v,hd,fun W hW=>wN _ _ v hv bb kk W (cell_later hW hby)⟩
 ·rintro e w1 ⟨t,rfl,hb,h⟩;exact⟨congrArg (fun t=>Ending.returned (.bool t)) ((pN (R:=EZ ps) rfl (fun _=>rfl) h).trans (by rw[<-hp.len];rfl)),hb⟩
def aJ(n:Nat)(vs:List Vn)(id:Int):Int:=match(List.range n).find? (fun i=>(aE vs i).id==id)with |some i=>i|none=> -1
theorem AB{id:Int}(hi:i<n)(h:((aE vs i).id==id)=true)(hno:∀j,j<i->((aE vs j).id==id)=false):aJ n vs id=i:=by
 unfold aJ;have:(List.range n).find? (fun i=>(aE vs i).id==id)=some i:=by
  rw[List.find?_range_eq_some];exact⟨h,by simpa using hi,fun j hj=>by simp[hno j hj]⟩
 rw[this]
theorem DB{id:Int}(hno:∀j,j<n->((aE vs j).id==id)=false):aJ n vs id= -1:=by
 unfold aJ;have:(List.range n).find? (fun i=>(aE vs i).id==id)=none:=by
  rw[List.find?_eq_none];intro j hj;simp[hno j (by simpa using hj)]
 rw[this]
theorem J8(id:Int)(p:Vn)(b:Nat)(w:World)(h0:w.cell? ⟨b,0,none⟩=some (.int .i64 id)):
  Calls Tryz.prog 179 #[.agg #[.int .i64 p.id, .slice p.rx p.rn p.rc, .slice p.sx p.sn p.sc], .pointer (some ⟨b,0,none⟩)] w fun e w'=>e= .returned (.bool (p.id==id))/\Below w.heap.size w w':=by
 have k0:∀q,(w.alloc q).cell? ⟨b,0,none⟩=some (.int .i64 id):=fun q=>cell_later (bl1 w q) h0;go_enter Tryz.func179,Tryz.ntmps179;go_wp2;go_ret;exact⟨rfl,bl1 w _⟩
theorem HP(args:Array Value)(W:World):(callFunc 179 args).run Tryz.prog W= .ok (.enter 179 args) W:=by simp[go_sem]
theorem place_any(id:Int)(x:Option Addr)(n c:Nat)(vs:List Vn)(lx:Option Addr)(ln lc:Nat)(w:World)(hp:VS w x n vs)(hn:n<=1048576):
  Calls Tryz.prog 107 #[.agg #[.slice x n c, .slice lx ln lc], .int .i64 id] w fun e w'=>e= .returned (.int .i64 (aJ n vs id))/\Below w.heap.size w w':=by
 go_enter Tryz.func107,Tryz.ntmps107;go_wp2_with fail;refine(iL 179 #[.pointer (some ⟨w.heap.size+1,0,none⟩)] x n c vs (fun i=>(aE vs i).id==id) _ (hp.later (bO w _ _)) hn (fun i _ W hW=>J8 id (aE vs i) (w.heap.size+1) W (cell_later hW (by simp))) HP).mono ?_;rintro e w1 ⟨⟨r,rfl,hr⟩,hb1⟩;have hrv:r=aJ n vs id:=by
  rcases hr with ⟨i,hi,hf,hno,rfl⟩|⟨hno,rfl⟩
  ·exact(AB hi hf hno).symm
  ·exact(DB hno).symm
 subst hrv;go_wp2;go_ret;exact⟨rfl,(bO w _ _).trans (hb1.mono (by simp;omega))⟩
theorem tB(id:Int)(x:Option Addr)(n c:Nat)(vs:List Vn)(lx:Option Addr)(ln lc:Nat)(t:Int)(h:aJ n vs id=t)(w:World)(hp:VS w x n vs)(hn:n<=1048576):
  Calls Tryz.prog 107 #[.agg #[.slice x n c, .slice lx ln lc], .int .i64 id] w fun e w'=>e= .returned (.int .i64 t)/\Below w.heap.size w w':=by
 subst h;exact place_any id x n c vs lx ln lc w hp hn
def mK(v:Vn):Bool:=!(bD v.id v.rn v.rs v.sn v.ss==0)
theorem AC(p:Vn)(w:World)(hr:p.rn<=9223372036854775807)(hs:p.sn<=9223372036854775807)(hrc:p.rc<=9223372036854775807)(hv:Vp w p.rx p.rn p.rc p.rs p.sx p.sn p.sc p.ss):
  Calls Tryz.prog 127 #[.agg #[.int .i64 p.id, .slice p.rx p.rn p.rc, .slice p.sx p.sn p.sc]] w fun e w'=>e= .returned (.bool (mK p))/\Below w.heap.size w w':=by
 go_enter Tryz.func127,Tryz.ntmps127;go_wp2_with (go_at_call 128;refine(checkV_any _ _ _ _ _ _ _ _ _ _ (hv.later (bl1 w _)) hr hs hrc).mono ?_;rintro e w1 ⟨rfl,hb1⟩);go_ret;exact⟨aM (by unfold mK;simp[bne]),(bl1 w _).trans (hb1.mono (by simp))⟩
theorem xM(args:Array Value)(W:World):(callFunc 127 args).run Tryz.prog W= .ok (.enter 127 args) W:=by simp[go_sem]
def jY(n:Nat)(vs:List Vn):Bool:=oO vs&&!anyAt n fun i=>mK (aE vs i)
theorem B7(x:Option Addr)(n c:Nat)(vs:List Vn)(w:World)(hp:VS w x n vs)(hn:n<=64):
  Calls Tryz.prog 62 #[.slice x n c] w fun e w'=>e= .returned (.bool (jY n vs))/\Below w.heap.size w w':=by
 have hbd:Hid (jY n vs=(oO vs&&!anyAt n fun i=>mK (aE vs i))):=rfl;go_enter Tryz.func62,Tryz.ntmps62;go_wp2_with fail;refine(NW x n c vs w.heap.size 1 _ (hp.later (bl1 w _)) hn (by simp)).mono ?_;rintro e w1 ⟨rfl,hb1⟩;have hB:=(bl1 w _).trans (hb1.mono (by simp));clear hb1
 cases hr:oO vs
 ·go_wp2;go_ret;exact⟨aM (by rw[hbd.out,hr];rfl),hB⟩
 ·have hp1:=hp.later hB;go_wp2_with fail;refine(rM 127 #[] x n c vs _ _ hp1 (by omega) (fun i hi W hW=>AC (aE vs i) W (hp1.vps i hi).1 (hp1.vps i hi).2.1 (hp1.vps i hi).2.2.1 ((hp1.vps i hi).2.2.2.later hW)) xM).mono ?_;rintro e w2 ⟨rfl,hb2⟩;go_wp2;go_ret;exact⟨aM (by rw[hbd.out,hr];simp),hB.trans (hb2.mono hB.size)⟩
theorem vpcsRight_is(x:Option Addr)(n c:Nat)(vs:List Vn)(t:Bool)(h:jY n vs=t)(w:World)(hp:VS w x n vs)(hn:n<=64):
  Calls Tryz.prog 62 #[.slice x n c] w fun e w'=>e= .returned (.bool t)/\Below w.heap.size w w':=by
 subst h;exact B7 x n c vs w hp hn
def DC(rn:Nat)(rs:List Rg)(qn:Nat)(qs:List Rg):Bool:=anyAt rn fun i=>anyAt qn fun j=>kL (aQ rs i).a (aQ rs i).l (aQ qs j).a (aQ qs j).l
theorem J9(c m:Int)(p:Rg)(b:Nat)(w:World)(h0:w.cell? ⟨b,0,none⟩=some (.int .i64 c))(h1:w.cell? ⟨b,1,none⟩=some (.int .i64 m)):
  Calls Tryz.prog 192 #[.agg #[.int .i64 p.a, .int .i64 p.l, .int .i64 p.p], .pointer (some ⟨b,0,none⟩)] w fun e w'=>e= .returned (.bool (kL c m p.a p.l))/\Below w.heap.size w w':=by
 have k0:∀q,(w.alloc q).cell? ⟨b,0,none⟩=some (.int .i64 c):=fun q=>cell_later (bl1 w q) h0;have k1:∀q,(w.alloc q).cell? ⟨b,1,none⟩=some (.int .i64 m):=fun q=>cell_later (bl1 w q) h1;go_enter Tryz.func192,Tryz.ntmps192;go_wp2_with (go_at_call 146;refine(meets_any _ _ _ _ _).mono ?_;rintro e w1 ⟨rfl,hb1⟩);go_ret;exact⟨rfl,(bl1 w _).trans (hb1.mono (by simp))⟩
theorem HQ(args:Array Value)(W:World):(callFunc 192 args).run Tryz.prog W= .ok (.enter 192 args) W:=by simp[go_sem]
theorem NX(p:Rg)(qx:Option Addr)(qn qc:Nat)(qs:List Rg)(b:Nat)(w:World)(hq:RS w qx qn qs)(hqn:qn<=64)(h1:w.cell? ⟨b,1,none⟩=some (.slice qx qn qc)):
  Calls Tryz.prog 191 #[.agg #[.int .i64 p.a, .int .i64 p.l, .int .i64 p.p], .pointer (some ⟨b,0,none⟩)] w fun e w'=>e= .returned (.bool (anyAt qn fun j=>kL p.a p.l (aQ qs j).a (aQ qs j).l))/\Below w.heap.size w w':=by
 have k1:∀q,(w.alloc q).cell? ⟨b,1,none⟩=some (.slice qx qn qc):=fun q=>cell_later (bl1 w q) h1;go_enter Tryz.func191,Tryz.ntmps191;go_wp2_with fail;refine(dO 192 #[.pointer (some ⟨w.heap.size,0,none⟩)] qx qn qc qs (fun j=>kL p.a p.l (aQ qs j).a (aQ qs j).l) _ (hq.later (bl1 w _)) (by omega) (fun i _ W hW=>J9 p.a p.l (aQ qs i) w.heap.size W (cell_later hW (by simp)) (cell_later hW (by simp))) HQ).mono ?_;rintro e w1 ⟨rfl,hb1⟩;go_wp2;go_ret;exact⟨rfl,(bl1 w _).trans (hb1.mono (by simp))⟩
theorem KA(args:Array Value)(W:World):(callFunc 191 args).run Tryz.prog W= .ok (.enter 191 args) W:=by simp[go_sem]
theorem NY(p q:Vn)(w:World)(hp:RS w p.rx p.rn p.rs)(hq:RS w q.rx q.rn q.rs)(hpn:p.rn<=64)(hqn:q.rn<=64):
  Calls Tryz.prog 134 #[.agg #[.int .i64 p.id, .slice p.rx p.rn p.rc, .slice p.sx p.sn p.sc], .agg #[.int .i64 q.id, .slice q.rx q.rn q.rc, .slice q.sx q.sn q.sc]] w fun e w'=>e= .returned (.bool (DC p.rn p.rs q.rn q.rs))/\Below w.heap.size w w':=by
 go_enter Tryz.func134,Tryz.ntmps134;go_wp2_with fail;refine(dO 191 #[.pointer (some ⟨w.heap.size+1,0,none⟩)] p.rx p.rn p.rc p.rs (fun i=>anyAt q.rn fun j=>kL (aQ p.rs i).a (aQ p.rs i).l (aQ q.rs j).a (aQ q.rs j).l) _ (hp.later (bO w _ _)) (by omega) (fun i _ W hW=>NX (aQ p.rs i) q.rx q.rn q.rc q.rs (w.heap.size+1) W ((hq.later (bO w _ _)).later hW) hqn (cell_later hW (by simp))) KA).mono ?_;rintro e w1 ⟨rfl,hb1⟩;go_wp2;go_ret;exact⟨rfl,(bO w _ _).trans (hb1.mono (by simp;omega))⟩
theorem RZ(p q:Vn)(t:Bool)(h:DC p.rn p.rs q.rn q.rs=t)(w:World)(hp:RS w p.rx p.rn p.rs)(hq:RS w q.rx q.rn q.rs)(hpn:p.rn<=64)(hqn:q.rn<=64):
  Calls Tryz.prog 134 #[.agg #[.int .i64 p.id, .slice p.rx p.rn p.rc, .slice p.sx p.sn p.sc], .agg #[.int .i64 q.id, .slice q.rx q.rn q.rc, .slice q.sx q.sn q.sc]] w fun e w'=>e= .returned (.bool t)/\Below w.heap.size w w':=by
 subst h;exact NY p q w hp hq hpn hqn
theorem NZ(a b:Int)(w:World):
  Calls Tryz.prog 111 #[.agg #[.int .i64 a, .int .i64 b]] w fun e w'=>e= .returned (.int .i64 a)/\Below w.heap.size w w':=by
 go_enter Tryz.func111,Tryz.ntmps111;go_wp2;go_ret;exact⟨rfl,bl1 _ _⟩
theorem N0(a b:Int)(w:World):
  Calls Tryz.prog 112 #[.agg #[.int .i64 a, .int .i64 b]] w fun e w'=>e= .returned (.int .i64 b)/\Below w.heap.size w w':=by
 go_enter Tryz.func112,Tryz.ntmps112;go_wp2;go_ret;exact⟨rfl,bl1 _ _⟩
theorem KB(args:Array Value)(W:World):(callFunc 111 args).run Tryz.prog W= .ok (.enter 111 args) W:=by simp[go_sem]
theorem KC(args:Array Value)(W:World):(callFunc 112 args).run Tryz.prog W= .ok (.enter 112 args) W:=by simp[go_sem]
def VQ(a l c m v:Int):Prop:=(a<c/\v= -1)\/(a=c/\F7 l m v)\/(c<a/\v=1)
theorem wO(a l c m v:Int)(hv:VQ a l c m v)(bb k:Nat)(w:World)(hby:w.cell? ⟨bb,0,none⟩=some (.func (.func 111) #[] #[]))(hby2:w.cell? ⟨bb,1,none⟩=some (.func (.func 112) #[] #[])):
  Calls Tryz.prog 182 #[.agg #[.int .i64 a, .int .i64 l], .agg #[.int .i64 c, .int .i64 m], .slice (some ⟨bb,0,none⟩) 2 k] w fun e w'=>e= .returned (.int .i64 v)/\Below w.heap.size w w':=by
 have hcall:=KB;have hcall2:=KC;go_enter Tryz.func182,Tryz.ntmps182;go_wp2;go_loopw [12] (fun i wr=>∃j:Nat,(j=0\/(j=1/\a=c/\F7 l m v)\/(j=2/\v=0))/\i= .int .i64 j/\Below (w.heap.size+1+1) ((w.alloc (.cells #[.int .i64 a, .int .i64 l] 94)).alloc (.cells #[.int .i64 c, .int .i64 m] 94)) wr) (fun i _=>2- (intOf i).toNat)
 case atStart=>exact⟨0, .inl rfl,rfl,zD⟩
 case round=>
  obtain⟨j,hj,rfl,hB⟩:=hrel
  rcases hj with rfl|⟨rfl,hac,hv2⟩|⟨rfl,hv0⟩
  ·obtain⟨v1,hw⟩:∃v1,F7 a c v1:=by
    rcases Int.lt_trichotomy a c with h|h|h
    ·exact⟨-1, .inl ⟨h,rfl⟩⟩
    ·exact⟨0, .inr (.inl ⟨h,rfl⟩)⟩
    ·exact⟨1, .inr (.inr ⟨h,rfl⟩)⟩
   have hz:=hB.size;simp only[World.size_alloc]at hz;have hbl:bb<w.heap.size:=block_lt_of_cell hby;have e0:wr.cell? ⟨w.heap.size,0,none⟩=some (.int .i64 a):=(hB.cell (p:=⟨w.heap.size,0,none⟩) (by show w.heap.size<_;omega)).trans (by simp);have e1:wr.cell? ⟨w.heap.size,1,none⟩=some (.int .i64 l):=(hB.cell (p:=⟨w.heap.size,1,none⟩) (by show w.heap.size<_;omega)).trans (by simp);have e2:wr.cell? ⟨w.heap.size+1,0,none⟩=some (.int .i64 c):=(hB.cell (p:=⟨w.heap.size+1,0,none⟩) (by show w.heap.size+1<_;omega)).trans (by simp);have e3:wr.cell? ⟨w.heap.size+1,1,none⟩=some (.int .i64 m):=(hB.cell (p:=⟨w.heap.size+1,1,none⟩) (by show w.heap.size+1<_;omega)).trans (by simp);have e4:wr.cell? ⟨bb,0,none⟩=some (.func (.func 111) #[] #[]):=(hB.cell (p:=⟨bb,0,none⟩) (by show bb<_;omega)).trans (cell_later (bO w _ _) hby);have e5:wr.cell? ⟨bb,1,none⟩=some (.func (.func 112) #[] #[]):=(hB.cell (p:=⟨bb,1,none⟩) (by show bb<_;omega)).trans (cell_later (bO w _ _) hby2);have g0:=Ws.here e0;have g1:=Ws.here e1;have g2:=Ws.here e2;have g3:=Ws.here e3;go_upto_region 4 with fail
   clear e0 e1 e2 e3 e4 e5;refine aH wr.heap.size (by kernel_rfl) (by kernel_rfl) ?_;repeat(go_big_quiet_step (first|(go_at_call 111;exact Calls.in_ws (zE) (NZ _ _ _))|(go_at_call 229;exact Calls.in_ws_same (yI _ _ _ hw _))))
   refine wpQuiet_nil ?_;rintro _ ⟨u,rfl⟩;have hu:=hB.trans (u.property.mono hz);generalize u.val=wu at hu⊢;clear u g0 g1 g2 g3;have hv':Hid (VQ a l c m v):=hv;clear hv;rcases hw with ⟨h,rfl⟩|⟨h,rfl⟩|⟨h,rfl⟩
   ·obtain rfl:v= -1:=by
     rcases hv'.out with ⟨_,h2⟩|⟨h2,_⟩|⟨h2,_⟩
     ·exact h2
     ·omega
     ·omega
    go_wp2;go_ret;exact⟨rfl,(bO w _ _).trans (hu.mono (by omega))⟩
   ·have h3:F7 l m v:=by
     rcases hv'.out with ⟨h2,_⟩|⟨_,h2⟩|⟨h2,_⟩
     ·omega
     ·exact h2
     ·omega
    go_wp2;go_roundw
    case rel=>exact⟨1, .inr (.inl ⟨rfl,h,h3⟩),by go_num,hu⟩
    case measure=>simp[intOf]
   ·obtain rfl:v=1:=by
     rcases hv'.out with ⟨h2,_⟩|⟨h2,_⟩|⟨_,h2⟩
     ·omega
     ·omega
     ·exact h2
    go_wp2;go_ret;exact⟨rfl,(bO w _ _).trans (hu.mono (by omega))⟩
  ·have hw:=hv2;clear hv;have hz:=hB.size;simp only[World.size_alloc]at hz;have hbl:bb<w.heap.size:=block_lt_of_cell hby;have e0:wr.cell? ⟨w.heap.size,0,none⟩=some (.int .i64 a):=(hB.cell (p:=⟨w.heap.size,0,none⟩) (by show w.heap.size<_;omega)).trans (by simp);have e1:wr.cell? ⟨w.heap.size,1,none⟩=some (.int .i64 l):=(hB.cell (p:=⟨w.heap.size,1,none⟩) (by show w.heap.size<_;omega)).trans (by simp);have e2:wr.cell? ⟨w.heap.size+1,0,none⟩=some (.int .i64 c):=(hB.cell (p:=⟨w.heap.size+1,0,none⟩) (by show w.heap.size+1<_;omega)).trans (by simp);have e3:wr.cell? ⟨w.heap.size+1,1,none⟩=some (.int .i64 m):=(hB.cell (p:=⟨w.heap.size+1,1,none⟩) (by show w.heap.size+1<_;omega)).trans (by simp);have e4:wr.cell? ⟨bb,0,none⟩=some (.func (.func 111) #[] #[]):=(hB.cell (p:=⟨bb,0,none⟩) (by show bb<_;omega)).trans (cell_later (bO w _ _) hby);have e5:wr.cell? ⟨bb,1,none⟩=some (.func (.func 112) #[] #[]):=(hB.cell (p:=⟨bb,1,none⟩) (by show bb<_;omega)).trans (cell_later (bO w _ _) hby2);have g0:=Ws.here e0;have g1:=Ws.here e1;have g2:=Ws.here e2;have g3:=Ws.here e3;go_upto_region 4 with fail
   clear e0 e1 e2 e3 e4 e5;refine aH wr.heap.size (by kernel_rfl) (by kernel_rfl) ?_;repeat(go_big_quiet_step (first|(go_at_call 112;exact Calls.in_ws (zE) (N0 _ _ _))|(go_at_call 229;exact Calls.in_ws_same (yI _ _ _ hw _))))
   refine wpQuiet_nil ?_;rintro _ ⟨u,rfl⟩;have hu:=hB.trans (u.property.mono hz);generalize u.val=wu at hu⊢;clear u g0 g1 g2 g3;clear hv2;rcases hw with ⟨h,rfl⟩|⟨h,rfl⟩|⟨h,rfl⟩
   ·go_wp2;go_ret;exact⟨rfl,(bO w _ _).trans (hu.mono (by omega))⟩
   ·go_wp2;go_roundw
    case rel=>exact⟨2, .inr (.inr ⟨rfl,by first|rfl|trivial⟩),by go_num,hu⟩
    case measure=>simp[intOf]
   ·go_wp2;go_ret;exact⟨rfl,(bO w _ _).trans (hu.mono (by omega))⟩
  ·subst hv0;go_wp2;go_ret;exact⟨rfl,(bO w _ _).trans (hB.mono (by omega))⟩
def kV(ps:List (Int×Int))(i:Nat):Bool:=i==0||decide (cM ps (i- 1)<cM ps i\/(cM ps (i- 1)=cM ps i/\eF ps (i- 1)<eF ps i))
def iM(ps:List (Int×Int)):Bool:=(List.range ps.length).all (kV ps)
theorem R0(hk:k<ps.length)(h:kV ps k=false):iM ps=false:=by
 unfold iM;rw[List.all_eq_false];exact⟨k,by simpa using hk,by simp[h]⟩
theorem N1(h:∀j,j<ps.length->kV ps j=true):iM ps=true:=by
 unfold iM;rw[List.all_eq_true];intro j hj;exact h j (by simpa using hj)
theorem N2(x:Option Addr)(n c:Nat)(ps:List (Int×Int))(bb k:Nat)(w:World)(hp:PS w x n ps)(hn:n<=64)(hby:w.cell? ⟨bb,0,none⟩=some (.func (.func 111) #[] #[]))(hby2:w.cell? ⟨bb,1,none⟩=some (.func (.func 112) #[] #[])):
  Calls Tryz.prog 129 #[.slice x n c, .slice (some ⟨bb,0,none⟩) 2 k] w fun e w'=>e= .returned (.bool (iM ps))/\Below w.heap.size w w':=by
 go_enter Tryz.func129,Tryz.ntmps129;go_wp2;go_loopw [5] (fun i wr=>∃j:Nat,1<=j/\j<=n+1/\i= .int .i64 j/\Below w.heap.size w wr/\(∀i,i<j->i<n->kV ps i=true)) (fun i _=>n+1- (intOf i).toNat)
 case atStart=>exact⟨1,by omega,by omega,rfl,zD,fun i hi _=>by
  obtain rfl:i=0:=by omega
  rfl⟩
 case round=>
  obtain⟨j,hj1,hjn,rfl,hB,hok⟩:=hrel
  have hz:=hB.size
  have hpl:=hp.len
  by_cases hlt:j<n
  ·obtain⟨i,rfl⟩:∃i,j=i+1:=⟨j- 1,by omega⟩;have hp2:=hp.later hB;obtain⟨b,o,rfl,c0,c1⟩:=hp2.cells i (by omega);obtain⟨b2,o2,hbo,c2,c3⟩:=hp2.cells (i+1) (by omega);simp only[Option.some.injEq,Addr.mk.injEq,and_true]at hbo;obtain⟨rfl,rfl⟩:=hbo;have hby':=cell_later hB hby;have hby2':=cell_later hB hby2;have hlt':=hlt;have g0:=Ws.here c0;have g1:=Ws.here c1;have g2:=Ws.here c2;have g3:=Ws.here c3;have g4:=Ws.here hby';have g5:=Ws.here hby2';have hv:∃v,VQ (cM ps i) (eF ps i) (cM ps (i+1)) (eF ps (i+1)) v/\(decide (cM ps i<cM ps (i+1)\/(cM ps i=cM ps (i+1)/\eF ps i<eF ps (i+1)))=!(decide (0<=v))):=by
    rcases Int.lt_trichotomy (cM ps i) (cM ps (i+1))with h|h|h
    ·exact⟨-1, .inl ⟨h,rfl⟩,by simp[h]⟩
    ·rcases Int.lt_trichotomy (eF ps i) (eF ps (i+1))with h2|h2|h2
     ·exact⟨-1, .inr (.inl ⟨h, .inl ⟨h2,rfl⟩⟩),by simp[h,h2]⟩
     ·exact⟨0, .inr (.inl ⟨h, .inr (.inl ⟨h2,rfl⟩)⟩),by simp[h,h2]⟩
     ·exact⟨1, .inr (.inl ⟨h, .inr (.inr ⟨h2,rfl⟩)⟩),by simp[h];omega⟩
    ·exact⟨1, .inr (.inr ⟨h,rfl⟩),by simp;omega⟩
   obtain⟨v,hv,hd⟩:=hv;go_upto_region 4 with fail
   clear c0 c1 c2 c3;refine aH wr.heap.size (by kernel_rfl) (by kernel_rfl) ?_
   cases hg:decide (0<=v);all_goals rw[hg]at hd
   all_goals have hge:decide (v≥0)=_:=hg
   all_goals repeat(go_big_quiet_step ((go_at_call 182;exact Calls.in_ws (zE) (wO _ _ _ _ _ hv _ _ _ (g4 _) (g5 _)))))
   all_goals refine wpQuiet_nil ?_
   all_goals rintro _ ⟨u,rfl⟩
   all_goals have hu:=hB.trans (u.property.mono hz)
   all_goals generalize u.val=wu at hu⊢
   all_goals clear u g0 g1 g2 g3 g4 g5
   all_goals go_wp2
   ·go_roundw
    case rel=>exact⟨i+1+1,by omega,by omega,by go_num,hu,fun q hq hqn=>by
     by_cases hq2:q<i+1
     ·exact hok q hq2 hqn
     ·obtain rfl:q=i+1:=by omega
      simp only[kV,Nat.add_sub_cancel,hd];simp⟩
    case measure=>simp[intOf];omega
   ·go_ret;exact⟨aM (R0 (k:=i+1) (by omega) (by simp only[kV,Nat.add_sub_cancel,hd];simp)).symm,hu⟩
  ·go_wp2;go_ret;exact⟨aM (N1 (fun i hi=>hok i (by omega) (by omega))).symm,hB⟩
def uZ(vn:Nat)(vs:List Vn)(ls:List (Int×Int))(i:Nat):Bool:=decide (eF ls i<=cM ls i)||decide (aJ vn vs (cM ls i)<0)||decide (aJ vn vs (eF ls i)<0)
theorem xN(a b:Int)(bb:Nat)(x:Option Addr)(n c:Nat)(vs:List Vn)(lx:Option Addr)(ln lc:Nat)(w:World)(hp:VS w x n vs)(hn:n<=64)(h0:w.cell? ⟨bb,0,none⟩=some (.slice x n c))(h1:w.cell? ⟨bb,1,none⟩=some (.slice lx ln lc)):
  Calls Tryz.prog 131 #[.agg #[.int .i64 a, .int .i64 b], .pointer (some ⟨bb,0,none⟩)] w fun e w'=>e= .returned (.bool (decide (b<=a)||decide (aJ n vs a<0)||decide (aJ n vs b<0)))/\Below w.heap.size w w':=by
 go_enter Tryz.func131,Tryz.ntmps131;go_upto_region 1 with fail
 obtain⟨w2,hw2⟩:∃w2,w2=w.alloc (.cells #[.int .i64 a, .int .i64 b] 94):=⟨_,rfl⟩;rw[<-hw2];have h02:Below w.heap.size w w2:=by rw[hw2];exact bl1 w _
 have hbox:w2.heap[w.heap.size]?=some (.cells #[.int .i64 a, .int .i64 b] 94):=by rw[hw2];exact aB _ rfl
 clear hw2;obtain⟨hcl, -⟩:=aC hbox;have q0:w2.cell? ⟨w.heap.size,0,none⟩=some (.int .i64 a):=hcl 0;have q1:w2.cell? ⟨w.heap.size,1,none⟩=some (.int .i64 b):=hcl 1;have q2:=cell_later h02 h0;have q3:=cell_later h02 h1;clear hcl hbox;have hp2:=hp.later h02;have hsz:Hid (w.heap.size<=w2.heap.size):=h02.size;by_cases hab:b<=a
 ·have hge:decide (a≥b)=true:=by simpa using hab
  go_wp2;go_ret;exact⟨aM (by simp[hab]),h02⟩
 ·have hge:decide (a≥b)=false:=by simpa using hab
  go_wp2_with fail;refine(place_any a x n c vs lx ln lc _ hp2 (by omega)).mono ?_;rintro e w3 ⟨rfl,hb3⟩;have r0:=cell_later hb3 q0;have r1:=cell_later hb3 q1;have r2:=cell_later hb3 q2;have r3:=cell_later hb3 q3;clear q0 q1 q2 q3;have h03:Below w.heap.size w w3:=h02.trans (hb3.mono hsz.out);by_cases hpa:aJ n vs a<0
  ·have hd:decide (aJ n vs a<0)=true:=by simpa using hpa
   go_wp2;go_ret;exact⟨aM (by simp[hpa]),h03⟩
  ·have hd:decide (aJ n vs a<0)=false:=by simpa using hpa
   go_wp2_with (go_at_call 107;refine(place_any b x n c vs lx ln lc _ (hp2.later hb3) (by omega)).mono ?_;rintro e w4 ⟨rfl,hb4⟩);go_ret;exact⟨aM (by rw[show decide (b<=a)=false from hge,hd];rfl),h03.trans (hb4.mono (Nat.le_trans hsz.out hb3.size))⟩
theorem vA(args:Array Value)(W:World):(callFunc 131 args).run Tryz.prog W= .ok (.enter 131 args) W:=by simp[go_sem]
def eR(vn:Nat)(vs:List Vn)(ln:Nat)(ls:List (Int×Int)):Bool:=iM ls&&!anyAt ln (uZ vn vs ls)
theorem AD(x:Option Addr)(n c:Nat)(vs:List Vn)(lx:Option Addr)(ln lc:Nat)(ls:List (Int×Int))(w:World)(hp:VS w x n vs)(hn:n<=64)(hl:PS w lx ln ls)(hln:ln<=64):
  Calls Tryz.prog 63 #[.agg #[.slice x n c, .slice lx ln lc]] w fun e w'=>e= .returned (.bool (eR n vs ln ls))/\Below w.heap.size w w':=by
 have hbd:Hid (eR n vs ln ls=(iM ls&&!anyAt ln (uZ n vs ls))):=rfl;go_enter Tryz.func63,Tryz.ntmps63;go_wp2_with fail;refine(N2 lx ln lc ls (w.heap.size+1) 2 _ (hl.later (bO w _ _)) hln (by simp) (by simp)).mono ?_;rintro e w1 ⟨rfl,hb1⟩;have hB:=(bO w _ _).trans (hb1.mono (by simp;omega));have q0:w1.cell? ⟨w.heap.size,0,none⟩=some (.slice x n c):=cell_later hb1 (by simp);have q1:w1.cell? ⟨w.heap.size,1,none⟩=some (.slice lx ln lc):=cell_later hb1 (by simp);clear hb1
 cases hr:iM ls
 ·go_wp2;go_ret;exact⟨aM (by rw[hbd.out,hr];rfl),hB⟩
 ·have hp1:=hp.later hB;have hl1:=hl.later hB;go_wp2_with fail;refine(rN 131 #[.pointer (some ⟨w.heap.size,0,none⟩)] lx ln lc ls (uZ n vs ls) _ hl1 (by omega) (fun i hi W hW=>xN (cM ls i) (eF ls i) w.heap.size x n c vs lx ln lc W (hp1.later hW) hn (cell_later hW q0) (cell_later hW q1)) vA).mono ?_;rintro e w2 ⟨rfl,hb2⟩;go_wp2;go_ret;exact⟨aM (by rw[hbd.out,hr];simp),hB.trans (hb2.mono hB.size)⟩
theorem linksRight_is(x:Option Addr)(n c:Nat)(vs:List Vn)(lx:Option Addr)(ln lc:Nat)(ls:List (Int×Int))(t:Bool)(h:eR n vs ln ls=t)(w:World)(hp:VS w x n vs)(hn:n<=64)(hl:PS w lx ln ls)(hln:ln<=64):
  Calls Tryz.prog 63 #[.agg #[.slice x n c, .slice lx ln lc]] w fun e w'=>e= .returned (.bool t)/\Below w.heap.size w w':=by
 subst h;exact AD x n c vs lx ln lc ls w hp hn hl hln
open Go.RowKit
theorem fT:Tryz.prog.underlying 218=some (.map 3 3):=by kernel_rfl
structure GM(D:DataW Unit)(g:Int->Int):Prop where
 isMap:IsMap D
 at_:∀a:Int,D.atKey (.int .i64 a) (.lit (.int .i64 0))= .lit (.int .i64 (g a))
theorem GM.empty:GM (.map []) (fun _=>0):=⟨isMap_empty,fun _=>rfl⟩
theorem GM.put{D:DataW Unit}{g:Int->Int}(h:GM D g)(a b:Int):GM (D.put (.int .i64 a) (.lit (.int .i64 b))) (fun y=>if y=a then b else g y) where
 isMap:=h.isMap.put _ _
 at_:=fun y=>by
  by_cases e:y=a
  ·subst e;rw[atKey_put_same h.isMap (by trivial),if_pos rfl]
  ·rw[atKey_put_other (by intro e2;exact e (by cases e2;rfl)),h.at_ y,if_neg e]
def jZ(g:Int->Int):Nat->Int->Int->Prop
 |0,x,h=>g x=x/\h=x
 |n+1,x,h=>g x≠x/\jZ g n (g x) h
def dep(g:Int->Int):Nat->Int->Nat
 |0,_=>0
 |n+1,x=>if g x=x then 0 else dep g n (g x)+1
theorem jZ.dep_is{g:Int->Int}:∀{N n:Nat} {x h:Int},jZ g n x h->n<=N->dep g N x=n
 |0,n,x,h,_,hn=>by simp[dep];omega
 |N+1,0,x,h,hl,_=>by simp[dep,hl.1]
 |N+1,n+1,x,h,hl,hn=>by
  simp only[dep,if_neg hl.1];rw[jZ.dep_is hl.2 (by omega)]
theorem jZ.root{g:Int->Int}:∀{n:Nat} {x h:Int},jZ g n x h->g h=h
 |0,x,h,hl=>by rw[hl.2];exact hl.1
 |n+1,x,h,hl=>jZ.root hl.2
theorem jZ.upd{g:Int->Int}(r0:g h0=h0)(r1:g h1=h1)(hne:h0≠h1):∀{n:Nat} {x h:Int},jZ g n x h->∃m,m<=n+1/\jZ (fun y=>if y=h0 then h1 else g y) m x (if h=h0 then h1 else h)
 |0,x,h,hl=>by
  obtain⟨hx,rfl⟩:=hl;by_cases e:h=h0
  ·subst e;refine⟨1,by omega,?_⟩;simp only[if_true];refine⟨by simp only[if_true];exact Ne.symm hne,?_⟩;simp only[if_true];exact⟨by simp only[if_neg (Ne.symm hne)];exact r1,rfl⟩
  ·refine⟨0,by omega,?_⟩;simp only[if_neg e];exact⟨by simp only[if_neg e];exact hx,rfl⟩
 |n+1,x,h,hl=>by
  obtain⟨hx,hl⟩:=hl;have e:x≠h0:=fun e=>hx (by rw[e,r0]);obtain⟨m,hm,h2⟩:=jZ.upd r0 r1 hne hl;refine⟨m+1,by omega,?_,?_⟩
  ·simp only[if_neg e];exact hx
  ·simp only[if_neg e];exact h2
theorem AE(bm m:Nat)(D:DataW Unit)(g:Int->Int)(n:Nat)(x h:Int)(w:World)(hO:w.ownsMap Tryz.prog 3 (plainElem Tryz.prog 3) bm m D)(hG:GM D g)(hx:(Lit.int .i64 x).wf=true)(hL:jZ g n x h):
  Calls Tryz.prog 133 #[.map (some bm), .int .i64 x] w fun e w'=>e= .returned (.int .i64 h)/\w'=w:=by
 have hG':Hid (GM D g):=hG;clear hG;go_enter Tryz.func133,Tryz.ntmps133;go_wp2;go_loopw [1] (fun i wr=>∃(y:Int) (k:Nat),k<=n/\i= .int .i64 y/\(Lit.int .i64 y).wf=true/\jZ g k y h/\wr=w) (fun i _=>dep g n (intOf i))
 case atStart=>exact⟨x,n,zE,rfl,hx,hL,rfl⟩
 case round=>
  obtain⟨y,k,hk,rfl,hy,hLy,rfl⟩:=hrel
  have hkey:keyOf Tryz.prog 3 (.int .i64 y)=some (.int .i64 y):=keyOf_int_mk under_int hy
  have hat:=hG'.out.at_ y
  have hLy':Hid (jZ g k y h):=hLy
  rcases k with _|k
  ·obtain⟨hr,rfl⟩:=hLy;have hne:(g h !=h)=false:=by simp[hr]
   go_wp2_with (first
    |(at_lookup;refine wpList_lookup_own_int _ rfl _ _ 218 rfl 3 3 .i64 key_law fT under_int (zero_int _) bm _ _ rfl hO _ _ rfl hkey ?_;intro cc hat2 hwc;obtain rfl:cc=g h:=(by rw[hat]at hat2;cases hat2;rfl))
    |go_in)
   go_ret;exact⟨rfl,rfl⟩
  ·obtain⟨hr,hl2⟩:=hLy;have hne:(g y !=y)=true:=by simpa using hr
   have hwg:(Lit.int .i64 (g y)).wf=true:=by
    obtain⟨c,_,h2,h3⟩:=hO.lookup_int key_law fT under_int (zero_int _) hkey;rw[hat]at h2
    cases h2;exact h3
   go_wp2_with (first
    |(at_lookup;refine wpList_lookup_own_int _ rfl _ _ 218 rfl 3 3 .i64 key_law fT under_int (zero_int _) bm _ _ rfl hO _ _ rfl hkey ?_;intro cc hat2 hwc;obtain rfl:cc=g y:=(by rw[hat]at hat2;cases hat2;rfl);clear hat2 hwc)
    |go_in)
   go_roundw
   case rel=>exact⟨g y,k,by omega,rfl,hwg,hl2,by first|rfl|trivial⟩
   case measure=>
    simp only[intOf]
    rw[hl2.dep_is (by omega),hLy'.out.dep_is hk]
    omega
def gQ(ls:List (Int×Int)):Int->Int:=ls.foldl (fun hd l x=>if hd x=hd l.1 then hd l.2 else hd x) id
theorem N3(ls:List (Int×Int))(l:Int×Int)(x:Int):gQ (ls++[l]) x=if gQ ls x=gQ ls l.1 then gQ ls l.2 else gQ ls x:=by
 unfold gQ;rw[List.foldl_append];rfl
theorem R3(h:k<ls.length):(cM ls k,eF ls k)=ls[k]:=by simp[cM,eF,List.getD_eq_getElem?_getD,h]
theorem N4(h:k<ls.length)(x:Int):gQ (ls.take (k+1)) x=if gQ (ls.take k) x=gQ (ls.take k) (cM ls k)then gQ (ls.take k) (eF ls k)else gQ (ls.take k) x:=by
 rw[List.take_add_one,List.getElem?_eq_getElem h,<-R3 h,Option.toList_some,N3]
structure Grp(ids:List Int)(hd:Int->Int)(g:Int->Int):Prop where
 lead:∀i∈ids,∃n,jZ g n i (hd i)
 mem:∀i∈ids,hd i∈ids
theorem Grp.link{hd g:Int->Int}(h:Grp ids hd g){a b:Int}(ha:a∈ids)(hb:b∈ids):Grp ids (fun x=>if hd x=hd a then hd b else hd x) (fun y=>if y=hd a then hd b else g y) where
 lead:=fun i hi=>by
  obtain⟨n,hn⟩:=h.lead i hi;obtain⟨na,hna⟩:=h.lead a ha;obtain⟨nb,hnb⟩:=h.lead b hb;by_cases e:hd a=hd b
  ·have e1:(fun y=>if y=hd a then hd b else g y)=g:=by
    funext y;by_cases e2:y=hd a
    ·rw[if_pos e2,e2,<-e,hna.root]
    ·rw[if_neg e2]
   refine⟨n,?_⟩;rw[e1];by_cases e2:hd i=hd a
   ·rw[if_pos e2,<-e,<-e2];exact hn
   ·rw[if_neg e2];exact hn
  ·obtain⟨m, -,h2⟩:=hn.upd hna.root hnb.root e;exact⟨m,h2⟩
 mem:=fun i hi=>by
  by_cases e:hd i=hd a
  ·simp only[if_pos e];exact h.mem b hb
  ·simp only[if_neg e];exact h.mem i hi
def cQ(vs:List Vn):List Int:=vs.map (·.id)
theorem fU(h:i<vs.length):aE vs i=vs[i]:=by simp[aE,List.getD_eq_getElem?_getD,h]
theorem xZ(h:i<vs.length):(aE vs i).id∈cQ vs:=by
 rw[fU h];exact List.mem_map_of_mem (List.getElem_mem h)
theorem yA{x:Int}(h:x∈cQ vs):∃i,i<vs.length/\(aE vs i).id=x:=by
 obtain⟨v,hv,rfl⟩:=List.mem_map.1 h;obtain⟨i,hi,rfl⟩:=List.getElem_of_mem hv;exact⟨i,hi,by rw[fU hi]⟩
theorem kA{k:TypeId}{R:Value->Option (DataW Unit×List MemPlace)}{D:DataW Unit}(h:w.ownsMap P k R b n D)(hb:Below w.heap.size w w'):w'.ownsMap P k R b n D:=by
 obtain⟨es,clock,h0,h1⟩:=h;exact⟨es,clock,aA hb h0,h1⟩
abbrev nH(x:Option Addr)(n c:Nat)(lx:Option Addr)(ln lc:Nat):Obj:= .cells #[.slice x n c, .slice lx ln lc] 41
theorem E0(x:Option Addr)(n c:Nat)(vs:List Vn)(lx:Option Addr)(ln lc:Nat)(ls:List (Int×Int))(w:World)(hp:VS w x n vs)(hn:n<=64)(hl:PS w lx ln ls)(hln:ln<=64)
 (hid:∀i,i<n->0<=(aE vs i).id/\(aE vs i).id<=1000000)(hlk:∀j,j<ln->cM ls j∈cQ vs/\eF ls j∈cQ vs):
  Calls Tryz.prog 132 #[.agg #[.slice x n c, .slice lx ln lc]] w fun e w'=>∃bm m D g,e= .returned (.map (some bm))/\w.heap.size<=bm/\w'.ownsMap Tryz.prog 3 (plainElem Tryz.prog 3) bm m D/\GM D g/\Grp (cQ vs) (gQ ls) g/\Below w.heap.size w w':=by
 have hmm:= @run_makeMap Tryz.prog;have hvl:Hid (vs.length=n):=hp.len;have hll:Hid (ls.length=ln):=hl.len;go_enter Tryz.func132,Tryz.ntmps132;go_upto_region 1 with fail
 obtain⟨w2,hw2⟩:∃w2,w2=w.alloc (nH x n c lx ln lc):=⟨_,rfl⟩;rw[<-hw2];have h02:Below w.heap.size w w2:=by rw[hw2];exact bl1 w _
 have hbox:w2.heap[w.heap.size]?=some (nH x n c lx ln lc):=by rw[hw2];exact aB _ rfl
 clear hw2;have hp2:=hp.later h02;have hl2:=hl.later h02;obtain⟨hcl, -⟩:=aC hbox;have q0:w2.cell? ⟨w.heap.size,0,none⟩=some (.slice x n c):=hcl 0;have q1:w2.cell? ⟨w.heap.size,1,none⟩=some (.slice lx ln lc):=hcl 1;clear hcl hbox;have hsz:Hid (w.heap.size<=w2.heap.size):=h02.size;have a0:(w2.alloc (.map #[] 0)).cell? ⟨w.heap.size,0,none⟩=some (.slice x n c):=cell_later (bl1 w2 _) q0;generalize hbk:w.heap.size=bk at*;go_wp2;go_loopw [12] (fun i wr=>∃(k:Nat) (D:DataW Unit) (g:Int->Int),k<=n/\i= .int .i64 k/\Below w2.heap.size w2 wr/\wr.ownsMap Tryz.prog 3 (plainElem Tryz.prog 3) w2.heap.size k D/\GM D g/\(∀j,j<k->g (aE vs j).id=(aE vs j).id)) (fun i _=>n- (intOf i).toNat)
 case atStart=>exact⟨0, .map [],_,by omega,rfl,bl1 w2 _,World.ownsMap_made w2 _ _ _,GM.empty,fun j hj=>by omega⟩
 case round=>
  obtain⟨k,D,g,hk,rfl,hB,hO,hG,hgo⟩:=hrel
  by_cases hlt:k<n
  ·have hlt':Hid (k<n):=hlt;obtain⟨b,o,rfl,c0,c1,c2⟩:=(hp2.later hB).cells k hlt;have hkey:keyOf Tryz.prog 3 (.int .i64 (aE vs k).id)=some (.int .i64 (aE vs k).id):=keyOf_int_mk under_int (fS (hid k hlt).1 (hid k hlt).2);have hwf:(Lit.int .i64 (aE vs k).id).wf=true:=fS (hid k hlt).1 (hid k hlt).2;have hO2:=hO.alloc (.cells #[.int .i64 (aE vs k).id, .slice (aE vs k).rx (aE vs k).rn (aE vs k).rc, .slice (aE vs k).sx (aE vs k).sn (aE vs k).sc] 92);have hmx:k<maxLen:=by unfold maxLen;omega
   have hP:=hG.put (aE vs k).id (aE vs k).id;have hgo':Hid (∀j,j<k->g (aE vs j).id=(aE vs j).id):=hgo;clear hgo;have hBa:=hB.trans ((bl1 wr (.cells #[.int .i64 (aE vs k).id, .slice (aE vs k).rx (aE vs k).rn (aE vs k).rc, .slice (aE vs k).sx (aE vs k).sn (aE vs k).sc] 92)).mono hB.size);go_wp2_with (first
    |(at_mapUpdate;refine wpList_mapUpdate_own _ rfl _ _ _ 218 rfl 3 3 key_law fT _ w2.heap.size _ _ rfl hO2 hmx _ _ _ rfl rfl hkey _ [] (plainElem_int under_int hwf) ?_;intro w1 hown1 hgrow1)
    |go_in)
   go_roundw
   case rel=>exact⟨k+1,_,_,hlt'.out,by go_num,hBa.grown hgrow1 hBa.size (fun j hj=>by cases hj;omega),hown1,hP,fun j hj=>by
    by_cases e:(aE vs j).id=(aE vs k).id
    ·simp only[if_pos e];exact e.symm
    ·simp only[if_neg e];by_cases hj2:j<k
     ·exact hgo'.out j hj2
     ·obtain rfl:j=k:=by omega
      exact absurd rfl e⟩
   case measure=>simp[intOf];have:=hlt'.out;omega
  ·obtain rfl:k=n:=by omega
   have r1:=cell_later hB q1;have hGr0:Grp (cQ vs) (gQ (ls.take 0)) g:=⟨fun i hi=>by
    obtain⟨j,hj,rfl⟩:=yA hi;exact⟨0,hgo j (by rw[<-hvl.out];exact hj),rfl⟩,fun i hi=>hi⟩
   clear hgo;go_wp2;obtain⟨wo,rfl⟩:∃wo,wo=wr:=⟨_,rfl⟩;go_loopw [25] (fun i wr=>∃(q:Nat) (D:DataW Unit) (g:Int->Int),q<=ln/\i= .int .i64 q/\Below w2.heap.size w2 wr/\wr.ownsMap Tryz.prog 3 (plainElem Tryz.prog 3) w2.heap.size (k+q) D/\GM D g/\Grp (cQ vs) (gQ (ls.take q)) g) (fun i _=>ln- (intOf i).toNat)
   case atStart=>exact⟨0,D,g,by omega,rfl,hB,hO,hG,hGr0⟩
   case round=>
    clear hO hG hGr0 hB
    obtain⟨q,D,g,hq,rfl,hB,hO,hG,hGr⟩:=hrel
    by_cases hq2:q<ln
    ·have hq':Hid (q<ln):=hq2;obtain⟨b2,o2,rfl,d0,d1⟩:=(hl2.later hB).cells q hq2;obtain⟨ha,hb⟩:=hlk q hq2;have hst:Hid (∀y,gQ (ls.take (q+1)) y=if gQ (ls.take q) y=gQ (ls.take q) (cM ls q)then gQ (ls.take q) (eF ls q)else gQ (ls.take q) y):=fun y=>N4 (by rw[hll.out];exact hq2) y;have hwid:∀y,y∈cQ vs->(Lit.int .i64 y).wf=true:=fun y hy=>by
      obtain⟨j,hj,rfl⟩:=yA hy;have:=hid j (by rw[<-hvl.out];exact hj);exact fS this.1 this.2
     have hwa:=hwid _ ha;have hwb:=hwid _ hb;have hwA:=hwid _ (hGr.mem _ ha);have hwB:=hwid _ (hGr.mem _ hb);obtain⟨na,hLa⟩:=hGr.lead _ ha;obtain⟨nb,hLb⟩:=hGr.lead _ hb;have hGr2:=hGr.link ha hb;have hP:=hG.put (gQ (ls.take q) (cM ls q)) (gQ (ls.take q) (eF ls q));generalize cM ls q=la at*;generalize eF ls q=lb at*;generalize gQ (ls.take q)=hd at*;have hkey:keyOf Tryz.prog 3 (.int .i64 (hd la))=some (.int .i64 (hd la)):=keyOf_int_mk under_int hwA;have hmx:k+q<maxLen:=by unfold maxLen;omega
     go_upto_region 10 with fail
     obtain⟨w3,hw3⟩:∃w3,w3=wr.alloc (.cells #[.int .i64 la, .int .i64 lb] 94):=⟨_,rfl⟩;rw[<-hw3];have h23:Below wr.heap.size wr w3:=by rw[hw3];exact bl1 wr _
     have hbox:w3.heap[wr.heap.size]?=some (.cells #[.int .i64 la, .int .i64 lb] 94):=by rw[hw3];exact aB _ rfl
     clear hw3 d0 d1;obtain⟨hcl, -⟩:=aC hbox;have t0:=Ws.here (v:= .int .i64 la) (hcl 0);have t1:=Ws.here (v:= .int .i64 lb) (hcl 1);clear hcl hbox;have hO3:=kA hO h23;have hB3:=hB.trans (h23.mono hB.size);have hcA:∀W,Below w3.heap.size w3 W->Calls Tryz.prog 133 #[.map (some w2.heap.size), .int .i64 la] W fun e w'=>e= .returned (.int .i64 (hd la))/\w'=W:=fun W hW=>AE _ _ D g na la _ _ (kA hO3 hW) hG hwa hLa;have hcB:∀W,Below w3.heap.size w3 W->Calls Tryz.prog 133 #[.map (some w2.heap.size), .int .i64 lb] W fun e w'=>e= .returned (.int .i64 (hd lb))/\w'=W:=fun W hW=>AE _ _ D g nb lb _ _ (kA hO3 hW) hG hwb hLb;refine jU w3.heap.size 9 (by kernel_rfl) (by kernel_rfl) ?_;simp only[List.take_succ_cons,List.take_zero,List.drop_succ_cons,List.drop_zero];repeat(go_big_quiet_step (first|(go_at_call_of 133 la;exact Calls.in_ws_same (hcA _ (Ws.property _)))|(go_at_call_of 133 lb;exact Calls.in_ws_same (hcB _ (Ws.property _)))))
     refine wpQuiet_nil ?_;intro uu;have hB8:=uu.property;generalize uu.val=w8 at hB8⊢;clear uu t0 t1;have hO8:=kA hO3 hB8;have hB8':=hB3.trans (hB8.mono hB3.size);go_wp2_with (first
      |(at_mapUpdate;refine wpList_mapUpdate_own _ rfl _ _ _ 218 rfl 3 3 key_law fT _ w2.heap.size _ _ rfl hO8 hmx _ _ _ rfl rfl hkey _ [] (plainElem_int under_int hwB) ?_;intro w1 hown1 hgrow1)
      |go_in)
     go_roundw
     case rel=>exact⟨q+1,_,_,hq'.out,by go_num,hB8'.grown hgrow1 hB8'.size (fun j hj=>by cases hj;omega),hown1,hP,by
      have e:gQ (ls.take (q+1))=fun y=>if hd y=hd la then hd lb else hd y:=funext hst.out;rw[e];exact hGr2⟩
     case measure=>simp[intOf];have:=hq'.out;omega
    ·obtain rfl:q=ln:=by omega
     have e:ls.take q=ls:=by rw[<-hll.out,List.take_length]
     rw[e]at hGr;go_wp2;go_ret;exact⟨_,_,D,g,rfl,by rw[hbk];exact hsz.out,hO,hG,hGr,by rw[hbk];exact h02.trans (hB.mono hsz.out)⟩
def N6(hd:Int->Int)(vs:List Vn)(i j:Nat):Bool:=(hd (aE vs i).id==hd (aE vs j).id)&&DC (aE vs i).rn (aE vs i).rs (aE vs j).rn (aE vs j).rs
def R4(hd:Int->Int)(vs:List Vn)(i:Nat):Bool:=(List.range i).all fun j=>!N6 hd vs i j
def E1(ls:List (Int×Int))(n:Nat)(vs:List Vn):Bool:=(List.range n).all (R4 (gQ ls) vs)
abbrev VR(p:Vn):Obj:= .cells #[.int .i64 p.id, .slice p.rx p.rn p.rc, .slice p.sx p.sn p.sc] 92
theorem KD(x:Option Addr)(n c:Nat)(vs:List Vn)(lx:Option Addr)(ln lc:Nat)(ls:List (Int×Int))(w:World)(hp:VS w x n vs)(hn:n<=64)(hnc:n<=c)(hl:PS w lx ln ls)(hln:ln<=64)
 (hid:∀i,i<n->0<=(aE vs i).id/\(aE vs i).id<=1000000)(hrn:∀i,i<n->(aE vs i).rn<=64)(hlk:∀j,j<ln->cM ls j∈cQ vs/\eF ls j∈cQ vs):
  Calls Tryz.prog 64 #[.agg #[.slice x n c, .slice lx ln lc]] w fun e w'=>e= .returned (.bool (E1 ls n vs))/\Below w.heap.size w w':=by
 have hvl:Hid (vs.length=n):=hp.len;have hbd:Hid (E1 ls n vs=(List.range n).all (R4 (gQ ls) vs)):=rfl;go_enter Tryz.func64,Tryz.ntmps64;go_upto_region 1 with fail
 obtain⟨w2,hw2⟩:∃w2,w2=w.alloc (nH x n c lx ln lc):=⟨_,rfl⟩;rw[<-hw2];have h02:Below w.heap.size w w2:=by rw[hw2];exact bl1 w _
 have hbox:w2.heap[w.heap.size]?=some (nH x n c lx ln lc):=by rw[hw2];exact aB _ rfl
 clear hw2;obtain⟨hcl, -⟩:=aC hbox;have q0:w2.cell? ⟨w.heap.size,0,none⟩=some (.slice x n c):=hcl 0;have q1:w2.cell? ⟨w.heap.size,1,none⟩=some (.slice lx ln lc):=hcl 1;clear hcl hbox;have hsz:Hid (w.heap.size<=w2.heap.size):=h02.size;have hp2:=hp.later h02;have hl2:=hl.later h02;generalize hbk:w.heap.size=bk at*;go_wp2_with fail;refine(E0 x n c vs lx ln lc ls _ hp2 hn hl2 hln hid hlk).mono ?_;rintro e w3 ⟨bm,m,D,g,rfl,hbm,hO,hG,hGr,hb3⟩;have h03:Below bk w w3:=h02.trans (hb3.mono hsz.out);have hsz3:Hid (bk<=w3.heap.size):=Nat.le_trans hsz.out hb3.size;have hp3:=hp2.later hb3;have r0:=cell_later hb3 q0;clear q0 q1 hb3 h02;have hwid:∀i,i<n->(Lit.int .i64 (aE vs i).id).wf=true:=fun i hi=>fS (hid i hi).1 (hid i hi).2;have hHd:∀W,Below w3.heap.size w3 W->∀i,i<n->Calls Tryz.prog 133 #[.map (some bm), .int .i64 (aE vs i).id] W fun e w'=>e= .returned (.int .i64 (gQ ls (aE vs i).id))/\w'=W:=fun W hW i hi=>by
  obtain⟨q,hq⟩:=hGr.lead _ (xZ (by rw[hvl.out];exact hi));exact AE _ _ D g q _ _ _ (kA hO hW) hG (hwid i hi) hq
 generalize hhd:gQ ls=hd at*;clear hG hGr hO;go_wp2;go_loopw [13] (fun i wr=>∃k:Nat,k<=n/\i= .int .i64 k/\Below w3.heap.size w3 wr/\(∀j,j<k->R4 hd vs j=true)) (fun i _=>n- (intOf i).toNat)
 case atStart=>exact⟨0,by omega,rfl,zD,fun j hj=>by omega⟩
 case round=>
  obtain⟨k,hk,rfl,hB,hok⟩:=hrel
  have s0:=cell_later hB r0
  by_cases hlt:k<n
  ·have hlt':Hid (k<n):=hlt;have hpr:=hp3.later hB;have hpk:=hpr.cells k hlt;have hvk:=(hpr.vps k hlt).2.2.2.ranges;have hrk:=hrn k hlt;have hHk:∀W,Below w3.heap.size w3 W->Calls Tryz.prog 133 #[.map (some bm), .int .i64 (aE vs k).id] W fun e w'=>e= .returned (.int .i64 (hd (aE vs k).id))/\w'=W:=fun W hW=>hHd W hW k hlt;have hcd:Hid (∀j,N6 hd vs k j=((hd (aE vs k).id==hd (aE vs j).id)&&DC (aE vs k).rn (aE vs k).rs (aE vs j).rn (aE vs j).rs)):=fun j=>rfl;obtain⟨b,o,rfl,c0,c1,c2⟩:=hpk;go_upto_region 5 with fail
   obtain⟨w4,hw4⟩:∃w4,w4=wr.alloc (VR (aE vs k)):=⟨_,rfl⟩;rw[<-hw4];have h34:Below wr.heap.size wr w4:=by rw[hw4];exact bl1 wr _
   have hbox:w4.heap[wr.heap.size]?=some (VR (aE vs k)):=by rw[hw4];exact aB _ rfl
   clear hw4 c0 c1 c2;have s4:=cell_later h34 s0;clear s0;have hp4:=hpr.later h34;have hv4:=hvk.later h34;have hB4:=hB.trans (h34.mono hB.size);obtain⟨hcl, -⟩:=aC hbox;have t0:w4.cell? ⟨wr.heap.size,0,none⟩=some (.int .i64 (aE vs k).id):=hcl 0;have t1:w4.cell? ⟨wr.heap.size,1,none⟩=some (.slice (aE vs k).rx (aE vs k).rn (aE vs k).rc):=hcl 1;have t2:w4.cell? ⟨wr.heap.size,2,none⟩=some (.slice (aE vs k).sx (aE vs k).sn (aE vs k).sc):=hcl 2;clear hcl hbox hpr hvk;generalize wr.heap.size=bv at*;clear hB h34;clear wr;have hkc:(k:Int)<=c:=by omega
   go_wp2;go_loopw [23] (fun i wr=>∃q:Nat,q<=k/\i= .int .i64 q/\Below w4.heap.size w4 wr/\(∀j,j<q->N6 hd vs k j=false)) (fun i _=>k- (intOf i).toNat)
   case atStart=>exact⟨0,by omega,rfl,zD,fun j hj=>by omega⟩
   case round=>
    obtain⟨q,hq,rfl,hB,hno⟩:=hrel
    by_cases hq2:q<k
    ·have hq':Hid (q<k):=hq2;have hpr:=hp4.later hB;obtain⟨b2,o2,hbo,d0,d1,d2⟩:=hpr.cells q (by omega);simp only[Option.some.injEq,Addr.mk.injEq,and_true]at hbo;obtain⟨rfl,rfl⟩:=hbo;have hvq:=(hpr.vps q (by omega)).2.2.2.ranges;have hrq:=hrn q (by omega);have hHq:∀W,Below w3.heap.size w3 W->Calls Tryz.prog 133 #[.map (some bm), .int .i64 (aE vs q).id] W fun e w'=>e= .returned (.int .i64 (hd (aE vs q).id))/\w'=W:=fun W hW=>hHd W hW q (by omega);have hcq:Hid (N6 hd vs k q=((hd (aE vs k).id==hd (aE vs q).id)&&DC (aE vs k).rn (aE vs k).rs (aE vs q).rn (aE vs q).rs)):=hcd.out q;have u0:=cell_later hB t0;have u1:=cell_later hB t1;have u2:=cell_later hB t2;have hv5:=hv4.later hB;go_upto_region 8 with fail
     obtain⟨w5,hw5⟩:∃w5,w5=wr.alloc (VR (aE vs q)):=⟨_,rfl⟩;rw[<-hw5];have h45:Below wr.heap.size wr w5:=by rw[hw5];exact bl1 wr _
     have hbox:w5.heap[wr.heap.size]?=some (VR (aE vs q)):=by rw[hw5];exact aB _ rfl
     clear hw5 d0 d1 d2;obtain⟨hcl, -⟩:=aC hbox;have k0:=Ws.here (v:= .int .i64 (aE vs q).id) (hcl 0);have k1:=Ws.here (v:= .slice (aE vs q).rx (aE vs q).rn (aE vs q).rc) (hcl 1);have k2:=Ws.here (v:= .slice (aE vs q).sx (aE vs q).sn (aE vs q).sc) (hcl 2);have g0:=Ws.here (cell_later h45 u0);have g1:=Ws.here (cell_later h45 u1);have g2:=Ws.here (cell_later h45 u2);clear hcl hbox u0 u1 u2;have hvq6:=hvq.later h45;have hv6:=hv5.later h45;have hB5:=hB.trans (h45.mono hB.size);have hB35:=hB4.trans (hB5.mono hB4.size);clear hpr hvq hv5;generalize hik:hd (aE vs k).id=ik at hHk hcq;generalize hiq:hd (aE vs q).id=iq at hHq hcq;have hHk':∀W,Below w5.heap.size w5 W->Calls Tryz.prog 133 #[.map (some bm), .int .i64 (aE vs k).id] W fun e w'=>e= .returned (.int .i64 ik)/\w'=W:=fun W hW=>hHk W (hB35.trans (hW.mono hB35.size));have hHq':∀W,Below w5.heap.size w5 W->Calls Tryz.prog 133 #[.map (some bm), .int .i64 (aE vs q).id] W fun e w'=>e= .returned (.int .i64 iq)/\w'=W:=fun W hW=>hHq W (hB35.trans (hW.mono hB35.size))
     cases hde:(ik==iq)
     ·refine aH w5.heap.size (by kernel_rfl) (by kernel_rfl) ?_;repeat(go_big_quiet_step (first|(go_at_call_of 133 ((aE vs k).id);exact Calls.in_ws_same (hHk' _ (Ws.property _)))|(go_at_call_of 133 ((aE vs q).id);exact Calls.in_ws_same (hHq' _ (Ws.property _)))))
      refine wpQuiet_nil ?_;rintro _ ⟨u,rfl⟩;have hu:=hB5.trans (u.property.mono hB5.size);generalize u.val=wu at hu⊢;clear u k0 k1 k2 g0 g1 g2;go_wp2;go_roundw
      case rel=>exact⟨q+1,hq'.out,by go_num,hu,fun j hj=>by
       by_cases hj2:j<q
       ·exact hno j hj2
       ·obtain rfl:j=q:=by omega
        rw[hcq.out,hde];rfl⟩
      case measure=>simp[intOf];have:=hq'.out;omega
     ·cases hme:DC (aE vs k).rn (aE vs k).rs (aE vs q).rn (aE vs q).rs;all_goals refine aH w5.heap.size (by kernel_rfl) (by kernel_rfl) ?_
      all_goals repeat(go_big_quiet_step (first|(go_at_call_of 133 ((aE vs k).id);exact Calls.in_ws_same (hHk' _ (Ws.property _)))|(go_at_call_of 133 ((aE vs q).id);exact Calls.in_ws_same (hHq' _ (Ws.property _)))|(go_at_call 134;exact Calls.in_ws (zE) (RZ (aE vs k) (aE vs q) _ hme _ (hv6.later (Ws.property _)) (hvq6.later (Ws.property _)) hrk hrq))))
      all_goals refine wpQuiet_nil ?_
      all_goals rintro _ ⟨u,rfl⟩
      all_goals have hu:=hB5.trans (u.property.mono hB5.size)
      all_goals generalize u.val=wu at hu⊢
      all_goals clear u k0 k1 k2 g0 g1 g2
      ·go_wp2;go_roundw
       case rel=>exact⟨q+1,hq'.out,by go_num,hu,fun j hj=>by
        by_cases hj2:j<q
        ·exact hno j hj2
        ·obtain rfl:j=q:=by omega
         rw[hcq.out,hde,hme];rfl⟩
       case measure=>simp[intOf];have:=hq'.out;omega
      ·have hfin:=hB4.trans (hu.mono hB4.size);go_wp2;go_ret;exact⟨aM (by rw[hbd.out,gX hlt'.out (gX hq'.out (by rw[hcq.out,hde,hme];rfl))]),by rw[hbk];exact h03.trans (hfin.mono hsz3.out)⟩
    ·obtain rfl:q=k:=by omega
     have hfin:=hB4.trans (hB.mono hB4.size);go_wp2;go_roundw
     case rel=>exact⟨q+1,hlt'.out,by go_num,hfin,fun j hj=>by
      by_cases hj2:j<q
      ·exact hok j hj2
      ·obtain rfl:j=q:=by omega
       exact oM fun i hi=>by rw[hno i hi];rfl⟩
     case measure=>simp[intOf];have:=hlt'.out;omega
  ·obtain rfl:k=n:=by omega
   go_wp2;go_ret;exact⟨aM (by rw[hbd.out,oM hok]),by rw[hbk];exact h03.trans (hB.mono hsz3.out)⟩
theorem napart_is(x:Option Addr)(n c:Nat)(vs:List Vn)(lx:Option Addr)(ln lc:Nat)(ls:List (Int×Int))(t:Bool)(h:E1 ls n vs=t)(w:World)(hp:VS w x n vs)(hn:n<=64)(hnc:n<=c)(hl:PS w lx ln ls)(hln:ln<=64)
 (hid:∀i,i<n->0<=(aE vs i).id/\(aE vs i).id<=1000000)(hrn:∀i,i<n->(aE vs i).rn<=64)(hlk:∀j,j<ln->cM ls j∈cQ vs/\eF ls j∈cQ vs):
  Calls Tryz.prog 64 #[.agg #[.slice x n c, .slice lx ln lc]] w fun e w'=>e= .returned (.bool t)/\Below w.heap.size w w':=by
 subst h;exact KD x n c vs lx ln lc ls w hp hn hnc hl hln hid hrn hlk
def flatI(es:List Int):List Value:=es.map (Value.int .i64)
theorem vC(es:List Int):(flatI es).length=es.length:=by simp[flatI]
theorem N7(es fs:List Int):flatI (es++fs)=flatI es++flatI fs:=by simp[flatI]
theorem vD(es:List Int):∀u∈flatI es,u.oneCell'=true:=fun u hu=>by
 obtain⟨e, -,rfl⟩:=List.mem_map.1 hu;rfl
theorem HR(h:i<es.length):(flatI es)[i]?=some (.int .i64 (bT es i)):=by
 unfold flatI;rw[List.getElem?_map,List.getElem?_eq_getElem h,HO h];rfl
def fV(w:World)(base:Nat)(v:Value)(es:List Int):Prop:=w.ownsRow base 3 1 v es.length (flatI es)
theorem fV.later(h:fV w base v es)(hb:Below w.heap.size w w'):fV w' base v es:=eG h hb
theorem fV.kept(h:fV w base v es)(hg:w.grownBy w' (some g))(hne:∀k,v.ownBlock=some k->k≠g):fV w' base v es:=fN h hg hne
theorem fV.low(h:fV w base v es)(hb:base'<=base):fV w base' v es:=iV h hb
theorem fV.lt(h:fV w base v es):∀k,v.ownBlock=some k->base<=k/\k<w.heap.size:=World.ownsRow.lt h
theorem fV.ne(h:fV w base v es)(hb:w.heap[b]?=some (.cells cs t fr))(ht:t≠3):v.ownBlock≠some b:=jP h hb ht
theorem aBb:Ty 3 131 1 (.int .i64 0) 8:=sF (by kernel_rfl) (by kernel_rfl) rfl (vD [(0:Int)]) (by decide) (by decide)
theorem fV.mem(h:fV w base v es):∃x c,v= .slice x es.length c/\es.length<=c/\c<=9223372036854775807/\(x=none->es.length=0/\c=0)/\IS w x es.length es:=by
 rcases h.2 with ⟨rfl,h0⟩|⟨g,cap,cur,rfl, -, -,h4,h5, -⟩
 ·exact⟨none,0,by rw[h0],by omega,by omega,fun _=>⟨h0,rfl⟩,⟨rfl,fun i hi=>by omega⟩⟩
 ·refine⟨some ⟨g,0,none⟩,cap,rfl,h4,by unfold maxLen at h5;omega,fun e=>by simp at e,⟨rfl,fun i hi=>⟨g,0,rfl,?_⟩⟩⟩;have:=World.ownsRow.cells h (g:=g) rfl i _ (HR hi);rw[Addr.add_lit]at this;exact this
def cW(n:Nat)(vs:List Vn)(ln:Nat)(ls:List (Int×Int)):Int:=if decide (6<n)||decide (12<ln)then 2 else if jY n vs&&eR n vs ln ls&&E1 ls n vs then 0 else 1
theorem mL{id:Int}(hl:vs.length=n)(h:¬aJ n vs id<0):id∈cQ vs:=by
 unfold aJ at h;split at h
 ·rename_i i he;have h1:=List.find?_some he;have h2:=List.mem_of_find?_eq_some he;simp only[List.mem_range,beq_iff_eq]at h1 h2;rw[<-h1];exact xZ (by rw[hl];exact h2)
 ·omega
theorem N8{id:Int}(h:bD id rn rs sn ss=0):(1<=id/\id<=65536)/\rn<=4:=by
 unfold bD at h;split at h
 ·omega
 ·rename_i hm;split at h
  ·rename_i hw;simp only[zH,dE,decide_eq_true_eq]at hw;exact⟨⟨hw.1.1.1,hw.1.1.2⟩,(few (by simpa using hm)).1⟩
  ·omega
theorem AF(h:jY n vs=true):∀i,i<n->(0<=(aE vs i).id/\(aE vs i).id<=1000000)/\(aE vs i).rn<=64:=fun i hi=>by
 unfold jY at h;rw[zH]at h;have hb:mK (aE vs i)=false:=by
  cases e:mK (aE vs i)
  ·rfl
  ·rw[bR (f:=fun i=>mK (aE vs i)) hi e]at h;exact absurd h.2 (by simp)
 unfold mK at hb;simp only[Bool.not_eq_false',beq_iff_eq]at hb;have:=N8 hb;omega
theorem vE(hl:vs.length=n)(h:eR n vs ln ls=true):∀j,j<ln->cM ls j∈cQ vs/\eF ls j∈cQ vs:=fun j hj=>by
 unfold eR at h;rw[zH]at h;have hb:uZ n vs ls j=false:=by
  cases e:uZ n vs ls j
  ·rfl
  ·rw[bR hj e]at h;exact absurd h.2 (by simp)
 unfold uZ at hb;simp only[Bool.or_eq_false_iff,decide_eq_false_iff_not]at hb;exact⟨mL hl hb.1.2,mL hl hb.2⟩
theorem AG(x:Option Addr)(n c:Nat)(vs:List Vn)(lx:Option Addr)(ln lc:Nat)(ls:List (Int×Int))(w:World)(hp:VS w x n vs)(hn:n<=9223372036854775807)(hnc:n<=c)(hl:PS w lx ln ls)(hln:ln<=9223372036854775807):
  Calls Tryz.prog 32 #[.agg #[.slice x n c, .slice lx ln lc]] w fun e w'=>e= .returned (.int .i64 (cW n vs ln ls))/\Below w.heap.size w w':=by
 have hbd:Hid (cW n vs ln ls=if decide (6<n)||decide (12<ln)then 2 else if jY n vs&&eR n vs ln ls&&E1 ls n vs then 0 else 1):=rfl;have hvl:Hid (vs.length=n):=hp.len;go_enter Tryz.func32,Tryz.ntmps32;go_upto_region 1 with fail
 obtain⟨w2,hw2⟩:∃w2,w2=w.alloc (nH x n c lx ln lc):=⟨_,rfl⟩;rw[<-hw2];have h02:Below w.heap.size w w2:=by rw[hw2];exact bl1 w _
 have hbox:w2.heap[w.heap.size]?=some (nH x n c lx ln lc):=by rw[hw2];exact aB _ rfl
 clear hw2;obtain⟨hcl, -⟩:=aC hbox;have q0:w2.cell? ⟨w.heap.size,0,none⟩=some (.slice x n c):=hcl 0;have q1:w2.cell? ⟨w.heap.size,1,none⟩=some (.slice lx ln lc):=hcl 1;clear hcl hbox;have hp2:=hp.later h02;have hl2:=hl.later h02;have hsz:Hid (w.heap.size<=w2.heap.size):=h02.size;generalize hbk:w.heap.size=bk at*;by_cases h6:6<n
 ·have hd:(decide ((n:Int)>6))=true:=by simp;omega
  go_wp2;go_ret;exact⟨cO (by rw[hbd.out,decide_eq_true h6];rfl),by rw[hbk];exact h02⟩
 ·have hd:(decide ((n:Int)>6))=false:=by simp;omega
  have hd6:Hid (decide (6<n)=false):=by show _=_;simp;omega
  by_cases h12:12<ln
  ·have hd2:(decide ((ln:Int)>12))=true:=by simp;omega
   go_wp2;go_ret;exact⟨cO (by rw[hbd.out,decide_eq_true h12];simp),by rw[hbk];exact h02⟩
  ·have hd2:(decide ((ln:Int)>12))=false:=by simp;omega
   have hd12:Hid (decide (12<ln)=false):=by show _=_;simp;omega
   cases hv:jY n vs
   ·go_wp2_with (go_at_call 62;refine(vpcsRight_is _ _ _ _ _ hv _ hp2 (by omega)).mono ?_;rintro e w3 ⟨rfl,hb3⟩);go_ret;exact⟨cO (by rw[hbd.out,hd6.out,hd12.out,hv];rfl),by rw[hbk];exact h02.trans (hb3.mono hsz.out)⟩
   ·go_wp2_with fail;refine(vpcsRight_is _ _ _ _ _ hv _ hp2 (by omega)).mono ?_;rintro e w3 ⟨rfl,hb3⟩;have h03:Below bk w w3:=h02.trans (hb3.mono hsz.out);have hsz3:Hid (bk<=w3.heap.size):=Nat.le_trans hsz.out hb3.size;have r0:=cell_later hb3 q0;have r1:=cell_later hb3 q1;clear q0 q1;have hp3:=hp2.later hb3;have hl3:=hl2.later hb3;clear hb3
    cases hli:eR n vs ln ls
    ·go_wp2_with (go_at_call 63;refine(linksRight_is _ _ _ _ _ _ _ _ _ hli _ hp3 (by omega) hl3 (by omega)).mono ?_;rintro e w4 ⟨rfl,hb4⟩);go_ret;exact⟨cO (by rw[hbd.out,hd6.out,hd12.out,hv,hli];rfl),by rw[hbk];exact h03.trans (hb4.mono hsz3.out)⟩
    ·go_wp2_with fail;refine(linksRight_is _ _ _ _ _ _ _ _ _ hli _ hp3 (by omega) hl3 (by omega)).mono ?_;rintro e w4 ⟨rfl,hb4⟩;have h04:Below bk w w4:=h03.trans (hb4.mono hsz3.out);have hsz4:Hid (bk<=w4.heap.size):=Nat.le_trans hsz3.out hb4.size;have s0:=cell_later hb4 r0;have s1:=cell_later hb4 r1;clear r0 r1;have hp4:=hp3.later hb4;have hl4:=hl3.later hb4;clear hb4;have hfw:=AF hv;have hlm:=vE hvl.out hli
     cases ha:E1 ls n vs;all_goals go_wp2_with (go_at_call 64;refine(napart_is _ _ _ _ _ _ _ _ _ ha _ hp4 (by omega) hnc hl4 (by omega) (fun i hi=>(hfw i hi).1) (fun i hi=>(hfw i hi).2) hlm).mono ?_;rintro e w5 ⟨rfl,hb5⟩)
     all_goals go_ret
     all_goals exact⟨cO (by rw[hbd.out,hd6.out,hd12.out,hv,hli,ha];rfl),by rw[hbk];exact h04.trans (hb5.mono hsz4.out)⟩
theorem fI(x:Option Addr)(n c:Nat)(vs:List Vn)(lx:Option Addr)(ln lc:Nat)(ls:List (Int×Int))(t:Int)(h:cW n vs ln ls=t)(w:World)(hp:VS w x n vs)(hn:n<=9223372036854775807)(hnc:n<=c)(hl:PS w lx ln ls)(hln:ln<=9223372036854775807):
  Calls Tryz.prog 32 #[.agg #[.slice x n c, .slice lx ln lc]] w fun e w'=>e= .returned (.int .i64 t)/\Below w.heap.size w w':=by
 subst h;exact AG x n c vs lx ln lc ls w hp hn hnc hl hln
theorem AH:(List.range n).all f=true↔∀i,i<n->f i=true:=by
 rw[List.all_eq_true];exact⟨fun h i hi=>h i (by simpa using hi),fun h i hi=>h i (by simpa using hi)⟩
theorem AI:anyAt n f=false↔∀i,i<n->f i=false:=by
 constructor
 ·intro h i hi
  cases e:f i
  ·rfl
  ·rw[bR hi e]at h;cases h
 ·exact nJ
end Go.Proofs.YtjphnaccgfjnjaaGreatDoor
