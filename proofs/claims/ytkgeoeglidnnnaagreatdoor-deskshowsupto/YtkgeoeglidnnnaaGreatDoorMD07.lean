/- A part of the proof. -/
import Derived.Test.YtkgeoeglidnnnaaGreatDoorMD06
set_option maxRecDepth 100000
set_option maxHeartbeats 20000000
namespace Go.Proofs.YtkgeoeglidnnnaaGreatDoor
variable {n rn sn k i b base g base' ln : Nat} {f : Nat → Bool} {rs : List Rg} {a : Act} {l h0 h1 x : Int} {ss : List Sb} {ps ls : List (Int × Int)} {vs : List Vn} {ids es : List Int} {w w' : World} {P : Program} {v : Value} {cs : Array Value} {t : TypeId} {fr : Nat × Nat} {ops : Array Oper} {rest : List Oper} {o : Oper} {Q : Exit → Act → World → Prop}
open Go.RowKit Go.Shelf
def nS(rn:Nat)(rs:List Rg)(ss:List Sb)(i:Nat):Bool:=oY rn rs (aG ss i).id (aG ss i).a (aG ss i).l&&!anyAt i (AX ss (aG ss i).a (aG ss i).l)&&oZ (aG ss i).a (aG ss i).l (aG ss i).n (aG ss i).fs
def wH(rn:Nat)(rs:List Rg)(n:Nat)(ss:List Sb):Bool:=(List.range n).all (nS rn rs ss)&&nO ss
theorem nT(h:anyAt n f=true):∃i,i<n/\f i=true:=by
 unfold anyAt at h;rw[List.any_eq_true]at h;obtain⟨i,hi,hf⟩:=h;exact⟨i,by simpa using hi,hf⟩
theorem RR{id a:Int}(h:oY rn rs id a l=true):rt a l=true:=by
 unfold oY at h;rw[zH]at h;obtain⟨i, -,hi⟩:=nT h.2;unfold PR jQ at hi;simp only[zH]at hi;exact hi.1.1.1
theorem BJ(vid:Int)(rx:Option Addr)(rn rc:Nat)(rs:List Rg)(x:Option Addr)(n c:Nat)(ss:List Sb)(w:World)(hR:RS w rx rn rs)(hrn:rn<=4)(hp:SS w x n ss)(hn:n<=6)(hnc:n<=c)
 (hm:∀i,i<n->(aG ss i).n<=8)(hm2:∀i,i<n->∀j,j<(aG ss i).n->(fcAt (aG ss i).fs j).n<=4):
  Calls Tryz.prog 127 #[.agg #[.int .i64 vid, .slice rx rn rc, .slice x n c]] w fun e w'=>e= .returned (.bool (wH rn rs n ss))/\Below w.heap.size w w':=by
 have hbd:Hid (wH rn rs n ss=((List.range n).all (nS rn rs ss)&&nO ss)):=rfl;go_enter Tryz.func127,Tryz.ntmps127;go_upto_region 1 with fail
 obtain⟨w2,hw2⟩:∃w2,w2=w.alloc (.cells #[.int .i64 vid, .slice rx rn rc, .slice x n c] 51):=⟨_,rfl⟩;rw[<-hw2];have h02:Below w.heap.size w w2:=by rw[hw2];exact bl1 w _
 have hbox:w2.heap[w.heap.size]?=some (.cells #[.int .i64 vid, .slice rx rn rc, .slice x n c] 51):=by rw[hw2];exact aB _ rfl
 clear hw2;have hp2:=hp.later h02;have hR2:=hR.later h02;obtain⟨hcl, -⟩:=aD hbox;have q0:w2.cell? ⟨w.heap.size,0,none⟩=some (.int .i64 vid):=hcl 0;have q1:w2.cell? ⟨w.heap.size,1,none⟩=some (.slice rx rn rc):=hcl 1;have q2:w2.cell? ⟨w.heap.size,2,none⟩=some (.slice x n c):=hcl 2;clear hcl hbox;generalize hbk:w.heap.size=bk at*;go_wp2;go_loopw [8] (fun i wr=>∃k:Nat,k<=n/\i= .int .i64 k/\Below w2.heap.size w2 wr/\(∀j,j<k->nS rn rs ss j=true)) (fun i _=>n- (intOf i).toNat)
 case atStart=>exact⟨0,by omega,rfl,zD,fun j hj=>by omega⟩
 case round=>
  obtain⟨k,hk,rfl,hB,hok⟩:=hrel
  have r0:=cell_later hB q0
  have r1:=cell_later hB q1
  have r2:=cell_later hB q2
  have hall:Below bk w wr:=h02.trans (hB.mono (by have:=h02.size;omega))
  clear q0 q1 q2
  by_cases hlt:k<n
  ·have hlt':Hid (k<n):=hlt;have hpr:=hp2.later hB;obtain⟨b,o,rfl,c0,c1,c2,c3⟩:=hpr.cells k hlt;have hF:=(hpr.faces k hlt).2.2;have hm1:=hm k hlt;have hm3:=hm2 k hlt;have hta:Hid (nS rn rs ss k=(oY rn rs (aG ss k).id (aG ss k).a (aG ss k).l&&!anyAt k (AX ss (aG ss k).a (aG ss k).l)&&oZ (aG ss k).a (aG ss k).l (aG ss k).n (aG ss k).fs)):=rfl;generalize hf:aG ss k=s at*;obtain⟨sid,sa,sl,sx,sn,scc,fs⟩:=s;simp only at*;clear hf;go_upto_region 4 with fail
   obtain⟨w3,hw3⟩:∃w3,w3=wr.alloc (.cells #[.int .i64 sid, .int .i64 sa, .int .i64 sl, .slice sx sn scc] 72):=⟨_,rfl⟩;rw[<-hw3];have h23:Below wr.heap.size wr w3:=by rw[hw3];exact bl1 wr _
   have hbox:w3.heap[wr.heap.size]?=some (.cells #[.int .i64 sid, .int .i64 sa, .int .i64 sl, .slice sx sn scc] 72):=by rw[hw3];exact aB _ rfl
   clear hw3 c0 c1 c2 c3;have s0:=cell_later h23 r0;have s1:=cell_later h23 r1;have s2:=cell_later h23 r2;clear r0 r1 r2;obtain⟨hcl, -⟩:=aD hbox;have t0:w3.cell? ⟨wr.heap.size,0,none⟩=some (.int .i64 sid):=hcl 0;have t1:w3.cell? ⟨wr.heap.size,1,none⟩=some (.int .i64 sa):=hcl 1;have t2:w3.cell? ⟨wr.heap.size,2,none⟩=some (.int .i64 sl):=hcl 2;have t3:w3.cell? ⟨wr.heap.size,3,none⟩=some (.slice sx sn scc):=hcl 3;clear hcl hbox;have hall3:Below bk w w3:=hall.trans (h23.mono (by have:=h02.size;have:=hB.size;omega));have hB3:Below w2.heap.size w2 w3:=hB.trans (h23.mono hB.size);have hF3:=hF.later h23;have hR3:=hR2.later hB3;have hp3:=hp2.later hB3;have g0:=Ws.here s0;have g1:=Ws.here s1;have g2:=Ws.here s2;have k0:=Ws.here t0;have k1:=Ws.here t1;have k2:=Ws.here t2;have k3:=Ws.here t3;clear s0 s1 s2 t0 t1 t2 t3
   cases hu:oY rn rs sid sa sl
   ·refine aE w3.heap.size (by kernel_rfl) (by kernel_rfl) ?_;repeat(go_big_quiet_step ((go_at_call 167;exact Calls.in_ws (zE) (kC _ _ _ _ _ _ _ _ _ _ _ _ hu _ (hR3.later (Ws.property _)) (by omega)))))
    refine wpQuiet_nil ?_;rintro _ ⟨u,rfl⟩;have hu2:=hall3.trans (u.property.mono (by have:=hall3.size;omega));generalize u.val=wu at hu2⊢;clear u g0 g1 g2 k0 k1 k2 k3;go_wp2;go_ret;exact⟨aI (by rw[hbd.out,dJ hlt'.out (by rw[hta.out,hu];rfl)];rfl),by rw[hbk];exact hu2⟩
   ·have hrt:=RR hu
    cases ha:anyAt k (AX ss sa sl)
    ·cases hfb:oZ sa sl sn fs;all_goals refine aE w3.heap.size (by kernel_rfl) (by kernel_rfl) ?_
     all_goals repeat(go_big_quiet_step (first|(go_at_call 167;exact Calls.in_ws (zE) (kC _ _ _ _ _ _ _ _ _ _ _ _ hu _ (hR3.later (Ws.property _)) (by omega)))|(go_at_call 168;exact Calls.in_ws (zE) (vG ss k _ n _ _ _ (hp3.later (Ws.property _)) (by omega) (by omega) _ _ ha))|(go_at_call 169;exact Calls.in_ws (zE) (BI _ _ _ _ _ _ _ _ hfb _ hrt (hF3.later (Ws.property _)) hm1 hm3))))
     all_goals refine wpQuiet_nil ?_
     all_goals rintro _ ⟨u,rfl⟩
     all_goals have hu2:=hall3.trans (u.property.mono (by have:=hall3.size;omega))
     all_goals have hu3:=hB3.trans (u.property.mono hB3.size)
     all_goals generalize u.val=wu at hu2 hu3⊢
     all_goals clear u g0 g1 g2 k0 k1 k2 k3
     ·go_wp2;go_ret;exact⟨aI (by rw[hbd.out,dJ hlt'.out (by rw[hta.out,hu,ha,hfb];rfl)];rfl),by rw[hbk];exact hu2⟩
     ·go_wp2;go_roundw
      case rel=>exact⟨k+1,hlt'.out,by go_num,hu3,fun j hj=>by
       by_cases hj2:j<k
       ·exact hok j hj2
       ·obtain rfl:j=k:=by omega
        rw[hta.out,hu,ha,hfb];rfl⟩
      case measure=>simp[intOf];have:=hlt'.out;omega
    ·refine aE w3.heap.size (by kernel_rfl) (by kernel_rfl) ?_;repeat(go_big_quiet_step (first|(go_at_call 167;exact Calls.in_ws (zE) (kC _ _ _ _ _ _ _ _ _ _ _ _ hu _ (hR3.later (Ws.property _)) (by omega)))|(go_at_call 168;exact Calls.in_ws (zE) (vG ss k _ n _ _ _ (hp3.later (Ws.property _)) (by omega) (by omega) _ _ ha))))
     refine wpQuiet_nil ?_;rintro _ ⟨u,rfl⟩;have hu2:=hall3.trans (u.property.mono (by have:=hall3.size;omega));generalize u.val=wu at hu2⊢;clear u g0 g1 g2 k0 k1 k2 k3;go_wp2;go_ret;exact⟨aI (by rw[hbd.out,dJ hlt'.out (by rw[hta.out,hu,ha];rfl)];rfl),by rw[hbk];exact hu2⟩
  ·obtain rfl:k=n:=by omega
   have hpr:=hp2.later hB;go_wp2_with fail;refine(NC x k c ss wr.heap.size 1 _ (hpr.later (bl1 wr _)) (by omega) (by simp)).mono ?_;rintro e w3 ⟨rfl,hb3⟩;have h23:=(bl1 wr _).trans (hb3.mono (by simp));clear hb3;have hall3:Below bk w w3:=hall.trans (h23.mono (by have:=h02.size;have:=hB.size;omega));go_wp2;go_ret;exact⟨aI (by rw[hbd.out,fI hok];rfl),by rw[hbk];exact hall3⟩
theorem subsRight_is(vid:Int)(rx:Option Addr)(rn rc:Nat)(rs:List Rg)(x:Option Addr)(n c:Nat)(ss:List Sb)(t:Bool)(h:wH rn rs n ss=t)(w:World)(hR:RS w rx rn rs)(hrn:rn<=4)(hp:SS w x n ss)(hn:n<=6)(hnc:n<=c)
 (hm:∀i,i<n->(aG ss i).n<=8)(hm2:∀i,i<n->∀j,j<(aG ss i).n->(fcAt (aG ss i).fs j).n<=4):
  Calls Tryz.prog 127 #[.agg #[.int .i64 vid, .slice rx rn rc, .slice x n c]] w fun e w'=>e= .returned (.bool t)/\Below w.heap.size w w':=by
 subst h;exact BJ vid rx rn rc rs x n c ss w hR hrn hp hn hnc hm hm2
def bN(vid:Int)(rn:Nat)(rs:List Rg)(sn:Nat)(ss:List Sb):Int:=if bU rn sn ss then 2 else if bV vid 1 65536&&yD rn rs&&wH rn rs sn ss then 0 else 1
theorem few(h:bU rn sn ss=false):rn<=4/\sn<=6/\(∀i,i<sn->(aG ss i).n<=8)/\∀i,i<sn->∀j,j<(aG ss i).n->(fcAt (aG ss i).fs j).n<=4:=by
 unfold bU at h;simp only[Bool.or_eq_false_iff,decide_eq_false_iff_not]at h;obtain⟨⟨h1,h2⟩,h3⟩:=h;have h4:∀i,i<sn->dE (aG ss i)=false:=fun i hi=>by
  cases e:dE (aG ss i)
  ·rfl
  ·have:=aW (f:=fun i=>dE (aG ss i)) hi e;rw[this]at h3;cases h3
 have h5:∀i,i<sn->(aG ss i).n<=8/\∀j,j<(aG ss i).n->(fcAt (aG ss i).fs j).n<=4:=fun i hi=>by
  have:=h4 i hi;unfold dE at this;simp only[Bool.or_eq_false_iff,decide_eq_false_iff_not]at this;refine⟨by omega,fun j hj=>?_⟩;by_cases e:4<(fcAt (aG ss i).fs j).n
  ·have h6:=aW (f:=fun j=>decide (4<(fcAt (aG ss i).fs j).n)) hj (by simpa using e);rw[h6]at this;cases this.2
  ·omega
 exact⟨by omega,by omega,fun i hi=>(h5 i hi).1,fun i hi=>(h5 i hi).2⟩
theorem tooMany_is(vid:Int)(rx sx:Option Addr)(rn rc sn sc:Nat)(ss:List Sb)(t:Bool)(h:bU rn sn ss=t)(w:World)(hr63:rn<=9223372036854775807)(hp:SS w sx sn ss)(hs:sn<=9223372036854775807):
  Calls Tryz.prog 125 #[.agg #[.int .i64 vid, .slice rx rn rc, .slice sx sn sc]] w fun e w'=>e= .returned (.bool t)/\Below w.heap.size w w':=by
 subst h;exact GR vid rx sx rn rc sn sc ss w hr63 hp hs
theorem checkV_any(vid:Int)(rx:Option Addr)(rn rc:Nat)(rs:List Rg)(sx:Option Addr)(sn sc:Nat)(ss:List Sb)(w:World)(hv:Vp w rx rn rc rs sx sn sc ss)(hrn:rn<=9223372036854775807)(hsn:sn<=9223372036854775807)(hrc:rc<=9223372036854775807):
  Calls Tryz.prog 90 #[.agg #[.int .i64 vid, .slice rx rn rc, .slice sx sn sc]] w fun e w'=>e= .returned (.int .i64 (bN vid rn rs sn ss))/\Below w.heap.size w w':=by
 have hbd:Hid (bN vid rn rs sn ss=if bU rn sn ss then 2 else if bV vid 1 65536&&yD rn rs&&wH rn rs sn ss then 0 else 1):=rfl;go_enter Tryz.func90,Tryz.ntmps90;go_upto_region 1 with fail
 obtain⟨w2,hw2⟩:∃w2,w2=w.alloc (.cells #[.int .i64 vid, .slice rx rn rc, .slice sx sn sc] 51):=⟨_,rfl⟩;rw[<-hw2];have h02:Below w.heap.size w w2:=by rw[hw2];exact bl1 w _
 have hbox:w2.heap[w.heap.size]?=some (.cells #[.int .i64 vid, .slice rx rn rc, .slice sx sn sc] 51):=by rw[hw2];exact aB _ rfl
 clear hw2;have hv2:=hv.later h02;obtain⟨hcl, -⟩:=aD hbox;have q0:w2.cell? ⟨w.heap.size,0,none⟩=some (.int .i64 vid):=hcl 0;have q1:w2.cell? ⟨w.heap.size,1,none⟩=some (.slice rx rn rc):=hcl 1;have q2:w2.cell? ⟨w.heap.size,2,none⟩=some (.slice sx sn sc):=hcl 2;clear hcl hbox;have hsz:Hid (w.heap.size<=w2.heap.size):=h02.size;generalize hbk:w.heap.size=bk at*
 cases hmy:bU rn sn ss
 ·obtain⟨f1,f2,f3,f4⟩:=few hmy;go_wp2_with fail;refine(tooMany_is _ _ _ _ _ _ _ _ _ hmy _ hrn hv2.subs hsn).mono ?_;rintro e w3 ⟨rfl,hb3⟩;have r0:=cell_later hb3 q0;have r1:=cell_later hb3 q1;have r2:=cell_later hb3 q2;clear q0 q1 q2;have hv3:=hv2.later hb3;have h03:Below bk w w3:=h02.trans (hb3.mono hsz.out);have hsz3:Hid (bk<=w3.heap.size):=Nat.le_trans hsz.out hb3.size
  cases hw:bV vid 1 65536
  ·go_wp2_with (go_at_call 79;refine(isId_is _ _ hw _).mono ?_;rintro e w4 ⟨rfl,rfl⟩);go_ret;exact⟨aP (by rw[hbd.out,hmy,hw];rfl),by rw[hbk];exact h03⟩
  ·go_wp2_with fail;refine(isId_is _ _ hw _).mono ?_;rintro e w4 ⟨rfl,rfl⟩
   cases hr:yD rn rs
   ·go_wp2_with (go_at_call 126;refine(rangesRight_is _ _ _ _ _ hr _ hv3.ranges (by omega) hv3.rcap hrc).mono ?_;rintro e w4 ⟨rfl,hb4⟩);go_ret;exact⟨aP (by rw[hbd.out,hmy,hw,hr];rfl),by rw[hbk];exact h03.trans (hb4.mono hsz3.out)⟩
   ·go_wp2_with fail;refine(rangesRight_is _ _ _ _ _ hr _ hv3.ranges (by omega) hv3.rcap hrc).mono ?_;rintro e w4 ⟨rfl,hb4⟩;have s0:=cell_later hb4 r0;have s1:=cell_later hb4 r1;have s2:=cell_later hb4 r2;clear r0 r1 r2;have hv4:=hv3.later hb4;have h04:Below bk w w4:=h03.trans (hb4.mono hsz3.out);have hsz4:Hid (bk<=w4.heap.size):=Nat.le_trans hsz3.out hb4.size
    cases hs:wH rn rs sn ss;all_goals go_wp2_with (go_at_call 127;refine(subsRight_is _ _ _ _ _ _ _ _ _ _ hs _ hv4.ranges f1 hv4.subs f2 hv4.scap f3 f4).mono ?_;rintro e w5 ⟨rfl,hb5⟩)
    all_goals go_ret
    all_goals exact⟨aP (by rw[hbd.out,hmy,hw,hr,hs];rfl),by rw[hbk];exact h04.trans (hb5.mono hsz4.out)⟩
 ·go_wp2_with (go_at_call 125;refine(tooMany_is _ _ _ _ _ _ _ _ _ hmy _ hrn hv2.subs hsn).mono ?_;rintro e w3 ⟨rfl,hb3⟩);go_ret;exact⟨aP (by rw[hbd.out,hmy];rfl),by rw[hbk];exact h02.trans (hb3.mono hsz.out)⟩
def RT(g:Nat)(cap:Array Value)(n:Nat)(ps:List Vn)(f:Nat->Bool)(w:World):Prop:=
 ∀i,i<n->∀W,Below w.heap.size w W->Calls Tryz.prog g (#[.agg #[.int .i64 (vnAt ps i).id, .slice (vnAt ps i).rx (vnAt ps i).rn (vnAt ps i).rc, .slice (vnAt ps i).sx (vnAt ps i).sn (vnAt ps i).sc]]++cap) W fun e W'=>e= .returned (.bool (f i))/\Below W.heap.size W W'
theorem gY(g:Nat)(cap:Array Value)(x:Option Addr)(n c:Nat)(ps:List Vn)(f:Nat->Bool)(w:World)(hp:VS w x n ps)(hn:n<=1048576)(hF:RT g cap n ps f w)
 (hg:∀args W,(callFunc g args).run Tryz.prog W= .ok (.enter g args) W):
  Calls Tryz.prog 124 #[.slice x n c, .func (.func g) #[] cap] w fun e w'=>(∃r:Int,e= .returned (.int .i64 r)/\((∃i:Nat,i<n/\f i=true/\(∀j,j<i->f j=false)/\r=i)\/((∀j,j<n->f j=false)/\r= -1)))/\Below w.heap.size w w':=(qA.2.2.2.2.2.2.1 g cap x n c _ f w hp.idx (by omega) hF hg).1
theorem qJ(g:Nat)(cap:Array Value)(x:Option Addr)(n c:Nat)(ps:List Vn)(f:Nat->Bool)(w:World)(hp:VS w x n ps)(hn:n<=1048576)(hF:RT g cap n ps f w)
 (hg:∀args W,(callFunc g args).run Tryz.prog W= .ok (.enter g args) W):
  Calls Tryz.prog 88 #[.slice x n c, .func (.func g) #[] cap] w fun e w'=>e= .returned (.bool (anyAt n f))/\Below w.heap.size w w':=(qA.2.2.2.2.2.2.1 g cap x n c _ f w hp.idx (by omega) hF hg).2
def RU(g:Nat)(cap:Array Value)(n:Nat)(ps:List (Int×Int))(f:Nat->Bool)(w:World):Prop:=
 ∀i,i<n->∀W,Below w.heap.size w W->Calls Tryz.prog g (#[.agg #[.int .i64 (at0 ps i), .int .i64 (bY ps i)]]++cap) W fun e W'=>e= .returned (.bool (f i))/\Below W.heap.size W W'
theorem wI(g:Nat)(cap:Array Value)(x:Option Addr)(n c:Nat)(ps:List (Int×Int))(f:Nat->Bool)(w:World)(hp:PS w x n ps)(hn:n<=1048576)(hF:RU g cap n ps f w)
 (hg:∀args W,(callFunc g args).run Tryz.prog W= .ok (.enter g args) W):
  Calls Tryz.prog 129 #[.slice x n c, .func (.func g) #[] cap] w fun e w'=>(∃r:Int,e= .returned (.int .i64 r)/\((∃i:Nat,i<n/\f i=true/\(∀j,j<i->f j=false)/\r=i)\/((∀j,j<n->f j=false)/\r= -1)))/\Below w.heap.size w w':=(qA.2.2.2.2.2.2.2 g cap x n c _ f w hp.idx (by omega) hF hg).1
theorem qK(g:Nat)(cap:Array Value)(x:Option Addr)(n c:Nat)(ps:List (Int×Int))(f:Nat->Bool)(w:World)(hp:PS w x n ps)(hn:n<=1048576)(hF:RU g cap n ps f w)
 (hg:∀args W,(callFunc g args).run Tryz.prog W= .ok (.enter g args) W):
  Calls Tryz.prog 94 #[.slice x n c, .func (.func g) #[] cap] w fun e w'=>e= .returned (.bool (anyAt n f))/\Below w.heap.size w w':=(qA.2.2.2.2.2.2.2 g cap x n c _ f w hp.idx (by omega) hF hg).2
theorem vI(p r:Vn)(v:Int)(hv:FC p.id r.id v)(bb kk:Nat)(w:World)(hby:w.cell? ⟨bb,0,none⟩=some (.func (.func 87) #[] #[])):
  Calls Tryz.prog 123 #[.agg #[.int .i64 p.id, .slice p.rx p.rn p.rc, .slice p.sx p.sn p.sc], .agg #[.int .i64 r.id, .slice r.rx r.rn r.rc, .slice r.sx r.sn r.sc], .slice (some ⟨bb,0,none⟩) 1 kk] w fun e w'=>e= .returned (.int .i64 v)/\Below w.heap.size w w':=MU.2.2.2.2.2 bys.2.2.2.2.2 p r v hv bb kk w hby
def fK(ps:List Vn)(i:Nat):Bool:=i==0||decide ((vnAt ps (i- 1)).id<(vnAt ps i).id)
def cX(ps:List Vn):Bool:=(List.range ps.length).all (fK ps)
theorem RW{ps:List Vn}(hk:k<ps.length)(h:fK ps k=false):cX ps=false:=by
 unfold cX;rw[List.all_eq_false];exact⟨k,by simpa using hk,by simp[h]⟩
theorem NG{ps:List Vn}(h:∀j,j<ps.length->fK ps j=true):cX ps=true:=by
 unfold cX;rw[List.all_eq_true];intro j hj;exact h j (by simpa using hj)
theorem NH(x:Option Addr)(n c:Nat)(ps:List Vn)(bb kk:Nat)(w:World)(hp:VS w x n ps)(hn:n<=64)(hby:w.cell? ⟨bb,0,none⟩=some (.func (.func 87) #[] #[])):
  Calls Tryz.prog 86 #[.slice x n c, .slice (some ⟨bb,0,none⟩) 1 kk] w fun e w'=>e= .returned (.bool (cX ps))/\Below w.heap.size w w':=by
 refine(B7.2.2.2.2.2 (vnAt ps) (fun i=>decide ((vnAt ps i).id<(vnAt ps (i+1)).id)) x n c bb 1 kk w hn (fun i hi=>?_) (fun i hi=>?_)).mono ?_
 ·obtain⟨b,o,hx,d0,d1,d2⟩:=hp.cells i hi;exact⟨b,o,hx,by rintro(_|_|_|q) hq<;>first|assumption|omega⟩
 ·obtain⟨v,hv,hd⟩:=sZ ((vnAt ps i).id) ((vnAt ps (i+1)).id);exact⟨v,hd,fun W hW=>vI _ _ v hv bb kk W (cell_later hW hby)⟩
 ·rintro e w1 ⟨t,rfl,hb,h⟩;exact⟨congrArg (fun t=>Ending.returned (.bool t)) ((oK (R:=fK ps) rfl (fun _=>rfl) h).trans (by rw[<-hp.len];rfl)),hb⟩
def aM(n:Nat)(vs:List Vn)(id:Int):Int:=match(List.range n).find? (fun i=>(vnAt vs i).id==id)with |some i=>i|none=> -1
theorem mD{id:Int}(hi:i<n)(h:((vnAt vs i).id==id)=true)(hno:∀j,j<i->((vnAt vs j).id==id)=false):aM n vs id=i:=by
 unfold aM;have:(List.range n).find? (fun i=>(vnAt vs i).id==id)=some i:=by
  rw[List.find?_range_eq_some];exact⟨h,by simpa using hi,fun j hj=>by simp[hno j hj]⟩
 rw[this]
theorem tQ{id:Int}(hno:∀j,j<n->((vnAt vs j).id==id)=false):aM n vs id= -1:=by
 unfold aM;have:(List.range n).find? (fun i=>(vnAt vs i).id==id)=none:=by
  rw[List.find?_eq_none];intro j hj;simp[hno j (by simpa using hj)]
 rw[this]
theorem JN(id:Int)(p:Vn)(b:Nat)(w:World)(h0:w.cell? ⟨b,0,none⟩=some (.int .i64 id)):
  Calls Tryz.prog 130 #[.agg #[.int .i64 p.id, .slice p.rx p.rn p.rc, .slice p.sx p.sn p.sc], .pointer (some ⟨b,0,none⟩)] w fun e w'=>e= .returned (.bool (p.id==id))/\Below w.heap.size w w':=by
 have k0:∀q,(w.alloc q).cell? ⟨b,0,none⟩=some (.int .i64 id):=fun q=>cell_later (bl1 w q) h0;go_enter Tryz.func130,Tryz.ntmps130;go_wp2;go_ret;exact⟨rfl,bl1 w _⟩
theorem GS(args:Array Value)(W:World):(callFunc 130 args).run Tryz.prog W= .ok (.enter 130 args) W:=by simp[go_sem]
theorem place_any(id:Int)(x:Option Addr)(n c:Nat)(vs:List Vn)(lx:Option Addr)(ln lc:Nat)(w:World)(hp:VS w x n vs)(hn:n<=1048576):
  Calls Tryz.prog 96 #[.agg #[.slice x n c, .slice lx ln lc], .int .i64 id] w fun e w'=>e= .returned (.int .i64 (aM n vs id))/\Below w.heap.size w w':=by
 go_enter Tryz.func96,Tryz.ntmps96;go_wp2_with fail;refine(gY 130 #[.pointer (some ⟨w.heap.size+1,0,none⟩)] x n c vs (fun i=>(vnAt vs i).id==id) _ (hp.later (bP w _ _)) hn (fun i _ W hW=>JN id (vnAt vs i) (w.heap.size+1) W (cell_later hW (by simp))) GS).mono ?_;rintro e w1 ⟨⟨r,rfl,hr⟩,hb1⟩;have hrv:r=aM n vs id:=by
  rcases hr with ⟨i,hi,hf,hno,rfl⟩|⟨hno,rfl⟩
  ·exact(mD hi hf hno).symm
  ·exact(tQ hno).symm
 subst hrv;go_wp2;go_ret;exact⟨rfl,(bP w _ _).trans (hb1.mono (by simp;omega))⟩
theorem rW(id:Int)(x:Option Addr)(n c:Nat)(vs:List Vn)(lx:Option Addr)(ln lc:Nat)(t:Int)(h:aM n vs id=t)(w:World)(hp:VS w x n vs)(hn:n<=1048576):
  Calls Tryz.prog 96 #[.agg #[.slice x n c, .slice lx ln lc], .int .i64 id] w fun e w'=>e= .returned (.int .i64 t)/\Below w.heap.size w w':=by
 subst h;exact place_any id x n c vs lx ln lc w hp hn
def gS(v:Vn):Bool:=!(bN v.id v.rn v.rs v.sn v.ss==0)
theorem yI(p:Vn)(w:World)(hr:p.rn<=9223372036854775807)(hs:p.sn<=9223372036854775807)(hrc:p.rc<=9223372036854775807)(hv:Vp w p.rx p.rn p.rc p.rs p.sx p.sn p.sc p.ss):
  Calls Tryz.prog 89 #[.agg #[.int .i64 p.id, .slice p.rx p.rn p.rc, .slice p.sx p.sn p.sc]] w fun e w'=>e= .returned (.bool (gS p))/\Below w.heap.size w w':=by
 go_enter Tryz.func89,Tryz.ntmps89;go_wp2_with (go_at_call 90;refine(checkV_any _ _ _ _ _ _ _ _ _ _ (hv.later (bl1 w _)) hr hs hrc).mono ?_;rintro e w1 ⟨rfl,hb1⟩);go_ret;exact⟨aI (by unfold gS;simp[bne]),(bl1 w _).trans (hb1.mono (by simp))⟩
theorem wJ(args:Array Value)(W:World):(callFunc 89 args).run Tryz.prog W= .ok (.enter 89 args) W:=by simp[go_sem]
def dV(n:Nat)(vs:List Vn):Bool:=cX vs&&!anyAt n fun i=>gS (vnAt vs i)
theorem BK(x:Option Addr)(n c:Nat)(vs:List Vn)(w:World)(hp:VS w x n vs)(hn:n<=64):
  Calls Tryz.prog 51 #[.slice x n c] w fun e w'=>e= .returned (.bool (dV n vs))/\Below w.heap.size w w':=by
 have hbd:Hid (dV n vs=(cX vs&&!anyAt n fun i=>gS (vnAt vs i))):=rfl;go_enter Tryz.func51,Tryz.ntmps51;go_wp2_with fail;refine(NH x n c vs w.heap.size 1 _ (hp.later (bl1 w _)) hn (by simp)).mono ?_;rintro e w1 ⟨rfl,hb1⟩;have hB:=(bl1 w _).trans (hb1.mono (by simp));clear hb1
 cases hr:cX vs
 ·go_wp2;go_ret;exact⟨aI (by rw[hbd.out,hr];rfl),hB⟩
 ·have hp1:=hp.later hB;go_wp2_with fail;refine(qJ 89 #[] x n c vs _ _ hp1 (by omega) (fun i hi W hW=>yI (vnAt vs i) W (hp1.vps i hi).1 (hp1.vps i hi).2.1 (hp1.vps i hi).2.2.1 ((hp1.vps i hi).2.2.2.later hW)) wJ).mono ?_;rintro e w2 ⟨rfl,hb2⟩;go_wp2;go_ret;exact⟨aI (by rw[hbd.out,hr];simp),hB.trans (hb2.mono hB.size)⟩
theorem vpcsRight_is(x:Option Addr)(n c:Nat)(vs:List Vn)(t:Bool)(h:dV n vs=t)(w:World)(hp:VS w x n vs)(hn:n<=64):
  Calls Tryz.prog 51 #[.slice x n c] w fun e w'=>e= .returned (.bool t)/\Below w.heap.size w w':=by
 subst h;exact BK x n c vs w hp hn
def kY(rn:Nat)(rs:List Rg)(qn:Nat)(qs:List Rg):Bool:=anyAt rn fun i=>anyAt qn fun j=>eD (rgAt rs i).a (rgAt rs i).l (rgAt qs j).a (rgAt qs j).l
theorem JO(c m:Int)(p:Rg)(b:Nat)(w:World)(h0:w.cell? ⟨b,0,none⟩=some (.int .i64 c))(h1:w.cell? ⟨b,1,none⟩=some (.int .i64 m)):
  Calls Tryz.prog 133 #[.agg #[.int .i64 p.a, .int .i64 p.l, .int .i64 p.p], .pointer (some ⟨b,0,none⟩)] w fun e w'=>e= .returned (.bool (eD c m p.a p.l))/\Below w.heap.size w w':=by
 have k0:∀q,(w.alloc q).cell? ⟨b,0,none⟩=some (.int .i64 c):=fun q=>cell_later (bl1 w q) h0;have k1:∀q,(w.alloc q).cell? ⟨b,1,none⟩=some (.int .i64 m):=fun q=>cell_later (bl1 w q) h1;go_enter Tryz.func133,Tryz.ntmps133;go_wp2_with (go_at_call 118;refine(meets_any _ _ _ _ _).mono ?_;rintro e w1 ⟨rfl,hb1⟩);go_ret;exact⟨rfl,(bl1 w _).trans (hb1.mono (by simp))⟩
theorem GT(args:Array Value)(W:World):(callFunc 133 args).run Tryz.prog W= .ok (.enter 133 args) W:=by simp[go_sem]
theorem NI(p:Rg)(qx:Option Addr)(qn qc:Nat)(qs:List Rg)(b:Nat)(w:World)(hq:RS w qx qn qs)(hqn:qn<=64)(h1:w.cell? ⟨b,1,none⟩=some (.slice qx qn qc)):
  Calls Tryz.prog 132 #[.agg #[.int .i64 p.a, .int .i64 p.l, .int .i64 p.p], .pointer (some ⟨b,0,none⟩)] w fun e w'=>e= .returned (.bool (anyAt qn fun j=>eD p.a p.l (rgAt qs j).a (rgAt qs j).l))/\Below w.heap.size w w':=by
 have k1:∀q,(w.alloc q).cell? ⟨b,1,none⟩=some (.slice qx qn qc):=fun q=>cell_later (bl1 w q) h1;go_enter Tryz.func132,Tryz.ntmps132;go_wp2_with fail;refine(dI 133 #[.pointer (some ⟨w.heap.size,0,none⟩)] qx qn qc qs (fun j=>eD p.a p.l (rgAt qs j).a (rgAt qs j).l) _ (hq.later (bl1 w _)) (by omega) (fun i _ W hW=>JO p.a p.l (rgAt qs i) w.heap.size W (cell_later hW (by simp)) (cell_later hW (by simp))) GT).mono ?_;rintro e w1 ⟨rfl,hb1⟩;go_wp2;go_ret;exact⟨rfl,(bl1 w _).trans (hb1.mono (by simp))⟩
theorem JP(args:Array Value)(W:World):(callFunc 132 args).run Tryz.prog W= .ok (.enter 132 args) W:=by simp[go_sem]
theorem NJ(p q:Vn)(w:World)(hp:RS w p.rx p.rn p.rs)(hq:RS w q.rx q.rn q.rs)(hpn:p.rn<=64)(hqn:q.rn<=64):
  Calls Tryz.prog 99 #[.agg #[.int .i64 p.id, .slice p.rx p.rn p.rc, .slice p.sx p.sn p.sc], .agg #[.int .i64 q.id, .slice q.rx q.rn q.rc, .slice q.sx q.sn q.sc]] w fun e w'=>e= .returned (.bool (kY p.rn p.rs q.rn q.rs))/\Below w.heap.size w w':=by
 go_enter Tryz.func99,Tryz.ntmps99;go_wp2_with fail;refine(dI 132 #[.pointer (some ⟨w.heap.size+1,0,none⟩)] p.rx p.rn p.rc p.rs (fun i=>anyAt q.rn fun j=>eD (rgAt p.rs i).a (rgAt p.rs i).l (rgAt q.rs j).a (rgAt q.rs j).l) _ (hp.later (bP w _ _)) (by omega) (fun i _ W hW=>NI (rgAt p.rs i) q.rx q.rn q.rc q.rs (w.heap.size+1) W ((hq.later (bP w _ _)).later hW) hqn (cell_later hW (by simp))) JP).mono ?_;rintro e w1 ⟨rfl,hb1⟩;go_wp2;go_ret;exact⟨rfl,(bP w _ _).trans (hb1.mono (by simp;omega))⟩
theorem RX(p q:Vn)(t:Bool)(h:kY p.rn p.rs q.rn q.rs=t)(w:World)(hp:RS w p.rx p.rn p.rs)(hq:RS w q.rx q.rn q.rs)(hpn:p.rn<=64)(hqn:q.rn<=64):
  Calls Tryz.prog 99 #[.agg #[.int .i64 p.id, .slice p.rx p.rn p.rc, .slice p.sx p.sn p.sc], .agg #[.int .i64 q.id, .slice q.rx q.rn q.rc, .slice q.sx q.sn q.sc]] w fun e w'=>e= .returned (.bool t)/\Below w.heap.size w w':=by
 subst h;exact NJ p q w hp hq hpn hqn
theorem NK(a b:Int)(w:World):
  Calls Tryz.prog 92 #[.agg #[.int .i64 a, .int .i64 b]] w fun e w'=>e= .returned (.int .i64 a)/\Below w.heap.size w w':=by
 go_enter Tryz.func92,Tryz.ntmps92;go_wp2;go_ret;exact⟨rfl,bl1 _ _⟩
theorem NL(a b:Int)(w:World):
  Calls Tryz.prog 93 #[.agg #[.int .i64 a, .int .i64 b]] w fun e w'=>e= .returned (.int .i64 b)/\Below w.heap.size w w':=by
 go_enter Tryz.func93,Tryz.ntmps93;go_wp2;go_ret;exact⟨rfl,bl1 _ _⟩
theorem JQ(args:Array Value)(W:World):(callFunc 92 args).run Tryz.prog W= .ok (.enter 92 args) W:=by simp[go_sem]
theorem JR(args:Array Value)(W:World):(callFunc 93 args).run Tryz.prog W= .ok (.enter 93 args) W:=by simp[go_sem]
def VM(a l c m v:Int):Prop:=(a<c/\v= -1)\/(a=c/\FC l m v)\/(c<a/\v=1)
theorem vJ(a l c m v:Int)(hv:VM a l c m v)(bb k:Nat)(w:World)(hby:w.cell? ⟨bb,0,none⟩=some (.func (.func 92) #[] #[]))(hby2:w.cell? ⟨bb,1,none⟩=some (.func (.func 93) #[] #[])):
  Calls Tryz.prog 128 #[.agg #[.int .i64 a, .int .i64 l], .agg #[.int .i64 c, .int .i64 m], .slice (some ⟨bb,0,none⟩) 2 k] w fun e w'=>e= .returned (.int .i64 v)/\Below w.heap.size w w':=by
 have hcall:=JQ;have hcall2:=JR;go_enter Tryz.func128,Tryz.ntmps128;go_wp2;go_loopw [12] (fun i wr=>∃j:Nat,(j=0\/(j=1/\a=c/\FC l m v)\/(j=2/\v=0))/\i= .int .i64 j/\Below (w.heap.size+1+1) ((w.alloc (.cells #[.int .i64 a, .int .i64 l] 77)).alloc (.cells #[.int .i64 c, .int .i64 m] 77)) wr) (fun i _=>2- (intOf i).toNat)
 case atStart=>exact⟨0, .inl rfl,rfl,zD⟩
 case round=>
  obtain⟨j,hj,rfl,hB⟩:=hrel
  rcases hj with rfl|⟨rfl,hac,hv2⟩|⟨rfl,hv0⟩
  ·obtain⟨v1,hw⟩:∃v1,FC a c v1:=by
    rcases Int.lt_trichotomy a c with h|h|h
    ·exact⟨-1, .inl ⟨h,rfl⟩⟩
    ·exact⟨0, .inr (.inl ⟨h,rfl⟩)⟩
    ·exact⟨1, .inr (.inr ⟨h,rfl⟩)⟩
   have hz:=hB.size;simp only[World.size_alloc]at hz;have hbl:bb<w.heap.size:=block_lt_of_cell hby;have e0:wr.cell? ⟨w.heap.size,0,none⟩=some (.int .i64 a):=(hB.cell (p:=⟨w.heap.size,0,none⟩) (by show w.heap.size<_;omega)).trans (by simp);have e1:wr.cell? ⟨w.heap.size,1,none⟩=some (.int .i64 l):=(hB.cell (p:=⟨w.heap.size,1,none⟩) (by show w.heap.size<_;omega)).trans (by simp);have e2:wr.cell? ⟨w.heap.size+1,0,none⟩=some (.int .i64 c):=(hB.cell (p:=⟨w.heap.size+1,0,none⟩) (by show w.heap.size+1<_;omega)).trans (by simp);have e3:wr.cell? ⟨w.heap.size+1,1,none⟩=some (.int .i64 m):=(hB.cell (p:=⟨w.heap.size+1,1,none⟩) (by show w.heap.size+1<_;omega)).trans (by simp);have e4:wr.cell? ⟨bb,0,none⟩=some (.func (.func 92) #[] #[]):=(hB.cell (p:=⟨bb,0,none⟩) (by show bb<_;omega)).trans (cell_later (bP w _ _) hby);have e5:wr.cell? ⟨bb,1,none⟩=some (.func (.func 93) #[] #[]):=(hB.cell (p:=⟨bb,1,none⟩) (by show bb<_;omega)).trans (cell_later (bP w _ _) hby2);have g0:=Ws.here e0;have g1:=Ws.here e1;have g2:=Ws.here e2;have g3:=Ws.here e3;go_upto_region 4 with fail
   clear e0 e1 e2 e3 e4 e5;refine aE wr.heap.size (by kernel_rfl) (by kernel_rfl) ?_;repeat(go_big_quiet_step (first|(go_at_call 92;exact Calls.in_ws (zE) (NK _ _ _))|(go_at_call 153;exact Calls.in_ws_same (xI _ _ _ hw _))))
   refine wpQuiet_nil ?_;rintro _ ⟨u,rfl⟩;have hu:=hB.trans (u.property.mono hz);generalize u.val=wu at hu⊢;clear u g0 g1 g2 g3;have hv':Hid (VM a l c m v):=hv;clear hv;rcases hw with ⟨h,rfl⟩|⟨h,rfl⟩|⟨h,rfl⟩
   ·obtain rfl:v= -1:=by
     rcases hv'.out with ⟨_,h2⟩|⟨h2,_⟩|⟨h2,_⟩
     ·exact h2
     ·omega
     ·omega
    go_wp2;go_ret;exact⟨rfl,(bP w _ _).trans (hu.mono (by omega))⟩
   ·have h3:FC l m v:=by
     rcases hv'.out with ⟨h2,_⟩|⟨_,h2⟩|⟨h2,_⟩
     ·omega
     ·exact h2
     ·omega
    go_wp2;go_roundw
    case rel=>exact⟨1, .inr (.inl ⟨rfl,h,h3⟩),by go_num,hu⟩
    case measure=>simp[intOf]
   ·obtain rfl:v=1:=by
     rcases hv'.out with ⟨h2,_⟩|⟨h2,_⟩|⟨_,h2⟩
     ·omega
     ·omega
     ·exact h2
    go_wp2;go_ret;exact⟨rfl,(bP w _ _).trans (hu.mono (by omega))⟩
  ·have hw:=hv2;clear hv;have hz:=hB.size;simp only[World.size_alloc]at hz;have hbl:bb<w.heap.size:=block_lt_of_cell hby;have e0:wr.cell? ⟨w.heap.size,0,none⟩=some (.int .i64 a):=(hB.cell (p:=⟨w.heap.size,0,none⟩) (by show w.heap.size<_;omega)).trans (by simp);have e1:wr.cell? ⟨w.heap.size,1,none⟩=some (.int .i64 l):=(hB.cell (p:=⟨w.heap.size,1,none⟩) (by show w.heap.size<_;omega)).trans (by simp);have e2:wr.cell? ⟨w.heap.size+1,0,none⟩=some (.int .i64 c):=(hB.cell (p:=⟨w.heap.size+1,0,none⟩) (by show w.heap.size+1<_;omega)).trans (by simp);have e3:wr.cell? ⟨w.heap.size+1,1,none⟩=some (.int .i64 m):=(hB.cell (p:=⟨w.heap.size+1,1,none⟩) (by show w.heap.size+1<_;omega)).trans (by simp);have e4:wr.cell? ⟨bb,0,none⟩=some (.func (.func 92) #[] #[]):=(hB.cell (p:=⟨bb,0,none⟩) (by show bb<_;omega)).trans (cell_later (bP w _ _) hby);have e5:wr.cell? ⟨bb,1,none⟩=some (.func (.func 93) #[] #[]):=(hB.cell (p:=⟨bb,1,none⟩) (by show bb<_;omega)).trans (cell_later (bP w _ _) hby2);have g0:=Ws.here e0;have g1:=Ws.here e1;have g2:=Ws.here e2;have g3:=Ws.here e3;go_upto_region 4 with fail
   clear e0 e1 e2 e3 e4 e5;refine aE wr.heap.size (by kernel_rfl) (by kernel_rfl) ?_;repeat(go_big_quiet_step (first|(go_at_call 93;exact Calls.in_ws (zE) (NL _ _ _))|(go_at_call 153;exact Calls.in_ws_same (xI _ _ _ hw _))))
   refine wpQuiet_nil ?_;rintro _ ⟨u,rfl⟩;have hu:=hB.trans (u.property.mono hz);generalize u.val=wu at hu⊢;clear u g0 g1 g2 g3;clear hv2;rcases hw with ⟨h,rfl⟩|⟨h,rfl⟩|⟨h,rfl⟩
   ·go_wp2;go_ret;exact⟨rfl,(bP w _ _).trans (hu.mono (by omega))⟩
   ·go_wp2;go_roundw
    case rel=>exact⟨2, .inr (.inr ⟨rfl,by first|rfl|trivial⟩),by go_num,hu⟩
    case measure=>simp[intOf]
   ·go_wp2;go_ret;exact⟨rfl,(bP w _ _).trans (hu.mono (by omega))⟩
  ·subst hv0;go_wp2;go_ret;exact⟨rfl,(bP w _ _).trans (hB.mono (by omega))⟩
def eS(ps:List (Int×Int))(i:Nat):Bool:=i==0||decide (at0 ps (i- 1)<at0 ps i\/(at0 ps (i- 1)=at0 ps i/\bY ps (i- 1)<bY ps i))
def nU(ps:List (Int×Int)):Bool:=(List.range ps.length).all (eS ps)
theorem GU(hk:k<ps.length)(h:eS ps k=false):nU ps=false:=by
 unfold nU;rw[List.all_eq_false];exact⟨k,by simpa using hk,by simp[h]⟩
theorem CL(h:∀j,j<ps.length->eS ps j=true):nU ps=true:=by
 unfold nU;rw[List.all_eq_true];intro j hj;exact h j (by simpa using hj)
theorem NM(x:Option Addr)(n c:Nat)(ps:List (Int×Int))(bb k:Nat)(w:World)(hp:PS w x n ps)(hn:n<=64)(hby:w.cell? ⟨bb,0,none⟩=some (.func (.func 92) #[] #[]))(hby2:w.cell? ⟨bb,1,none⟩=some (.func (.func 93) #[] #[])):
  Calls Tryz.prog 91 #[.slice x n c, .slice (some ⟨bb,0,none⟩) 2 k] w fun e w'=>e= .returned (.bool (nU ps))/\Below w.heap.size w w':=by
 go_enter Tryz.func91,Tryz.ntmps91;go_wp2;go_loopw [5] (fun i wr=>∃j:Nat,1<=j/\j<=n+1/\i= .int .i64 j/\Below w.heap.size w wr/\(∀i,i<j->i<n->eS ps i=true)) (fun i _=>n+1- (intOf i).toNat)
 case atStart=>exact⟨1,by omega,by omega,rfl,zD,fun i hi _=>by
  obtain rfl:i=0:=by omega
  rfl⟩
 case round=>
  obtain⟨j,hj1,hjn,rfl,hB,hok⟩:=hrel
  have hz:=hB.size
  have hpl:=hp.len
  by_cases hlt:j<n
  ·obtain⟨i,rfl⟩:∃i,j=i+1:=⟨j- 1,by omega⟩;have hp2:=hp.later hB;obtain⟨b,o,rfl,c0,c1⟩:=hp2.cells i (by omega);obtain⟨b2,o2,hbo,c2,c3⟩:=hp2.cells (i+1) (by omega);simp only[Option.some.injEq,Addr.mk.injEq,and_true]at hbo;obtain⟨rfl,rfl⟩:=hbo;have hby':=cell_later hB hby;have hby2':=cell_later hB hby2;have hlt':=hlt;have g0:=Ws.here c0;have g1:=Ws.here c1;have g2:=Ws.here c2;have g3:=Ws.here c3;have g4:=Ws.here hby';have g5:=Ws.here hby2';have hv:∃v,VM (at0 ps i) (bY ps i) (at0 ps (i+1)) (bY ps (i+1)) v/\(decide (at0 ps i<at0 ps (i+1)\/(at0 ps i=at0 ps (i+1)/\bY ps i<bY ps (i+1)))=!(decide (0<=v))):=by
    rcases Int.lt_trichotomy (at0 ps i) (at0 ps (i+1))with h|h|h
    ·exact⟨-1, .inl ⟨h,rfl⟩,by simp[h]⟩
    ·rcases Int.lt_trichotomy (bY ps i) (bY ps (i+1))with h2|h2|h2
     ·exact⟨-1, .inr (.inl ⟨h, .inl ⟨h2,rfl⟩⟩),by simp[h,h2]⟩
     ·exact⟨0, .inr (.inl ⟨h, .inr (.inl ⟨h2,rfl⟩)⟩),by simp[h,h2]⟩
     ·exact⟨1, .inr (.inl ⟨h, .inr (.inr ⟨h2,rfl⟩)⟩),by simp[h];omega⟩
    ·exact⟨1, .inr (.inr ⟨h,rfl⟩),by simp;omega⟩
   obtain⟨v,hv,hd⟩:=hv;go_upto_region 4 with fail
   clear c0 c1 c2 c3;refine aE wr.heap.size (by kernel_rfl) (by kernel_rfl) ?_
   cases hg:decide (0<=v);all_goals rw[hg]at hd
   all_goals have hge:decide (v≥0)=_:=hg
   all_goals repeat(go_big_quiet_step ((go_at_call 128;exact Calls.in_ws (zE) (vJ _ _ _ _ _ hv _ _ _ (g4 _) (g5 _)))))
   all_goals refine wpQuiet_nil ?_
   all_goals rintro _ ⟨u,rfl⟩
   all_goals have hu:=hB.trans (u.property.mono hz)
   all_goals generalize u.val=wu at hu⊢
   all_goals clear u g0 g1 g2 g3 g4 g5
   all_goals go_wp2
   ·go_roundw
    case rel=>exact⟨i+1+1,by omega,by omega,by go_num,hu,fun q hq hqn=>by
     by_cases hq2:q<i+1
     ·exact hok q hq2 hqn
     ·obtain rfl:q=i+1:=by omega
      simp only[eS,Nat.add_sub_cancel,hd];simp⟩
    case measure=>simp[intOf];omega
   ·go_ret;exact⟨aI (GU (k:=i+1) (by omega) (by simp only[eS,Nat.add_sub_cancel,hd];simp)).symm,hu⟩
  ·go_wp2;go_ret;exact⟨aI (CL (fun i hi=>hok i (by omega) (by omega))).symm,hB⟩
def pB(vn:Nat)(vs:List Vn)(ls:List (Int×Int))(i:Nat):Bool:=decide (bY ls i<=at0 ls i)||decide (aM vn vs (at0 ls i)<0)||decide (aM vn vs (bY ls i)<0)
theorem wK(a b:Int)(bb:Nat)(x:Option Addr)(n c:Nat)(vs:List Vn)(lx:Option Addr)(ln lc:Nat)(w:World)(hp:VS w x n vs)(hn:n<=64)(h0:w.cell? ⟨bb,0,none⟩=some (.slice x n c))(h1:w.cell? ⟨bb,1,none⟩=some (.slice lx ln lc)):
  Calls Tryz.prog 95 #[.agg #[.int .i64 a, .int .i64 b], .pointer (some ⟨bb,0,none⟩)] w fun e w'=>e= .returned (.bool (decide (b<=a)||decide (aM n vs a<0)||decide (aM n vs b<0)))/\Below w.heap.size w w':=by
 go_enter Tryz.func95,Tryz.ntmps95;go_upto_region 1 with fail
 obtain⟨w2,hw2⟩:∃w2,w2=w.alloc (.cells #[.int .i64 a, .int .i64 b] 77):=⟨_,rfl⟩;rw[<-hw2];have h02:Below w.heap.size w w2:=by rw[hw2];exact bl1 w _
 have hbox:w2.heap[w.heap.size]?=some (.cells #[.int .i64 a, .int .i64 b] 77):=by rw[hw2];exact aB _ rfl
 clear hw2;obtain⟨hcl, -⟩:=aD hbox;have q0:w2.cell? ⟨w.heap.size,0,none⟩=some (.int .i64 a):=hcl 0;have q1:w2.cell? ⟨w.heap.size,1,none⟩=some (.int .i64 b):=hcl 1;have q2:=cell_later h02 h0;have q3:=cell_later h02 h1;clear hcl hbox;have hp2:=hp.later h02;have hsz:Hid (w.heap.size<=w2.heap.size):=h02.size;by_cases hab:b<=a
 ·have hge:decide (a≥b)=true:=by simpa using hab
  go_wp2;go_ret;exact⟨aI (by simp[hab]),h02⟩
 ·have hge:decide (a≥b)=false:=by simpa using hab
  go_wp2_with fail;refine(place_any a x n c vs lx ln lc _ hp2 (by omega)).mono ?_;rintro e w3 ⟨rfl,hb3⟩;have r0:=cell_later hb3 q0;have r1:=cell_later hb3 q1;have r2:=cell_later hb3 q2;have r3:=cell_later hb3 q3;clear q0 q1 q2 q3;have h03:Below w.heap.size w w3:=h02.trans (hb3.mono hsz.out);by_cases hpa:aM n vs a<0
  ·have hd:decide (aM n vs a<0)=true:=by simpa using hpa
   go_wp2;go_ret;exact⟨aI (by simp[hpa]),h03⟩
  ·have hd:decide (aM n vs a<0)=false:=by simpa using hpa
   go_wp2_with (go_at_call 96;refine(place_any b x n c vs lx ln lc _ (hp2.later hb3) (by omega)).mono ?_;rintro e w4 ⟨rfl,hb4⟩);go_ret;exact⟨aI (by rw[show decide (b<=a)=false from hge,hd];rfl),h03.trans (hb4.mono (Nat.le_trans hsz.out hb3.size))⟩
theorem tR(args:Array Value)(W:World):(callFunc 95 args).run Tryz.prog W= .ok (.enter 95 args) W:=by simp[go_sem]
def cN(vn:Nat)(vs:List Vn)(ln:Nat)(ls:List (Int×Int)):Bool:=nU ls&&!anyAt ln (pB vn vs ls)
theorem yJ(x:Option Addr)(n c:Nat)(vs:List Vn)(lx:Option Addr)(ln lc:Nat)(ls:List (Int×Int))(w:World)(hp:VS w x n vs)(hn:n<=64)(hl:PS w lx ln ls)(hln:ln<=64):
  Calls Tryz.prog 52 #[.agg #[.slice x n c, .slice lx ln lc]] w fun e w'=>e= .returned (.bool (cN n vs ln ls))/\Below w.heap.size w w':=by
 have hbd:Hid (cN n vs ln ls=(nU ls&&!anyAt ln (pB n vs ls))):=rfl;go_enter Tryz.func52,Tryz.ntmps52;go_wp2_with fail;refine(NM lx ln lc ls (w.heap.size+1) 2 _ (hl.later (bP w _ _)) hln (by simp) (by simp)).mono ?_;rintro e w1 ⟨rfl,hb1⟩;have hB:=(bP w _ _).trans (hb1.mono (by simp;omega));have q0:w1.cell? ⟨w.heap.size,0,none⟩=some (.slice x n c):=cell_later hb1 (by simp);have q1:w1.cell? ⟨w.heap.size,1,none⟩=some (.slice lx ln lc):=cell_later hb1 (by simp);clear hb1
 cases hr:nU ls
 ·go_wp2;go_ret;exact⟨aI (by rw[hbd.out,hr];rfl),hB⟩
 ·have hp1:=hp.later hB;have hl1:=hl.later hB;go_wp2_with fail;refine(qK 95 #[.pointer (some ⟨w.heap.size,0,none⟩)] lx ln lc ls (pB n vs ls) _ hl1 (by omega) (fun i hi W hW=>wK (at0 ls i) (bY ls i) w.heap.size x n c vs lx ln lc W (hp1.later hW) hn (cell_later hW q0) (cell_later hW q1)) tR).mono ?_;rintro e w2 ⟨rfl,hb2⟩;go_wp2;go_ret;exact⟨aI (by rw[hbd.out,hr];simp),hB.trans (hb2.mono hB.size)⟩
theorem linksRight_is(x:Option Addr)(n c:Nat)(vs:List Vn)(lx:Option Addr)(ln lc:Nat)(ls:List (Int×Int))(t:Bool)(h:cN n vs ln ls=t)(w:World)(hp:VS w x n vs)(hn:n<=64)(hl:PS w lx ln ls)(hln:ln<=64):
  Calls Tryz.prog 52 #[.agg #[.slice x n c, .slice lx ln lc]] w fun e w'=>e= .returned (.bool t)/\Below w.heap.size w w':=by
 subst h;exact yJ x n c vs lx ln lc ls w hp hn hl hln
open Go.RowKit
open Go.RowKit Go.Shelf Go.Maps
theorem fL:Tryz.prog.underlying 165=some (.map 3 3):=by kernel_rfl
structure GM(D:DataW Unit)(g:Int->Int):Prop where
 isMap:IsMap D
 at_:∀a:Int,D.atKey (.int .i64 a) (.lit (.int .i64 0))= .lit (.int .i64 (g a))
theorem GM.empty:GM (.map []) (fun _=>0):=⟨isMap_empty,fun _=>rfl⟩
theorem GM.put{D:DataW Unit}{g:Int->Int}(h:GM D g)(a b:Int):GM (D.put (.int .i64 a) (.lit (.int .i64 b))) (fun y=>if y=a then b else g y) where
 isMap:=h.isMap.put _ _
 at_:=fun y=>by
  by_cases e:y=a
  ·subst e;rw[atKey_put_same h.isMap (by trivial),if_pos rfl]
  ·rw[atKey_put_other (by intro e2;exact e (by cases e2;rfl)),h.at_ y,if_neg e]
def jI(g:Int->Int):Nat->Int->Int->Prop
 |0,x,h=>g x=x/\h=x
 |n+1,x,h=>g x≠x/\jI g n (g x) h
def dep(g:Int->Int):Nat->Int->Nat
 |0,_=>0
 |n+1,x=>if g x=x then 0 else dep g n (g x)+1
theorem jI.dep_is{g:Int->Int}:∀{N n:Nat} {x h:Int},jI g n x h->n<=N->dep g N x=n
 |0,n,x,h,_,hn=>by simp[dep];omega
 |N+1,0,x,h,hl,_=>by simp[dep,hl.1]
 |N+1,n+1,x,h,hl,hn=>by
  simp only[dep,if_neg hl.1];rw[jI.dep_is hl.2 (by omega)]
theorem jI.root{g:Int->Int}:∀{n:Nat} {x h:Int},jI g n x h->g h=h
 |0,x,h,hl=>by rw[hl.2];exact hl.1
 |n+1,x,h,hl=>jI.root hl.2
theorem jI.upd{g:Int->Int}(r0:g h0=h0)(r1:g h1=h1)(hne:h0≠h1):∀{n:Nat} {x h:Int},jI g n x h->∃m,m<=n+1/\jI (fun y=>if y=h0 then h1 else g y) m x (if h=h0 then h1 else h)
 |0,x,h,hl=>by
  obtain⟨hx,rfl⟩:=hl;by_cases e:h=h0
  ·subst e;refine⟨1,by omega,?_⟩;simp only[if_true];refine⟨by simp only[if_true];exact Ne.symm hne,?_⟩;simp only[if_true];exact⟨by simp only[if_neg (Ne.symm hne)];exact r1,rfl⟩
  ·refine⟨0,by omega,?_⟩;simp only[if_neg e];exact⟨by simp only[if_neg e];exact hx,rfl⟩
 |n+1,x,h,hl=>by
  obtain⟨hx,hl⟩:=hl;have e:x≠h0:=fun e=>hx (by rw[e,r0]);obtain⟨m,hm,h2⟩:=jI.upd r0 r1 hne hl;refine⟨m+1,by omega,?_,?_⟩
  ·simp only[if_neg e];exact hx
  ·simp only[if_neg e];exact h2
theorem yK(bm m:Nat)(D:DataW Unit)(g:Int->Int)(n:Nat)(x h:Int)(w:World)(hO:w.ownsMap Tryz.prog 3 (plainElem Tryz.prog 3) bm m D)(hG:GM D g)(hx:(Lit.int .i64 x).wf=true)(hL:jI g n x h):
  Calls Tryz.prog 98 #[.map (some bm), .int .i64 x] w fun e w'=>e= .returned (.int .i64 h)/\w'=w:=by
 have hG':Hid (GM D g):=hG;clear hG;go_enter Tryz.func98,Tryz.ntmps98;go_wp2;go_loopw [1] (fun i wr=>∃(y:Int) (k:Nat),k<=n/\i= .int .i64 y/\(Lit.int .i64 y).wf=true/\jI g k y h/\wr=w) (fun i _=>dep g n (intOf i))
 case atStart=>exact⟨x,n,zE,rfl,hx,hL,rfl⟩
 case round=>
  obtain⟨y,k,hk,rfl,hy,hLy,rfl⟩:=hrel
  have hkey:keyOf Tryz.prog 3 (.int .i64 y)=some (.int .i64 y):=keyOf_int_mk under_int hy
  have hat:=hG'.out.at_ y
  have hLy':Hid (jI g k y h):=hLy
  rcases k with _|k
  ·obtain⟨hr,rfl⟩:=hLy;have hne:(g h !=h)=false:=by simp[hr]
   go_wp2_with (first
    |(at_lookup;refine wpList_lookup_own_int _ rfl _ _ 165 rfl 3 3 .i64 key_law fL under_int (zero_int _) bm _ _ rfl hO _ _ rfl hkey ?_;intro cc hat2 hwc;obtain rfl:cc=g h:=(by rw[hat]at hat2;cases hat2;rfl))
    |go_in)
   go_ret;exact⟨rfl,rfl⟩
  ·obtain⟨hr,hl2⟩:=hLy;have hne:(g y !=y)=true:=by simpa using hr
   have hwg:(Lit.int .i64 (g y)).wf=true:=by
    obtain⟨c,_,h2,h3⟩:=hO.lookup_int key_law fL under_int (zero_int _) hkey;rw[hat]at h2
    cases h2;exact h3
   go_wp2_with (first
    |(at_lookup;refine wpList_lookup_own_int _ rfl _ _ 165 rfl 3 3 .i64 key_law fL under_int (zero_int _) bm _ _ rfl hO _ _ rfl hkey ?_;intro cc hat2 hwc;obtain rfl:cc=g y:=(by rw[hat]at hat2;cases hat2;rfl);clear hat2 hwc)
    |go_in)
   go_roundw
   case rel=>exact⟨g y,k,by omega,rfl,hwg,hl2,by first|rfl|trivial⟩
   case measure=>
    simp only[intOf]
    rw[hl2.dep_is (by omega),hLy'.out.dep_is hk]
    omega
def bH(ls:List (Int×Int)):Int->Int:=ls.foldl (fun hd l x=>if hd x=hd l.1 then hd l.2 else hd x) id
theorem kZ(ls:List (Int×Int))(l:Int×Int)(x:Int):bH (ls++[l]) x=if bH ls x=bH ls l.1 then bH ls l.2 else bH ls x:=by
 unfold bH;rw[List.foldl_append];rfl
theorem yL(h:k<ls.length):(at0 ls k,bY ls k)=ls[k]:=by simp[at0,bY,List.getD_eq_getElem?_getD,h]
theorem NP(h:k<ls.length)(x:Int):bH (ls.take (k+1)) x=if bH (ls.take k) x=bH (ls.take k) (at0 ls k)then bH (ls.take k) (bY ls k)else bH (ls.take k) x:=by
 rw[List.take_add_one,List.getElem?_eq_getElem h,<-yL h,Option.toList_some,kZ]
structure Grp(ids:List Int)(hd:Int->Int)(g:Int->Int):Prop where
 lead:∀i∈ids,∃n,jI g n i (hd i)
 mem:∀i∈ids,hd i∈ids
theorem Grp.link{hd g:Int->Int}(h:Grp ids hd g){a b:Int}(ha:a∈ids)(hb:b∈ids):Grp ids (fun x=>if hd x=hd a then hd b else hd x) (fun y=>if y=hd a then hd b else g y) where
 lead:=fun i hi=>by
  obtain⟨n,hn⟩:=h.lead i hi;obtain⟨na,hna⟩:=h.lead a ha;obtain⟨nb,hnb⟩:=h.lead b hb;by_cases e:hd a=hd b
  ·have e1:(fun y=>if y=hd a then hd b else g y)=g:=by
    funext y;by_cases e2:y=hd a
    ·rw[if_pos e2,e2,<-e,hna.root]
    ·rw[if_neg e2]
   refine⟨n,?_⟩;rw[e1];by_cases e2:hd i=hd a
   ·rw[if_pos e2,<-e,<-e2];exact hn
   ·rw[if_neg e2];exact hn
  ·obtain⟨m, -,h2⟩:=hn.upd hna.root hnb.root e;exact⟨m,h2⟩
 mem:=fun i hi=>by
  by_cases e:hd i=hd a
  ·simp only[if_pos e];exact h.mem b hb
  ·simp only[if_neg e];exact h.mem i hi
def bF(vs:List Vn):List Int:=vs.map (·.id)
theorem dW(h:i<vs.length):vnAt vs i=vs[i]:=by simp[vnAt,List.getD_eq_getElem?_getD,h]
theorem wV(h:i<vs.length):(vnAt vs i).id∈bF vs:=by
 rw[dW h];exact List.mem_map_of_mem (List.getElem_mem h)
theorem rX(h:x∈bF vs):∃i,i<vs.length/\(vnAt vs i).id=x:=by
 obtain⟨v,hv,rfl⟩:=List.mem_map.1 h;obtain⟨i,hi,rfl⟩:=List.getElem_of_mem hv;exact⟨i,hi,by rw[dW hi]⟩
theorem jJ{k:TypeId}{R:Value->Option (DataW Unit×List MemPlace)}{D:DataW Unit}(h:w.ownsMap P k R b n D)(hb:Below w.heap.size w w'):w'.ownsMap P k R b n D:=by
 obtain⟨es,clock,h0,h1⟩:=h;exact⟨es,clock,aA hb h0,h1⟩
abbrev jR(x:Option Addr)(n c:Nat)(lx:Option Addr)(ln lc:Nat):Obj:= .cells #[.slice x n c, .slice lx ln lc] 28
theorem D7(x:Option Addr)(n c:Nat)(vs:List Vn)(lx:Option Addr)(ln lc:Nat)(ls:List (Int×Int))(w:World)(hp:VS w x n vs)(hn:n<=64)(hl:PS w lx ln ls)(hln:ln<=64)
 (hid:∀i,i<n->0<=(vnAt vs i).id/\(vnAt vs i).id<=1000000)(hlk:∀j,j<ln->at0 ls j∈bF vs/\bY ls j∈bF vs):
  Calls Tryz.prog 97 #[.agg #[.slice x n c, .slice lx ln lc]] w fun e w'=>∃bm m D g,e= .returned (.map (some bm))/\w.heap.size<=bm/\w'.ownsMap Tryz.prog 3 (plainElem Tryz.prog 3) bm m D/\GM D g/\Grp (bF vs) (bH ls) g/\Below w.heap.size w w':=by
 have hmm:= @run_makeMap Tryz.prog;have hvl:Hid (vs.length=n):=hp.len;have hll:Hid (ls.length=ln):=hl.len;go_enter Tryz.func97,Tryz.ntmps97;go_upto_region 1 with fail
 obtain⟨w2,hw2⟩:∃w2,w2=w.alloc (jR x n c lx ln lc):=⟨_,rfl⟩;rw[<-hw2];have h02:Below w.heap.size w w2:=by rw[hw2];exact bl1 w _
 have hbox:w2.heap[w.heap.size]?=some (jR x n c lx ln lc):=by rw[hw2];exact aB _ rfl
 clear hw2;have hp2:=hp.later h02;have hl2:=hl.later h02;obtain⟨hcl, -⟩:=aD hbox;have q0:w2.cell? ⟨w.heap.size,0,none⟩=some (.slice x n c):=hcl 0;have q1:w2.cell? ⟨w.heap.size,1,none⟩=some (.slice lx ln lc):=hcl 1;clear hcl hbox;have hsz:Hid (w.heap.size<=w2.heap.size):=h02.size;have a0:(w2.alloc (.map #[] 0)).cell? ⟨w.heap.size,0,none⟩=some (.slice x n c):=cell_later (bl1 w2 _) q0;generalize hbk:w.heap.size=bk at*;go_wp2;go_loopw [12] (fun i wr=>∃(k:Nat) (D:DataW Unit) (g:Int->Int),k<=n/\i= .int .i64 k/\Below w2.heap.size w2 wr/\wr.ownsMap Tryz.prog 3 (plainElem Tryz.prog 3) w2.heap.size k D/\GM D g/\(∀j,j<k->g (vnAt vs j).id=(vnAt vs j).id)) (fun i _=>n- (intOf i).toNat)
 case atStart=>exact⟨0, .map [],_,by omega,rfl,bl1 w2 _,World.ownsMap_made w2 _ _ _,GM.empty,fun j hj=>by omega⟩
 case round=>
  obtain⟨k,D,g,hk,rfl,hB,hO,hG,hgo⟩:=hrel
  by_cases hlt:k<n
  ·have hlt':Hid (k<n):=hlt;obtain⟨b,o,rfl,c0,c1,c2⟩:=(hp2.later hB).cells k hlt;have hkey:keyOf Tryz.prog 3 (.int .i64 (vnAt vs k).id)=some (.int .i64 (vnAt vs k).id):=keyOf_int_mk under_int (fJ (hid k hlt).1 (hid k hlt).2);have hwf:(Lit.int .i64 (vnAt vs k).id).wf=true:=fJ (hid k hlt).1 (hid k hlt).2;have hO2:=hO.alloc (.cells #[.int .i64 (vnAt vs k).id, .slice (vnAt vs k).rx (vnAt vs k).rn (vnAt vs k).rc, .slice (vnAt vs k).sx (vnAt vs k).sn (vnAt vs k).sc] 51);have hmx:k<maxLen:=by unfold maxLen;omega
   have hP:=hG.put (vnAt vs k).id (vnAt vs k).id;have hgo':Hid (∀j,j<k->g (vnAt vs j).id=(vnAt vs j).id):=hgo;clear hgo;have hBa:=hB.trans ((bl1 wr (.cells #[.int .i64 (vnAt vs k).id, .slice (vnAt vs k).rx (vnAt vs k).rn (vnAt vs k).rc, .slice (vnAt vs k).sx (vnAt vs k).sn (vnAt vs k).sc] 51)).mono hB.size);go_wp2_with (first
    |(at_mapUpdate;refine wpList_mapUpdate_own _ rfl _ _ _ 165 rfl 3 3 key_law fL _ w2.heap.size _ _ rfl hO2 hmx _ _ _ rfl rfl hkey _ [] (plainElem_int under_int hwf) ?_;intro w1 hown1 hgrow1)
    |go_in)
   go_roundw
   case rel=>exact⟨k+1,_,_,hlt'.out,by go_num,hBa.grown hgrow1 hBa.size (fun j hj=>by cases hj;omega),hown1,hP,fun j hj=>by
    by_cases e:(vnAt vs j).id=(vnAt vs k).id
    ·simp only[if_pos e];exact e.symm
    ·simp only[if_neg e];by_cases hj2:j<k
     ·exact hgo'.out j hj2
     ·obtain rfl:j=k:=by omega
      exact absurd rfl e⟩
   case measure=>simp[intOf];have:=hlt'.out;omega
  ·obtain rfl:k=n:=by omega
   have r1:=cell_later hB q1;have hGr0:Grp (bF vs) (bH (ls.take 0)) g:=⟨fun i hi=>by
    obtain⟨j,hj,rfl⟩:=rX hi;exact⟨0,hgo j (by rw[<-hvl.out];exact hj),rfl⟩,fun i hi=>hi⟩
   clear hgo;go_wp2;obtain⟨wo,rfl⟩:∃wo,wo=wr:=⟨_,rfl⟩;go_loopw [25] (fun i wr=>∃(q:Nat) (D:DataW Unit) (g:Int->Int),q<=ln/\i= .int .i64 q/\Below w2.heap.size w2 wr/\wr.ownsMap Tryz.prog 3 (plainElem Tryz.prog 3) w2.heap.size (k+q) D/\GM D g/\Grp (bF vs) (bH (ls.take q)) g) (fun i _=>ln- (intOf i).toNat)
   case atStart=>exact⟨0,D,g,by omega,rfl,hB,hO,hG,hGr0⟩
   case round=>
    clear hO hG hGr0 hB
    obtain⟨q,D,g,hq,rfl,hB,hO,hG,hGr⟩:=hrel
    by_cases hq2:q<ln
    ·have hq':Hid (q<ln):=hq2;obtain⟨b2,o2,rfl,d0,d1⟩:=(hl2.later hB).cells q hq2;obtain⟨ha,hb⟩:=hlk q hq2;have hst:Hid (∀y,bH (ls.take (q+1)) y=if bH (ls.take q) y=bH (ls.take q) (at0 ls q)then bH (ls.take q) (bY ls q)else bH (ls.take q) y):=fun y=>NP (by rw[hll.out];exact hq2) y;have hwid:∀y,y∈bF vs->(Lit.int .i64 y).wf=true:=fun y hy=>by
      obtain⟨j,hj,rfl⟩:=rX hy;have:=hid j (by rw[<-hvl.out];exact hj);exact fJ this.1 this.2
     have hwa:=hwid _ ha;have hwb:=hwid _ hb;have hwA:=hwid _ (hGr.mem _ ha);have hwB:=hwid _ (hGr.mem _ hb);obtain⟨na,hLa⟩:=hGr.lead _ ha;obtain⟨nb,hLb⟩:=hGr.lead _ hb;have hGr2:=hGr.link ha hb;have hP:=hG.put (bH (ls.take q) (at0 ls q)) (bH (ls.take q) (bY ls q));generalize at0 ls q=la at*;generalize bY ls q=lb at*;generalize bH (ls.take q)=hd at*;have hkey:keyOf Tryz.prog 3 (.int .i64 (hd la))=some (.int .i64 (hd la)):=keyOf_int_mk under_int hwA;have hmx:k+q<maxLen:=by unfold maxLen;omega
     go_upto_region 10 with fail
     obtain⟨w3,hw3⟩:∃w3,w3=wr.alloc (.cells #[.int .i64 la, .int .i64 lb] 77):=⟨_,rfl⟩;rw[<-hw3];have h23:Below wr.heap.size wr w3:=by rw[hw3];exact bl1 wr _
     have hbox:w3.heap[wr.heap.size]?=some (.cells #[.int .i64 la, .int .i64 lb] 77):=by rw[hw3];exact aB _ rfl
     clear hw3 d0 d1;obtain⟨hcl, -⟩:=aD hbox;have t0:=Ws.here (v:= .int .i64 la) (hcl 0);have t1:=Ws.here (v:= .int .i64 lb) (hcl 1);clear hcl hbox;have hO3:=jJ hO h23;have hB3:=hB.trans (h23.mono hB.size);have hcA:∀W,Below w3.heap.size w3 W->Calls Tryz.prog 98 #[.map (some w2.heap.size), .int .i64 la] W fun e w'=>e= .returned (.int .i64 (hd la))/\w'=W:=fun W hW=>yK _ _ D g na la _ _ (jJ hO3 hW) hG hwa hLa;have hcB:∀W,Below w3.heap.size w3 W->Calls Tryz.prog 98 #[.map (some w2.heap.size), .int .i64 lb] W fun e w'=>e= .returned (.int .i64 (hd lb))/\w'=W:=fun W hW=>yK _ _ D g nb lb _ _ (jJ hO3 hW) hG hwb hLb;refine jG w3.heap.size 9 (by kernel_rfl) (by kernel_rfl) ?_;simp only[List.take_succ_cons,List.take_zero,List.drop_succ_cons,List.drop_zero];repeat(go_big_quiet_step (first|(go_at_call_of 98 la;exact Calls.in_ws_same (hcA _ (Ws.property _)))|(go_at_call_of 98 lb;exact Calls.in_ws_same (hcB _ (Ws.property _)))))
     refine wpQuiet_nil ?_;intro uu;have hB8:=uu.property;generalize uu.val=w8 at hB8⊢;clear uu t0 t1;have hO8:=jJ hO3 hB8;have hB8':=hB3.trans (hB8.mono hB3.size);go_wp2_with (first
      |(at_mapUpdate;refine wpList_mapUpdate_own _ rfl _ _ _ 165 rfl 3 3 key_law fL _ w2.heap.size _ _ rfl hO8 hmx _ _ _ rfl rfl hkey _ [] (plainElem_int under_int hwB) ?_;intro w1 hown1 hgrow1)
      |go_in)
     go_roundw
     case rel=>exact⟨q+1,_,_,hq'.out,by go_num,hB8'.grown hgrow1 hB8'.size (fun j hj=>by cases hj;omega),hown1,hP,by
      have e:bH (ls.take (q+1))=fun y=>if hd y=hd la then hd lb else hd y:=funext hst.out;rw[e];exact hGr2⟩
     case measure=>simp[intOf];have:=hq'.out;omega
    ·obtain rfl:q=ln:=by omega
     have e:ls.take q=ls:=by rw[<-hll.out,List.take_length]
     rw[e]at hGr;go_wp2;go_ret;exact⟨_,_,D,g,rfl,by rw[hbk];exact hsz.out,hO,hG,hGr,by rw[hbk];exact h02.trans (hB.mono hsz.out)⟩
def yM(hd:Int->Int)(vs:List Vn)(i j:Nat):Bool:=(hd (vnAt vs i).id==hd (vnAt vs j).id)&&kY (vnAt vs i).rn (vnAt vs i).rs (vnAt vs j).rn (vnAt vs j).rs
def JS(hd:Int->Int)(vs:List Vn)(i:Nat):Bool:=(List.range i).all fun j=>!yM hd vs i j
def tS(ls:List (Int×Int))(n:Nat)(vs:List Vn):Bool:=(List.range n).all (JS (bH ls) vs)
abbrev D8(p:Vn):Obj:= .cells #[.int .i64 p.id, .slice p.rx p.rn p.rc, .slice p.sx p.sn p.sc] 51
theorem JT(x:Option Addr)(n c:Nat)(vs:List Vn)(lx:Option Addr)(ln lc:Nat)(ls:List (Int×Int))(w:World)(hp:VS w x n vs)(hn:n<=64)(hnc:n<=c)(hl:PS w lx ln ls)(hln:ln<=64)
 (hid:∀i,i<n->0<=(vnAt vs i).id/\(vnAt vs i).id<=1000000)(hrn:∀i,i<n->(vnAt vs i).rn<=64)(hlk:∀j,j<ln->at0 ls j∈bF vs/\bY ls j∈bF vs):
  Calls Tryz.prog 53 #[.agg #[.slice x n c, .slice lx ln lc]] w fun e w'=>e= .returned (.bool (tS ls n vs))/\Below w.heap.size w w':=by
 have hvl:Hid (vs.length=n):=hp.len;have hbd:Hid (tS ls n vs=(List.range n).all (JS (bH ls) vs)):=rfl;go_enter Tryz.func53,Tryz.ntmps53;go_upto_region 1 with fail
 obtain⟨w2,hw2⟩:∃w2,w2=w.alloc (jR x n c lx ln lc):=⟨_,rfl⟩;rw[<-hw2];have h02:Below w.heap.size w w2:=by rw[hw2];exact bl1 w _
 have hbox:w2.heap[w.heap.size]?=some (jR x n c lx ln lc):=by rw[hw2];exact aB _ rfl
 clear hw2;obtain⟨hcl, -⟩:=aD hbox;have q0:w2.cell? ⟨w.heap.size,0,none⟩=some (.slice x n c):=hcl 0;have q1:w2.cell? ⟨w.heap.size,1,none⟩=some (.slice lx ln lc):=hcl 1;clear hcl hbox;have hsz:Hid (w.heap.size<=w2.heap.size):=h02.size;have hp2:=hp.later h02;have hl2:=hl.later h02;generalize hbk:w.heap.size=bk at*;go_wp2_with fail;refine(D7 x n c vs lx ln lc ls _ hp2 hn hl2 hln hid hlk).mono ?_;rintro e w3 ⟨bm,m,D,g,rfl,hbm,hO,hG,hGr,hb3⟩;have h03:Below bk w w3:=h02.trans (hb3.mono hsz.out);have hsz3:Hid (bk<=w3.heap.size):=Nat.le_trans hsz.out hb3.size;have hp3:=hp2.later hb3;have r0:=cell_later hb3 q0;clear q0 q1 hb3 h02;have hwid:∀i,i<n->(Lit.int .i64 (vnAt vs i).id).wf=true:=fun i hi=>fJ (hid i hi).1 (hid i hi).2;have hHd:∀W,Below w3.heap.size w3 W->∀i,i<n->Calls Tryz.prog 98 #[.map (some bm), .int .i64 (vnAt vs i).id] W fun e w'=>e= .returned (.int .i64 (bH ls (vnAt vs i).id))/\w'=W:=fun W hW i hi=>by
  obtain⟨q,hq⟩:=hGr.lead _ (wV (by rw[hvl.out];exact hi));exact yK _ _ D g q _ _ _ (jJ hO hW) hG (hwid i hi) hq
 generalize hhd:bH ls=hd at*;clear hG hGr hO;go_wp2;go_loopw [13] (fun i wr=>∃k:Nat,k<=n/\i= .int .i64 k/\Below w3.heap.size w3 wr/\(∀j,j<k->JS hd vs j=true)) (fun i _=>n- (intOf i).toNat)
 case atStart=>exact⟨0,by omega,rfl,zD,fun j hj=>by omega⟩
 case round=>
  obtain⟨k,hk,rfl,hB,hok⟩:=hrel
  have s0:=cell_later hB r0
  by_cases hlt:k<n
  ·have hlt':Hid (k<n):=hlt;have hpr:=hp3.later hB;have hpk:=hpr.cells k hlt;have hvk:=(hpr.vps k hlt).2.2.2.ranges;have hrk:=hrn k hlt;have hHk:∀W,Below w3.heap.size w3 W->Calls Tryz.prog 98 #[.map (some bm), .int .i64 (vnAt vs k).id] W fun e w'=>e= .returned (.int .i64 (hd (vnAt vs k).id))/\w'=W:=fun W hW=>hHd W hW k hlt;have hcd:Hid (∀j,yM hd vs k j=((hd (vnAt vs k).id==hd (vnAt vs j).id)&&kY (vnAt vs k).rn (vnAt vs k).rs (vnAt vs j).rn (vnAt vs j).rs)):=fun j=>rfl;obtain⟨b,o,rfl,c0,c1,c2⟩:=hpk;go_upto_region 5 with fail
   obtain⟨w4,hw4⟩:∃w4,w4=wr.alloc (D8 (vnAt vs k)):=⟨_,rfl⟩;rw[<-hw4];have h34:Below wr.heap.size wr w4:=by rw[hw4];exact bl1 wr _
   have hbox:w4.heap[wr.heap.size]?=some (D8 (vnAt vs k)):=by rw[hw4];exact aB _ rfl
   clear hw4 c0 c1 c2;have s4:=cell_later h34 s0;clear s0;have hp4:=hpr.later h34;have hv4:=hvk.later h34;have hB4:=hB.trans (h34.mono hB.size);obtain⟨hcl, -⟩:=aD hbox;have t0:w4.cell? ⟨wr.heap.size,0,none⟩=some (.int .i64 (vnAt vs k).id):=hcl 0;have t1:w4.cell? ⟨wr.heap.size,1,none⟩=some (.slice (vnAt vs k).rx (vnAt vs k).rn (vnAt vs k).rc):=hcl 1;have t2:w4.cell? ⟨wr.heap.size,2,none⟩=some (.slice (vnAt vs k).sx (vnAt vs k).sn (vnAt vs k).sc):=hcl 2;clear hcl hbox hpr hvk;generalize wr.heap.size=bv at*;clear hB h34;clear wr;have hkc:(k:Int)<=c:=by omega
   go_wp2;go_loopw [23] (fun i wr=>∃q:Nat,q<=k/\i= .int .i64 q/\Below w4.heap.size w4 wr/\(∀j,j<q->yM hd vs k j=false)) (fun i _=>k- (intOf i).toNat)
   case atStart=>exact⟨0,by omega,rfl,zD,fun j hj=>by omega⟩
   case round=>
    obtain⟨q,hq,rfl,hB,hno⟩:=hrel
    by_cases hq2:q<k
    ·have hq':Hid (q<k):=hq2;have hpr:=hp4.later hB;obtain⟨b2,o2,hbo,d0,d1,d2⟩:=hpr.cells q (by omega);simp only[Option.some.injEq,Addr.mk.injEq,and_true]at hbo;obtain⟨rfl,rfl⟩:=hbo;have hvq:=(hpr.vps q (by omega)).2.2.2.ranges;have hrq:=hrn q (by omega);have hHq:∀W,Below w3.heap.size w3 W->Calls Tryz.prog 98 #[.map (some bm), .int .i64 (vnAt vs q).id] W fun e w'=>e= .returned (.int .i64 (hd (vnAt vs q).id))/\w'=W:=fun W hW=>hHd W hW q (by omega);have hcq:Hid (yM hd vs k q=((hd (vnAt vs k).id==hd (vnAt vs q).id)&&kY (vnAt vs k).rn (vnAt vs k).rs (vnAt vs q).rn (vnAt vs q).rs)):=hcd.out q;have u0:=cell_later hB t0;have u1:=cell_later hB t1;have u2:=cell_later hB t2;have hv5:=hv4.later hB;go_upto_region 8 with fail
     obtain⟨w5,hw5⟩:∃w5,w5=wr.alloc (D8 (vnAt vs q)):=⟨_,rfl⟩;rw[<-hw5];have h45:Below wr.heap.size wr w5:=by rw[hw5];exact bl1 wr _
     have hbox:w5.heap[wr.heap.size]?=some (D8 (vnAt vs q)):=by rw[hw5];exact aB _ rfl
     clear hw5 d0 d1 d2;obtain⟨hcl, -⟩:=aD hbox;have k0:=Ws.here (v:= .int .i64 (vnAt vs q).id) (hcl 0);have k1:=Ws.here (v:= .slice (vnAt vs q).rx (vnAt vs q).rn (vnAt vs q).rc) (hcl 1);have k2:=Ws.here (v:= .slice (vnAt vs q).sx (vnAt vs q).sn (vnAt vs q).sc) (hcl 2);have g0:=Ws.here (cell_later h45 u0);have g1:=Ws.here (cell_later h45 u1);have g2:=Ws.here (cell_later h45 u2);clear hcl hbox u0 u1 u2;have hvq6:=hvq.later h45;have hv6:=hv5.later h45;have hB5:=hB.trans (h45.mono hB.size);have hB35:=hB4.trans (hB5.mono hB4.size);clear hpr hvq hv5;generalize hik:hd (vnAt vs k).id=ik at hHk hcq;generalize hiq:hd (vnAt vs q).id=iq at hHq hcq;have hHk':∀W,Below w5.heap.size w5 W->Calls Tryz.prog 98 #[.map (some bm), .int .i64 (vnAt vs k).id] W fun e w'=>e= .returned (.int .i64 ik)/\w'=W:=fun W hW=>hHk W (hB35.trans (hW.mono hB35.size));have hHq':∀W,Below w5.heap.size w5 W->Calls Tryz.prog 98 #[.map (some bm), .int .i64 (vnAt vs q).id] W fun e w'=>e= .returned (.int .i64 iq)/\w'=W:=fun W hW=>hHq W (hB35.trans (hW.mono hB35.size))
     cases hde:(ik==iq)
     ·refine aE w5.heap.size (by kernel_rfl) (by kernel_rfl) ?_;repeat(go_big_quiet_step (first|(go_at_call_of 98 ((vnAt vs k).id);exact Calls.in_ws_same (hHk' _ (Ws.property _)))|(go_at_call_of 98 ((vnAt vs q).id);exact Calls.in_ws_same (hHq' _ (Ws.property _)))))
      refine wpQuiet_nil ?_;rintro _ ⟨u,rfl⟩;have hu:=hB5.trans (u.property.mono hB5.size);generalize u.val=wu at hu⊢;clear u k0 k1 k2 g0 g1 g2;go_wp2;go_roundw
      case rel=>exact⟨q+1,hq'.out,by go_num,hu,fun j hj=>by
       by_cases hj2:j<q
       ·exact hno j hj2
       ·obtain rfl:j=q:=by omega
        rw[hcq.out,hde];rfl⟩
      case measure=>simp[intOf];have:=hq'.out;omega
     ·cases hme:kY (vnAt vs k).rn (vnAt vs k).rs (vnAt vs q).rn (vnAt vs q).rs;all_goals refine aE w5.heap.size (by kernel_rfl) (by kernel_rfl) ?_
      all_goals repeat(go_big_quiet_step (first|(go_at_call_of 98 ((vnAt vs k).id);exact Calls.in_ws_same (hHk' _ (Ws.property _)))|(go_at_call_of 98 ((vnAt vs q).id);exact Calls.in_ws_same (hHq' _ (Ws.property _)))|(go_at_call 99;exact Calls.in_ws (zE) (RX (vnAt vs k) (vnAt vs q) _ hme _ (hv6.later (Ws.property _)) (hvq6.later (Ws.property _)) hrk hrq))))
      all_goals refine wpQuiet_nil ?_
      all_goals rintro _ ⟨u,rfl⟩
      all_goals have hu:=hB5.trans (u.property.mono hB5.size)
      all_goals generalize u.val=wu at hu⊢
      all_goals clear u k0 k1 k2 g0 g1 g2
      ·go_wp2;go_roundw
       case rel=>exact⟨q+1,hq'.out,by go_num,hu,fun j hj=>by
        by_cases hj2:j<q
        ·exact hno j hj2
        ·obtain rfl:j=q:=by omega
         rw[hcq.out,hde,hme];rfl⟩
       case measure=>simp[intOf];have:=hq'.out;omega
      ·have hfin:=hB4.trans (hu.mono hB4.size);go_wp2;go_ret;exact⟨aI (by rw[hbd.out,dJ hlt'.out (dJ hq'.out (by rw[hcq.out,hde,hme];rfl))]),by rw[hbk];exact h03.trans (hfin.mono hsz3.out)⟩
    ·obtain rfl:q=k:=by omega
     have hfin:=hB4.trans (hB.mono hB4.size);go_wp2;go_roundw
     case rel=>exact⟨q+1,hlt'.out,by go_num,hfin,fun j hj=>by
      by_cases hj2:j<q
      ·exact hok j hj2
      ·obtain rfl:j=q:=by omega
       exact fI fun i hi=>by rw[hno i hi];rfl⟩
     case measure=>simp[intOf];have:=hlt'.out;omega
  ·obtain rfl:k=n:=by omega
   go_wp2;go_ret;exact⟨aI (by rw[hbd.out,fI hok]),by rw[hbk];exact h03.trans (hB.mono hsz3.out)⟩
theorem napart_is(x:Option Addr)(n c:Nat)(vs:List Vn)(lx:Option Addr)(ln lc:Nat)(ls:List (Int×Int))(t:Bool)(h:tS ls n vs=t)(w:World)(hp:VS w x n vs)(hn:n<=64)(hnc:n<=c)(hl:PS w lx ln ls)(hln:ln<=64)
 (hid:∀i,i<n->0<=(vnAt vs i).id/\(vnAt vs i).id<=1000000)(hrn:∀i,i<n->(vnAt vs i).rn<=64)(hlk:∀j,j<ln->at0 ls j∈bF vs/\bY ls j∈bF vs):
  Calls Tryz.prog 53 #[.agg #[.slice x n c, .slice lx ln lc]] w fun e w'=>e= .returned (.bool t)/\Below w.heap.size w w':=by
 subst h;exact JT x n c vs lx ln lc ls w hp hn hnc hl hln hid hrn hlk
def flatI(es:List Int):List Value:=es.map (Value.int .i64)
theorem oQ(es:List Int):(flatI es).length=es.length:=by simp[flatI]
theorem NQ(es fs:List Int):flatI (es++fs)=flatI es++flatI fs:=by simp[flatI]
theorem tT(es:List Int):∀u∈flatI es,u.oneCell'=true:=fun u hu=>by
 obtain⟨e, -,rfl⟩:=List.mem_map.1 hu;rfl
theorem yN(h:i<es.length):(flatI es)[i]?=some (.int .i64 (aU es i)):=by
 unfold flatI;rw[List.getElem?_map,List.getElem?_eq_getElem h,eL h];rfl
def dQ(w:World)(base:Nat)(v:Value)(es:List Int):Prop:=w.ownsRow base 3 1 v es.length (flatI es)
theorem dQ.later(h:dQ w base v es)(hb:Below w.heap.size w w'):dQ w' base v es:=cW h hb
theorem dQ.kept(h:dQ w base v es)(hg:w.grownBy w' (some g))(hne:∀k,v.ownBlock=some k->k≠g):dQ w' base v es:=fD h hg hne
theorem dQ.low(h:dQ w base v es)(hb:base'<=base):dQ w base' v es:=iE h hb
theorem dQ.lt(h:dQ w base v es):∀k,v.ownBlock=some k->base<=k/\k<w.heap.size:=World.ownsRow.lt h
theorem dQ.ne(h:dQ w base v es)(hb:w.heap[b]?=some (.cells cs t fr))(ht:t≠3):v.ownBlock≠some b:=jC h hb ht
theorem aCi:Ty 3 73 1 (.int .i64 0) 8:=qY (by kernel_rfl) (by kernel_rfl) rfl (tT [(0:Int)]) (by decide) (by decide)
theorem mV(hgd:o.guard=none)(s x:Operand)
 (ho:o.op= .call {callee:= .builtin .append,args:=#[s,x],argTypes:=#[73,73]})(base:Nat)(v:Value)(es:List Int)(hs:a.eval s=v)(hO:dQ w base v es)
 (ad:Addr)(m c:Nat)(fs:List Int)(hx:a.eval x= .slice (some ad) m c)(hm:fs.length=m)(hy:∀j u,(flatI fs)[j]?=some u->w.cell? (ad.add j)=some u)
 (hlen:es.length+m<=1000000000)(hbase:base<=w.heap.size)
 (h:∀v' w',dQ w' base v' (es++fs)->w.grownBy w' v.ownBlock->wpList Tryz.prog ops Q rest (a.put o.dst v') w'):wpList Tryz.prog ops Q (o::rest) a w:=by
 subst hm;refine cM aCi hgd s x ho base v hs hO ad fs.length c hx ⟨(fun es=>(oQ es).trans (Nat.mul_one _).symm) fs,fun _=>by simp,tT fs,fun ad1 h1=>by cases h1;exact hy⟩ hlen hbase fun v1 w1 h1 h2=>h v1 w1 ?_ h2;unfold dQ;rw[NQ,List.length_append];exact h1
theorem dQ.mem(h:dQ w base v es):∃x c,v= .slice x es.length c/\es.length<=c/\c<=9223372036854775807/\(x=none->es.length=0/\c=0)/\IS w x es.length es:=by
 rcases h.2 with ⟨rfl,h0⟩|⟨g,cap,cur,rfl, -, -,h4,h5, -⟩
 ·exact⟨none,0,by rw[h0],by omega,by omega,fun _=>⟨h0,rfl⟩,⟨rfl,fun i hi=>by omega⟩⟩
 ·refine⟨some ⟨g,0,none⟩,cap,rfl,h4,by unfold maxLen at h5;omega,fun e=>by simp at e,⟨rfl,fun i hi=>⟨g,0,rfl,?_⟩⟩⟩;have:=World.ownsRow.cells h (g:=g) rfl i _ (yN hi);rw[Addr.add_lit]at this;exact this
def bQ(n:Nat)(vs:List Vn)(ln:Nat)(ls:List (Int×Int)):Int:=if decide (6<n)||decide (12<ln)then 2 else if dV n vs&&cN n vs ln ls&&tS ls n vs then 0 else 1
theorem mE{id:Int}(hl:vs.length=n)(h:¬aM n vs id<0):id∈bF vs:=by
 unfold aM at h;split at h
 ·rename_i i he;have h1:=List.find?_some he;have h2:=List.mem_of_find?_eq_some he;simp only[List.mem_range,beq_iff_eq]at h1 h2;rw[<-h1];exact wV (by rw[hl];exact h2)
 ·omega
theorem NR{id:Int}(h:bN id rn rs sn ss=0):(1<=id/\id<=65536)/\rn<=4:=by
 unfold bN at h;split at h
 ·omega
 ·rename_i hm;split at h
  ·rename_i hw;simp only[zH,bV,decide_eq_true_eq]at hw;exact⟨⟨hw.1.1.1,hw.1.1.2⟩,(few (by simpa using hm)).1⟩
  ·omega
theorem rY(h:dV n vs=true):∀i,i<n->(0<=(vnAt vs i).id/\(vnAt vs i).id<=1000000)/\(vnAt vs i).rn<=64:=fun i hi=>by
 unfold dV at h;rw[zH]at h;have hb:gS (vnAt vs i)=false:=by
  cases e:gS (vnAt vs i)
  ·rfl
  ·rw[aW (f:=fun i=>gS (vnAt vs i)) hi e]at h;exact absurd h.2 (by simp)
 unfold gS at hb;simp only[Bool.not_eq_false',beq_iff_eq]at hb;have:=NR hb;omega
theorem tU(hl:vs.length=n)(h:cN n vs ln ls=true):∀j,j<ln->at0 ls j∈bF vs/\bY ls j∈bF vs:=fun j hj=>by
 unfold cN at h;rw[zH]at h;have hb:pB n vs ls j=false:=by
  cases e:pB n vs ls j
  ·rfl
  ·rw[aW hj e]at h;exact absurd h.2 (by simp)
 unfold pB at hb;simp only[Bool.or_eq_false_iff,decide_eq_false_iff_not]at hb;exact⟨mE hl hb.1.2,mE hl hb.2⟩
theorem yO(x:Option Addr)(n c:Nat)(vs:List Vn)(lx:Option Addr)(ln lc:Nat)(ls:List (Int×Int))(w:World)(hp:VS w x n vs)(hn:n<=9223372036854775807)(hnc:n<=c)(hl:PS w lx ln ls)(hln:ln<=9223372036854775807):
  Calls Tryz.prog 24 #[.agg #[.slice x n c, .slice lx ln lc]] w fun e w'=>e= .returned (.int .i64 (bQ n vs ln ls))/\Below w.heap.size w w':=by
 have hbd:Hid (bQ n vs ln ls=if decide (6<n)||decide (12<ln)then 2 else if dV n vs&&cN n vs ln ls&&tS ls n vs then 0 else 1):=rfl;have hvl:Hid (vs.length=n):=hp.len;go_enter Tryz.func24,Tryz.ntmps24;go_upto_region 1 with fail
 obtain⟨w2,hw2⟩:∃w2,w2=w.alloc (jR x n c lx ln lc):=⟨_,rfl⟩;rw[<-hw2];have h02:Below w.heap.size w w2:=by rw[hw2];exact bl1 w _
 have hbox:w2.heap[w.heap.size]?=some (jR x n c lx ln lc):=by rw[hw2];exact aB _ rfl
 clear hw2;obtain⟨hcl, -⟩:=aD hbox;have q0:w2.cell? ⟨w.heap.size,0,none⟩=some (.slice x n c):=hcl 0;have q1:w2.cell? ⟨w.heap.size,1,none⟩=some (.slice lx ln lc):=hcl 1;clear hcl hbox;have hp2:=hp.later h02;have hl2:=hl.later h02;have hsz:Hid (w.heap.size<=w2.heap.size):=h02.size;generalize hbk:w.heap.size=bk at*;by_cases h6:6<n
 ·have hd:(decide ((n:Int)>6))=true:=by simp;omega
  go_wp2;go_ret;exact⟨aP (by rw[hbd.out,decide_eq_true h6];rfl),by rw[hbk];exact h02⟩
 ·have hd:(decide ((n:Int)>6))=false:=by simp;omega
  have hd6:Hid (decide (6<n)=false):=by show _=_;simp;omega
  by_cases h12:12<ln
  ·have hd2:(decide ((ln:Int)>12))=true:=by simp;omega
   go_wp2;go_ret;exact⟨aP (by rw[hbd.out,decide_eq_true h12];simp),by rw[hbk];exact h02⟩
  ·have hd2:(decide ((ln:Int)>12))=false:=by simp;omega
   have hd12:Hid (decide (12<ln)=false):=by show _=_;simp;omega
   cases hv:dV n vs
   ·go_wp2_with (go_at_call 51;refine(vpcsRight_is _ _ _ _ _ hv _ hp2 (by omega)).mono ?_;rintro e w3 ⟨rfl,hb3⟩);go_ret;exact⟨aP (by rw[hbd.out,hd6.out,hd12.out,hv];rfl),by rw[hbk];exact h02.trans (hb3.mono hsz.out)⟩
   ·go_wp2_with fail;refine(vpcsRight_is _ _ _ _ _ hv _ hp2 (by omega)).mono ?_;rintro e w3 ⟨rfl,hb3⟩;have h03:Below bk w w3:=h02.trans (hb3.mono hsz.out);have hsz3:Hid (bk<=w3.heap.size):=Nat.le_trans hsz.out hb3.size;have r0:=cell_later hb3 q0;have r1:=cell_later hb3 q1;clear q0 q1;have hp3:=hp2.later hb3;have hl3:=hl2.later hb3;clear hb3
    cases hli:cN n vs ln ls
    ·go_wp2_with (go_at_call 52;refine(linksRight_is _ _ _ _ _ _ _ _ _ hli _ hp3 (by omega) hl3 (by omega)).mono ?_;rintro e w4 ⟨rfl,hb4⟩);go_ret;exact⟨aP (by rw[hbd.out,hd6.out,hd12.out,hv,hli];rfl),by rw[hbk];exact h03.trans (hb4.mono hsz3.out)⟩
    ·go_wp2_with fail;refine(linksRight_is _ _ _ _ _ _ _ _ _ hli _ hp3 (by omega) hl3 (by omega)).mono ?_;rintro e w4 ⟨rfl,hb4⟩;have h04:Below bk w w4:=h03.trans (hb4.mono hsz3.out);have hsz4:Hid (bk<=w4.heap.size):=Nat.le_trans hsz3.out hb4.size;have s0:=cell_later hb4 r0;have s1:=cell_later hb4 r1;clear r0 r1;have hp4:=hp3.later hb4;have hl4:=hl3.later hb4;clear hb4;have hfw:=rY hv;have hlm:=tU hvl.out hli
     cases ha:tS ls n vs;all_goals go_wp2_with (go_at_call 53;refine(napart_is _ _ _ _ _ _ _ _ _ ha _ hp4 (by omega) hnc hl4 (by omega) (fun i hi=>(hfw i hi).1) (fun i hi=>(hfw i hi).2) hlm).mono ?_;rintro e w5 ⟨rfl,hb5⟩)
     all_goals go_ret
     all_goals exact⟨aP (by rw[hbd.out,hd6.out,hd12.out,hv,hli,ha];rfl),by rw[hbk];exact h04.trans (hb5.mono hsz4.out)⟩
theorem iS(x:Option Addr)(n c:Nat)(vs:List Vn)(lx:Option Addr)(ln lc:Nat)(ls:List (Int×Int))(t:Int)(h:bQ n vs ln ls=t)(w:World)(hp:VS w x n vs)(hn:n<=9223372036854775807)(hnc:n<=c)(hl:PS w lx ln ls)(hln:ln<=9223372036854775807):
  Calls Tryz.prog 24 #[.agg #[.slice x n c, .slice lx ln lc]] w fun e w'=>e= .returned (.int .i64 t)/\Below w.heap.size w w':=by
 subst h;exact yO x n c vs lx ln lc ls w hp hn hnc hl hln
def lA(ls:List (Int×Int))(vs:List Vn)(id:Int):List Int:=(bF vs).filter fun y=>bH ls y==bH ls id
theorem RY(h:k<vs.length):bF (vs.take (k+1))=bF (vs.take k)++[(vnAt vs k).id]:=by
 unfold bF;rw[List.take_add_one,List.getElem?_eq_getElem h,dW h,Option.toList_some,List.map_append];rfl
abbrev vpO(vid:Int)(rx:Option Addr)(rn rc:Nat)(sx:Option Addr)(sn sc:Nat):Obj:= .cells #[.int .i64 vid, .slice rx rn rc, .slice sx sn sc] 51
theorem CM(hk:k<sn)(h:dE (aG ss k)=true):bU rn sn ss=true:=by
 unfold bU;rw[aW (f:=fun i=>dE (aG ss i)) hk h];simp
theorem GV(vid:Int)(rx:Option Addr)(rn rc:Nat)(sx:Option Addr)(sn sc:Nat)(ss:List Sb)(w:World)(hr63:rn<=9223372036854775807)(hp:SS w sx sn ss)(hs:sn<=9223372036854775807):
  Calls Tryz.prog 66 #[.agg #[.int .i64 vid, .slice rx rn rc, .slice sx sn sc]] w fun e w'=>e= .returned (.bool (bU rn sn ss))/\Below w.heap.size w w':=by
 have hbd:Hid (bU rn sn ss=(decide (4<rn)||decide (6<sn)||anyAt sn fun i=>dE (aG ss i))):=rfl;go_enter Tryz.func66,Tryz.ntmps66;go_upto_region 1 with fail
 obtain⟨w2,hw2⟩:∃w2,w2=w.alloc (vpO vid rx rn rc sx sn sc):=⟨_,rfl⟩;rw[<-hw2];have h02:Below w.heap.size w w2:=by rw[hw2];exact bl1 w _
 have hbox:w2.heap[w.heap.size]?=some (vpO vid rx rn rc sx sn sc):=by rw[hw2];exact aB _ rfl
 clear hw2;obtain⟨hcl, -⟩:=aD hbox;have q1:w2.cell? ⟨w.heap.size,1,none⟩=some (.slice rx rn rc):=hcl 1;have q2:w2.cell? ⟨w.heap.size,2,none⟩=some (.slice sx sn sc):=hcl 2;clear hcl hbox;have hp2:=hp.later h02;generalize hbk:w.heap.size=bk at*;by_cases h4:4<rn
 ·have hd:(decide ((rn:Int)>4))=true:=by simp;omega
  go_wp2;go_ret;exact⟨aI (by rw[hbd.out,decide_eq_true h4];rfl),by rw[hbk];exact h02⟩
 ·have hd:(decide ((rn:Int)>4))=false:=by simp;omega
  by_cases h6:6<sn
  ·have hd6:(decide ((sn:Int)>6))=true:=by simp;omega
   go_wp2;go_ret;exact⟨aI (by rw[hbd.out,decide_eq_true h6];simp),by rw[hbk];exact h02⟩
  ·have hd6:(decide ((sn:Int)>6))=false:=by simp;omega
   go_wp2;go_loopw [3] (fun i wr=>∃k:Nat,k<=sn/\i= .int .i64 k/\wr=w2/\(∀j,j<k->dE (aG ss j)=false)) (fun i _=>sn- (intOf i).toNat)
   case atStart=>exact⟨0,by omega,rfl,rfl,fun j hj=>by omega⟩
   case round=>
    obtain⟨k,hk,rfl,rfl,hno⟩:=hrel
    have hno':Hid (∀j,j<k->dE (aG ss j)=false):=hno
    clear hno
    by_cases hlt:k<sn
    ·have hlt':Hid (k<sn):=hlt;obtain⟨b,o,hxo, -, -, -,c3⟩:=hp2.cells k hlt;obtain⟨-,hsn,hfs⟩:=hp2.faces k hlt;have q2':=q2;rw[hxo]at q2';have hsm:Hid (dE (aG ss k)=(decide (8<(aG ss k).n)||anyAt (aG ss k).n fun i=>decide (4<(fcAt (aG ss k).fs i).n))):=rfl;by_cases h8:8<(aG ss k).n
     ·have hd8:(decide (((aG ss k).n:Int)>8))=true:=by simp;omega
      have hr:Hid (bU rn sn ss=true):=CM hlt (by rw[hsm.out,decide_eq_true h8];rfl);clear q2;go_wp2;go_ret;exact⟨aI hr.out.symm,by rw[hbk];exact h02⟩
     ·have hd8:(decide (((aG ss k).n:Int)>8))=false:=by simp;omega
      clear q2;go_wp2;obtain⟨wo,rfl⟩:∃wo,wo=wr:=⟨_,rfl⟩;go_loopw [4] (fun i wr=>∃q:Nat,q<=(aG ss k).n/\i= .int .i64 q/\wr=wo/\(∀j,j<q->decide (4<(fcAt (aG ss k).fs j).n)=false)) (fun i _=>(aG ss k).n- (intOf i).toNat)
      case atStart=>exact⟨0,by omega,rfl,rfl,fun j hj=>by omega⟩
      case round=>
       obtain⟨q,hq,rfl,rfl,hno2⟩:=hrel
       have hno2':Hid (∀j,j<q->decide (4<(fcAt (aG ss k).fs j).n)=false):=hno2
       clear hno2
       by_cases hq2:q<(aG ss k).n
       ·have hq':Hid (q<(aG ss k).n):=hq2;obtain⟨b2,o2,hx2, -,d1⟩:=hfs.cells q hq2;have hfn:=(hfs.addrs q hq2).2.1;have c3':=c3;rw[hx2]at c3';clear c3;by_cases h5:4<(fcAt (aG ss k).fs q).n
        ·have hd5:(decide (((fcAt (aG ss k).fs q).n:Int)>4))=true:=by simp;omega
         have hr:Hid (bU rn sn ss=true):=CM hlt (by rw[hsm.out,aW (f:=fun i=>decide (4<(fcAt (aG ss k).fs i).n)) hq2 (by simpa using h5)];simp);go_wp2;go_ret;exact⟨aI hr.out.symm,by rw[hbk];exact h02⟩
        ·have hd5:(decide (((fcAt (aG ss k).fs q).n:Int)>4))=false:=by simp;omega
         go_wp2;go_roundw
         case rel=>exact⟨q+1,hq'.out,by go_num,by first|rfl|trivial,fun j hj=>by
          by_cases hj2:j<q
          ·exact hno2'.out j hj2
          ·obtain rfl:j=q:=by omega
           simpa using h5⟩
         case measure=>simp[intOf];have:=hq'.out;omega
       ·obtain rfl:q=(aG ss k).n:=by omega
        go_wp2;go_roundw
        case rel=>exact⟨k+1,hlt'.out,by go_num,by first|rfl|trivial,fun j hj=>by
         by_cases hj2:j<k
         ·exact hno'.out j hj2
         ·obtain rfl:j=k:=by omega
          rw[hsm.out,decide_eq_false h8,dD hno2'.out];rfl⟩
        case measure=>simp[intOf];have:=hlt'.out;omega
    ·obtain rfl:k=sn:=by omega
     have hr:Hid (bU rn k ss=false):=by show _=_;rw[hbd.out,decide_eq_false h4,decide_eq_false h6,dD hno'.out];rfl
     go_wp2;go_ret;exact⟨aI hr.out.symm,by rw[hbk];exact h02⟩
theorem vpcMany_is(vid:Int)(rx:Option Addr)(rn rc:Nat)(sx:Option Addr)(sn sc:Nat)(ss:List Sb)(t:Bool)(h:bU rn sn ss=t)(w:World)(hr63:rn<=9223372036854775807)(hp:SS w sx sn ss)(hs:sn<=9223372036854775807):
  Calls Tryz.prog 66 #[.agg #[.int .i64 vid, .slice rx rn rc, .slice sx sn sc]] w fun e w'=>e= .returned (.bool t)/\Below w.heap.size w w':=by
 subst h;exact GV vid rx rn rc sx sn sc ss w hr63 hp hs
theorem GW(vid c m:Int)(rx:Option Addr)(rn rc:Nat)(rs:List Rg)(sx:Option Addr)(sn sc:Nat)(w:World)(hp:RS w rx rn rs)(hn:rn<=64):
  Calls Tryz.prog 67 #[.agg #[.int .i64 vid, .slice rx rn rc, .slice sx sn sc], .agg #[.int .i64 c, .int .i64 m]] w fun e w'=>e= .returned (.bool (anyAt rn (PR rs c m)))/\Below w.heap.size w w':=by
 go_enter Tryz.func67,Tryz.ntmps67;go_upto_region 1 with fail
 obtain⟨w2,hw2⟩:∃w2,w2=(w.alloc (vpO vid rx rn rc sx sn sc)).alloc (.cells #[.int .i64 c, .int .i64 m] 53):=⟨_,rfl⟩;rw[<-hw2];have h02:Below w.heap.size w w2:=by rw[hw2];exact bP w _ _
 have hbox:w2.heap[w.heap.size]?=some (vpO vid rx rn rc sx sn sc):=by rw[hw2];exact aH _ (aB _ rfl)
 have hbox2:w2.heap[w.heap.size+1]?=some (.cells #[.int .i64 c, .int .i64 m] 53):=by rw[hw2];exact aB _ (by simp)
 clear hw2;have hcl:=(aD hbox).1;have hcl2:=(aD hbox2).1;have q1:w2.cell? ⟨w.heap.size,1,none⟩=some (.slice rx rn rc):=hcl 1;have p0:w2.cell? ⟨w.heap.size+1,0,none⟩=some (.int .i64 c):=hcl2 0;have p1:w2.cell? ⟨w.heap.size+1,1,none⟩=some (.int .i64 m):=hcl2 1;clear hcl hcl2 hbox hbox2;have hp2:=hp.later h02;have hsz:Hid (w.heap.size<=w2.heap.size):=h02.size;generalize hbk:w.heap.size=bk at*;go_wp2;go_loopw [5] (fun i wr=>∃k:Nat,k<=rn/\i= .int .i64 k/\Below w2.heap.size w2 wr/\(∀j,j<k->PR rs c m j=false)) (fun i _=>rn- (intOf i).toNat)
 case atStart=>exact⟨0,by omega,rfl,zD,fun j hj=>by omega⟩
 case round=>
  obtain⟨k,hk,rfl,hB,hno⟩:=hrel
  have r1:=cell_later hB q1
  by_cases hlt:k<rn
  ·have hlt':Hid (k<rn):=hlt;obtain⟨b,o,hxo,c0,c1, -⟩:=(hp2.later hB).cells k hlt;rw[hxo]at r1;have g0:=Ws.here c0;have g1:=Ws.here c1;have g2:=Ws.here r1;have g3:=Ws.here (cell_later hB p0);have g4:=Ws.here (cell_later hB p1);clear c0 c1
   cases hi:PR rs c m k;all_goals have hi':jQ c m (rgAt rs k).a (rgAt rs k).l=_:=hi
   all_goals go_upto_region 4 with fail
   all_goals refine aE wr.heap.size (by kernel_rfl) (by kernel_rfl) ?_
   all_goals repeat(go_big_quiet_step ((go_at_call 64;exact Calls.in_ws (zE) (gO _ _ _ _ _ hi' _))))
   all_goals refine wpQuiet_nil ?_
   all_goals rintro _ ⟨u,rfl⟩
   all_goals have hu:=hB.trans (u.property.mono hB.size)
   all_goals generalize u.val=wu at hu⊢
   all_goals clear u g0 g1 g2 g3 g4 r1
   ·go_wp2;go_roundw
    case rel=>exact⟨k+1,hlt'.out,by go_num,hu,fun j hj=>by
     by_cases hj2:j<k
     ·exact hno j hj2
     ·obtain rfl:j=k:=by omega
      exact hi⟩
    case measure=>simp[intOf];have:=hlt'.out;omega
   ·go_wp2;go_ret;exact⟨aI (aW hlt'.out hi).symm,by rw[hbk];exact h02.trans (hu.mono hsz.out)⟩
  ·obtain rfl:k=rn:=by omega
   go_wp2;go_ret;exact⟨aI (dD hno).symm,by rw[hbk];exact h02.trans (hB.mono hsz.out)⟩
theorem gD(vid c m:Int)(rx:Option Addr)(rn rc:Nat)(rs:List Rg)(sx:Option Addr)(sn sc:Nat)(t:Bool)(h:anyAt rn (PR rs c m)=t)(w:World)(hp:RS w rx rn rs)(hn:rn<=64):
  Calls Tryz.prog 67 #[.agg #[.int .i64 vid, .slice rx rn rc, .slice sx sn sc], .agg #[.int .i64 c, .int .i64 m]] w fun e w'=>e= .returned (.bool t)/\Below w.heap.size w w':=by
 subst h;exact GW vid c m rx rn rc rs sx sn sc w hp hn
theorem RZ{a y:Int}(hr:rt a l=true):mC a l y=(hld a l y&&(y !=a)&&(y !=a+sp l- 1)):=by
 unfold mC hld;rw[hr];generalize sp l=s;rw[Bool.eq_iff_iff];simp only[zH,decide_eq_true_eq,bne_iff_ne,Bool.true_and,ne_eq];omega
theorem NS(id a l:Int)(x:Option Addr)(n c:Nat)(y:Int)(w:World)(hr:rt a l=true):
  Calls Tryz.prog 107 #[.agg #[.int .i64 id, .int .i64 a, .int .i64 l, .slice x n c], .int .i64 y] w fun e w'=>e= .returned (.bool (mC a l y))/\Below w.heap.size w w':=by
 obtain⟨h0,h1,h2,h3, -⟩:=bC hr;have hl:=fun W=>kP a l W h0 h1 h2 h3;rw[RZ hr];generalize a+sp l- 1=z at hl⊢;clear h0 h1 h2 h3 hr;have hh:=fun W=>jT a l y W;generalize hld a l y=t at hh⊢
 cases t
 ·go_enter Tryz.func107,Tryz.ntmps107;go_wp2_with (go_at_call 105;refine(hh _).mono ?_;rintro e w1 ⟨rfl,hb1⟩);go_ret;exact⟨rfl,(bl1 w _).trans (hb1.mono (by simp))⟩
 ·cases hne:(y !=a)
  ·go_enter Tryz.func107,Tryz.ntmps107;go_wp2_with fail;refine(hh _).mono ?_;rintro e w1 ⟨rfl,hb1⟩;have c1:w1.cell? ⟨w.heap.size,1,none⟩=some (.int .i64 a):=cell_later hb1 (by simp);go_wp2;go_ret;exact⟨rfl,(bl1 w _).trans (hb1.mono (by simp))⟩
  ·go_enter Tryz.func107,Tryz.ntmps107;go_wp2_with fail;refine(hh _).mono ?_;rintro e w1 ⟨rfl,hb1⟩;have c1:w1.cell? ⟨w.heap.size,1,none⟩=some (.int .i64 a):=cell_later hb1 (by simp);have c2:w1.cell? ⟨w.heap.size,2,none⟩=some (.int .i64 l):=cell_later hb1 (by simp);have hB1:=(bl1 w _).trans (hb1.mono (by simp));have hs1:Hid (w.heap.size<=w1.heap.size):=hB1.size;clear hb1;go_wp2_with (go_at_call 65;refine(hl _).mono ?_;rintro e w2 ⟨rfl,hb2⟩);go_ret;exact⟨aI (by simp),hB1.trans (hb2.mono hs1.out)⟩
theorem rZ(id a l:Int)(x:Option Addr)(n c:Nat)(y:Int)(t:Bool)(h:mC a l y=t)(w:World)(hr:rt a l=true):
  Calls Tryz.prog 107 #[.agg #[.int .i64 id, .int .i64 a, .int .i64 l, .slice x n c], .int .i64 y] w fun e w'=>e= .returned (.bool t)/\Below w.heap.size w w':=by
 subst h;exact NS id a l x n c y w hr
end Go.Proofs.YtkgeoeglidnnnaaGreatDoor
