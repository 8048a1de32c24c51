/- A part of the proof. -/
import Derived.Test.YtkgeoeglidnnnaaGreatDoorMD03
set_option maxRecDepth 100000
set_option maxHeartbeats 20000000
namespace Go.Proofs.YtkgeoeglidnnnaaGreatDoor
variable {ops : Array Oper} {C : World → Prop} {A : Act} {o i k b n c base g base' j cap c' : Nat} {rest : List Oper} {t a t' z E l mn mx us co : Int} {ps qs : List Po} {e : Le} {p : Po} {v v' u : Value} {w w' V W W1 W' : World} {x x' : Option Addr} {es : List Le} {cs ds : Array Value} {fr : Nat × Nat} {ad : Addr}
open Go.RowKit Go.Shelf
abbrev LA(e:Le):Value:= .agg #[.int .i64 e.a, .int .i64 e.l, .int .i64 e.kd, .int .i64 e.ow, .int .i64 e.un]
abbrev tC(e:Le):Obj:= .cells #[.int .i64 e.a, .int .i64 e.l, .int .i64 e.kd, .int .i64 e.ow, .int .i64 e.un] 55
abbrev QJ(t:Int)(x:Option Addr)(n c:Nat):Obj:= .cells #[.int .i64 t, .slice x n c] 24
def U6(q:Po)(id:Int)(e:Le):Bool:=(q.up==id)&&(decide (q.a=e.a)&&decide (q.l=e.l))&&(e.un==0)
def lO(t:Int)(ps:List Po)(id:Int)(e:Le):Bool:=
 if e.kd=1 then bV e.ow 1 65536&&(e.un==0)
 else if e.kd=2 then(if aS ps e.ow<0 then false else U6 (poAt ps (aS ps e.ow).toNat) id e)
 else if e.kd=3 then(e.ow==0)&&(decide (t<e.un)&&decide (e.un<=t+1024))else false
theorem isId_is(v:Int)(t:Bool)(h:bV v 1 65536=t)(w:World):Calls Tryz.prog 79 #[.int .i64 v] w fun e w'=>e= .returned (.bool t)/\w'=w:=by
 subst h;exact isId_any v w
theorem xP{Q:Act->Prop}{o:Oper}(x y:Operand)(t:TypeId)(a l c m:Int)(hop:o.op= .binOp .eql 53 x y t)(hg:Region.wanted o (yielded ops A.tmps)=true)
 (hx:A.eval x= .agg #[.int .i64 a, .int .i64 l])(hy:A.eval y= .agg #[.int .i64 c, .int .i64 m])(h:wpQuiet Tryz.prog ops C Q rest (A.put o.dst (.bool (decide (a=c)&&decide (l=m))))):wpQuiet Tryz.prog ops C Q (o::rest) A:=by
 unfold wpQuiet;rw[if_pos hg];refine⟨_,fun w _=>?_,h⟩;unfold Oper.quietAt execOp;rw[hop];simp only[hx,hy,Sem.run_bind,qW,B3,Result.andThen_ok,Sem.run_pure];exact⟨rfl,rfl⟩
theorem aBx{id:Int}(h:e.kd=1):lO t ps id e=(bV e.ow 1 65536&&(e.un==0)):=by unfold lO;rw[if_pos h]
theorem XY{id:Int}(h:e.kd=2)(h2:aS ps e.ow<0):lO t ps id e=false:=by unfold lO;rw[if_neg (by omega),if_pos h,if_pos h2]
theorem U7{id:Int}(h:e.kd=2)(h2:aS ps e.ow=i):lO t ps id e=U6 (poAt ps i) id e:=by
 unfold lO;rw[if_neg (by omega),if_pos h,h2,if_neg (by omega)];simp only[Int.toNat_natCast]
theorem aBy{id:Int}(h:e.kd=3):lO t ps id e=((e.ow==0)&&(decide (t<e.un)&&decide (e.un<=t+1024))):=by unfold lO;rw[if_neg (by omega),if_neg (by omega),if_pos h]
theorem aBz{id:Int}(h1:e.kd≠1)(h2:e.kd≠2)(h3:e.kd≠3):lO t ps id e=false:=by unfold lO;rw[if_neg h1,if_neg h2,if_neg h3]
theorem DO(t id:Int)(x:Option Addr)(n c:Nat)(ps:List Po)(e:Le)(w:World)(hk:e.kd=1):
  Calls Tryz.prog 85 #[.agg #[.int .i64 t, .slice x n c], .int .i64 id,LA e] w fun r w'=>r= .returned (.bool (lO t ps id e))/\Below w.heap.size w w':=by
 have hb1:(e.kd==1)=true:=by simpa using hk
 rw[aBx hk];clear hk
 cases hi:bV e.ow 1 65536;all_goals go_enter Tryz.func85,Tryz.ntmps85
 all_goals go_wp2_with (go_at_call 79;refine(isId_is e.ow _ hi _).mono ?_;rintro r w1 ⟨rfl,rfl⟩)
 all_goals go_ret
 all_goals exact⟨rfl,bP w _ _⟩
theorem DP(t id:Int)(x:Option Addr)(n c:Nat)(ps:List Po)(e:Le)(w:World)(hk:e.kd=3)(t0:0<=t)(t1:t<=1073741824):
  Calls Tryz.prog 85 #[.agg #[.int .i64 t, .slice x n c], .int .i64 id,LA e] w fun r w'=>r= .returned (.bool (lO t ps id e))/\Below w.heap.size w w':=by
 have hb1:(e.kd==1)=false:=by simp[hk]
 have hb2:(e.kd==2)=false:=by simp[hk]
 have hb3:(e.kd==3)=true:=by simp[hk]
 rw[aBy hk];clear hk
 cases ho:(e.ow==0)
 ·go_enter Tryz.func85,Tryz.ntmps85;go_wp2;go_ret;exact⟨rfl,bP w _ _⟩
 ·cases hu:decide (t<e.un);all_goals go_enter Tryz.func85,Tryz.ntmps85
  all_goals go_wp2
  all_goals go_ret
  all_goals exact⟨rfl,bP w _ _⟩
theorem DQ(t id:Int)(x:Option Addr)(n c:Nat)(ps:List Po)(e:Le)(w:World)(h1:e.kd≠1)(h2:e.kd≠2)(h3:e.kd≠3):
  Calls Tryz.prog 85 #[.agg #[.int .i64 t, .slice x n c], .int .i64 id,LA e] w fun r w'=>r= .returned (.bool (lO t ps id e))/\Below w.heap.size w w':=by
 have hb1:(e.kd==1)=false:=by simpa using h1
 have hb2:(e.kd==2)=false:=by simpa using h2
 have hb3:(e.kd==3)=false:=by simpa using h3
 rw[aBz h1 h2 h3];clear h1 h2 h3;go_enter Tryz.func85,Tryz.ntmps85;go_wp2;go_ret;exact⟨rfl,bP w _ _⟩
theorem DR(t id:Int)(x:Option Addr)(n c:Nat)(ps:List Po)(e:Le)(w:World)(hp:kS w x n ps)(hn:n<=64)(hk:e.kd=2):
  Calls Tryz.prog 85 #[.agg #[.int .i64 t, .slice x n c], .int .i64 id,LA e] w fun r w'=>r= .returned (.bool (lO t ps id e))/\Below w.heap.size w w':=by
 have hpl:Hid (ps.length=n):=hp.len;have hb1:(e.kd==1)=false:=by simp[hk]
 have hb2:(e.kd==2)=true:=by simp[hk]
 have hk':Hid (e.kd=2):=hk;clear hk;go_enter Tryz.func85,Tryz.ntmps85;go_upto_region 5 with fail
 obtain⟨w0,hw0⟩:∃w0,w0=(w.alloc (QJ t x n c)).alloc (tC e):=⟨_,rfl⟩;rw[<-hw0];have hB0:Below w.heap.size w w0:=by rw[hw0];exact bP w _ _
 have hb0:w0.heap[w.heap.size]?=some (QJ t x n c):=by rw[hw0];exact aH _ (aB _ rfl)
 have hq0:w0.heap[w.heap.size+1]?=some (tC e):=by rw[hw0];exact aB _ (by simp)
 clear hw0;obtain⟨kb, -⟩:=aD hb0;obtain⟨kq, -⟩:=aD hq0;go_upto_region 6 with (go_at_call 121;refine(pplace_any t e.ow x n c ps _ (hp.later hB0) hn).mono ?_;rintro r w1 ⟨rfl,hb1'⟩)
 have hbb1:=aA hb1' hb0;have hbq1:=aA hb1' hq0;have hB1:=hB0.trans (hb1'.mono hB0.size);clear hb1' kb kq hb0 hq0 hB0;obtain⟨kb, -⟩:=aD hbb1;obtain⟨kq, -⟩:=aD hbq1;have g0:=Ws.here (v:= .slice x n c) (kb 1);have g1:=Ws.here (v:= .int .i64 e.a) (kq 0);have g2:=Ws.here (v:= .int .i64 e.l) (kq 1);have g3:=Ws.here (v:= .int .i64 e.un) (kq 4)
 cases hneg:decide (aS ps e.ow<0)
 ·obtain⟨i,hi,hai, -⟩:=bW (ps:=ps) (id:=e.ow) (by simpa using hneg);have hai':Hid (aS ps e.ow=i):=hai;rw[hpl.out]at hi;have hpw:=hp.later hB1;obtain⟨b,o,rfl,c0,c1,c2,c3, -⟩:=hpw.cells i hi;rw[hai];have hge:decide ((i:Int)≥0)=true:=by simp
  clear hai hneg;have e1:=Ws.here c1;have e2:=Ws.here c2;have e3:=Ws.here c3
  cases hup:((poAt ps i).up==id)
  ·refine aE w1.heap.size (by kernel_rfl) (by kernel_rfl) ?_;repeat(go_big_quiet_step (fail))
   refine wpQuiet_nil ?_;rintro _ ⟨u,rfl⟩;have hu2:=hB1.trans (u.property.mono hB1.size);generalize u.val=wu at hu2⊢;clear u g0 g1 g2 g3 e1 e2 e3;go_wp2;go_ret;exact⟨aI (by rw[U7 hk'.out hai'.out];unfold U6;rw[hup];rfl),hu2⟩
  ·cases heq:(decide ((poAt ps i).a=e.a)&&decide ((poAt ps i).l=e.l));all_goals refine aE w1.heap.size (by kernel_rfl) (by kernel_rfl) ?_
   all_goals repeat(go_big_quiet_step (fail))
   all_goals refine xP _ _ _ (poAt ps i).a (poAt ps i).l e.a e.l rfl (by rfl) rfl rfl ?_
   all_goals rw[heq]
   all_goals simp only[Act.put,List.setIfInBounds_toArray,List.set_cons_zero,List.set_cons_succ]
   all_goals repeat(go_big_quiet_step (fail))
   all_goals refine wpQuiet_nil ?_
   all_goals rintro _ ⟨u,rfl⟩
   all_goals have hu2:=hB1.trans (u.property.mono hB1.size)
   all_goals generalize u.val=wu at hu2⊢
   all_goals clear u g0 g1 g2 g3 e1 e2 e3
   all_goals go_wp2
   all_goals go_ret
   all_goals exact⟨aI (by rw[U7 hk'.out hai'.out];unfold U6;rw[hup,heq];rfl),hu2⟩
 ·have hai':Hid (aS ps e.ow<0):=by unfold Hid;simpa using hneg
  have hge:decide (aS ps e.ow≥0)=false:=by simp at hneg⊢;omega
  clear hneg;refine aE w1.heap.size (by kernel_rfl) (by kernel_rfl) ?_;repeat(go_big_quiet_step (fail))
  refine wpQuiet_nil ?_;rintro _ ⟨u,rfl⟩;have hu2:=hB1.trans (u.property.mono hB1.size);generalize u.val=wu at hu2⊢;clear u g0 g1 g2 g3;go_wp2;go_ret;exact⟨aI (by rw[XY hk'.out hai'.out]),hu2⟩
theorem xQ(t id:Int)(x:Option Addr)(n c:Nat)(ps:List Po)(e:Le)(w:World)(hp:kS w x n ps)(hn:n<=64)(t0:0<=t)(t1:t<=1073741824):
  Calls Tryz.prog 85 #[.agg #[.int .i64 t, .slice x n c], .int .i64 id,LA e] w fun r w'=>r= .returned (.bool (lO t ps id e))/\Below w.heap.size w w':=by
 by_cases h1:e.kd=1
 ·exact DO t id x n c ps e w h1
 ·by_cases h2:e.kd=2
  ·exact DR t id x n c ps e w hp hn h2
  ·by_cases h3:e.kd=3
   ·exact DP t id x n c ps e w h3 t0 t1
   ·exact DQ t id x n c ps e w h1 h2 h3
def A8(t:Int)(ps:List Po)(p:Po):Bool:=(List.range p.n).all fun i=>lO t ps p.id (leAt p.ls i)
def jX(t:Int)(ps:List Po)(n:Nat)(p:Po):Bool:=(eI p.a p.l p.n (lp p.ls)==0)&&(dB p.mn p.mx p.us p.co p.l&&(lY ps n p&&A8 t ps p))
theorem Y0(hk:k<p.n)(h:lO t ps p.id (leAt p.ls k)=false):A8 t ps p=false:=by
 unfold A8;rw[List.all_eq_false];exact⟨k,by simpa using hk,by simp[h]⟩
theorem LB(h:∀j,j<p.n->lO t ps p.id (leAt p.ls j)=true):A8 t ps p=true:=by
 unfold A8;rw[List.all_eq_true];intro j hj;exact h j (by simpa using hj)
theorem rG(mn mx us co a l:Int)(t:Bool)(h:dB mn mx us co l=t)(w:World):
  Calls Tryz.prog 83 #[.agg #[.int .i64 mn, .int .i64 mx, .int .i64 us, .int .i64 co], .agg #[.int .i64 a, .int .i64 l]] w fun e w'=>e= .returned (.bool t)/\Below w.heap.size w w':=by
 subst h;exact pF mn mx us co a l w
theorem xR(t:Int)(x:Option Addr)(n c:Nat)(ps:List Po)(p:Po)(r:Bool)(h:lY ps n p=r)(w:World)(hp:kS w x n ps)(hn:n<=64):
  Calls Tryz.prog 84 #[.agg #[.int .i64 t, .slice x n c],IZ p] w fun e w'=>e= .returned (.bool r)/\Below w.heap.size w w':=by
 subst h;exact F2 t x n c ps p w hp hn
theorem pH(t id:Int)(x:Option Addr)(n c:Nat)(ps:List Po)(e:Le)(r:Bool)(h:lO t ps id e=r)(w:World)(hp:kS w x n ps)(hn:n<=64)(t0:0<=t)(t1:t<=1073741824):
  Calls Tryz.prog 85 #[.agg #[.int .i64 t, .slice x n c], .int .i64 id,LA e] w fun r' w'=>r'= .returned (.bool r)/\Below w.heap.size w w':=by
 subst h;exact xQ t id x n c ps e w hp hn t0 t1
theorem pI(a l:Int)(n:Nat)(ls:List Le)(v:Int)(hv:eI a l n (lp ls)=v)(x:Option Addr)(c:Nat)(w:World)(h:PS w x n (lp ls)):
  Calls Tryz.prog 81 #[.agg #[.int .i64 a, .int .i64 l, .slice x n c]] w fun e w'=>e= .returned (.int .i64 v)/\Below w.heap.size w w':=by
 subst hv;exact xJ a l x n c (lp ls) w (fun _=>h)
theorem A9(t:Int)(x:Option Addr)(n c:Nat)(ps:List Po)(p:Po)(w:World)(hp:kS w x n ps)(hn:n<=64)(hl:LS w p.x p.n p.ls)(hpn:p.n<=1048576)(t0:0<=t)(t1:t<=1073741824):
  Calls Tryz.prog 50 #[.agg #[.int .i64 t, .slice x n c],IZ p] w fun e w'=>e= .returned (.bool (jX t ps n p))/\Below w.heap.size w w':=by
 unfold jX;go_enter Tryz.func50,Tryz.ntmps50;go_upto_region 1 with fail
 obtain⟨w0,hw0⟩:∃w0,w0=(w.alloc (QJ t x n c)).alloc (oL p):=⟨_,rfl⟩;rw[<-hw0];have hB0:Below w.heap.size w w0:=by rw[hw0];exact bP w _ _
 have hb0:w0.heap[w.heap.size]?=some (QJ t x n c):=by rw[hw0];exact aH _ (aB _ rfl)
 have hq0:w0.heap[w.heap.size+1]?=some (oL p):=by rw[hw0];exact aB _ (by simp)
 clear hw0;obtain⟨kq, -⟩:=aD hq0
 cases hch:(eI p.a p.l p.n (lp p.ls)==0)
 ·have hch':(eI p.a p.l p.n (lp p.ls)!=0)=true:=by simpa using hch
  generalize hv:eI p.a p.l p.n (lp p.ls)=v at hch hch';go_wp2_with fail;refine(nK p _ (hl.later hB0) hpn).mono ?_;rintro e w1 ⟨x1,c1,rfl,hb1,hp1⟩;have hB1:=hB0.trans (hb1.mono hB0.size);obtain⟨kq1, -⟩:=aD (aA hb1 hq0);go_wp2_with fail;refine(pI p.a p.l p.n p.ls v hv x1 c1 _ hp1).mono ?_;rintro e w2 ⟨rfl,hb2⟩;have hB2:=hB1.trans (hb2.mono hB1.size);go_wp2;go_ret;exact⟨aI (by rw[hv,hch];rfl),hB2⟩
 ·have hch0:eI p.a p.l p.n (lp p.ls)=0:=by simpa using hch
  have hn32:p.n<=32:=(iB hch0).1;go_wp2_with fail;refine(nK p _ (hl.later hB0) hpn).mono ?_;rintro e w1 ⟨x1,c1,rfl,hb1,hp1⟩;have hB1:=hB0.trans (hb1.mono hB0.size);have hb1b:=aA hb1 hb0;have hb1q:=aA hb1 hq0;clear hb1 hb0 hq0 hB0 kq;go_wp2_with fail;refine(pI p.a p.l p.n p.ls 0 hch0 x1 c1 _ hp1).mono ?_;rintro e w2 ⟨rfl,hb2⟩;have hB2:=hB1.trans (hb2.mono hB1.size);have hb2b:=aA hb2 hb1b;have hb2q:=aA hb2 hb1q;clear hb2 hb1b hb1q hB1 hp1 hch;obtain⟨kq, -⟩:=aD hb2q
  cases hru:dB p.mn p.mx p.us p.co p.l
  ·go_wp2_with fail;refine(rG _ _ _ _ _ _ _ hru _).mono ?_;rintro e w3 ⟨rfl,hb3⟩;go_wp2;go_ret;exact⟨aI (by rw[hch0,hru];rfl),hB2.trans (hb3.mono hB2.size)⟩
  ·go_wp2_with fail;refine(rG _ _ _ _ _ _ _ hru _).mono ?_;rintro e w3 ⟨rfl,hb3⟩;have hB3:=hB2.trans (hb3.mono hB2.size);have hb3b:=aA hb3 hb2b;have hb3q:=aA hb3 hb2q;clear hb3 hb2b hb2q hB2 kq;obtain⟨kq, -⟩:=aD hb3q;obtain⟨kb, -⟩:=aD hb3b
   cases hup:lY ps n p
   ·go_wp2_with fail;refine(xR t x n c ps p _ hup _ (hp.later hB3) hn).mono ?_;rintro e w4 ⟨rfl,hb4⟩;go_wp2;go_ret;exact⟨aI (by rw[hch0,hru,hup];rfl),hB3.trans (hb4.mono hB3.size)⟩
   ·go_wp2_with fail;refine(xR t x n c ps p _ hup _ (hp.later hB3) hn).mono ?_;rintro e w4 ⟨rfl,hb4⟩;have hB4:=hB3.trans (hb4.mono hB3.size);have hb4b:=aA hb4 hb3b;have hb4q:=aA hb4 hb3q;clear hb4 hb3b hb3q hB3 kq kb;obtain⟨kq, -⟩:=aD hb4q;go_wp2;clear kq;go_loopw [28] (fun i wr=>∃k:Nat,k<=p.n/\i= .int .i64 k/\(∀j,j<k->lO t ps p.id (leAt p.ls j)=true)/\wr.heap[w.heap.size]?=some (QJ t x n c)/\wr.heap[w.heap.size+1]?=some (oL p)/\Below w.heap.size w wr) (fun i _=>p.n- (intOf i).toNat)
    case atStart=>exact⟨0,by omega,rfl,fun j hj=>by omega,hb4b,hb4q,hB4⟩
    case round=>
     obtain⟨k,hk,rfl,hok,hbb,hbq,hB⟩:=hrel
     clear hb4b hb4q hB4
     by_cases hlt:k<p.n
     ·obtain⟨b,o,hx,c0,c1,c2,c3,c4⟩:=(hl.later hB).cells k hlt;have hlt':=hlt;have hbb':=aH (tC (leAt p.ls k)) hbb;have hbq':=aH (tC (leAt p.ls k)) hbq;have hB':=hB.alloc hB.size (tC (leAt p.ls k));obtain⟨kb, -⟩:=aD hbb';obtain⟨kq, -⟩:=aD hbq';rw[hx]
      cases hle:lO t ps p.id (leAt p.ls k)
      ·go_wp2_with fail;refine(pH t p.id x n c ps (leAt p.ls k) _ hle _ (hp.later hB') hn t0 t1).mono ?_;rintro e w5 ⟨rfl,hb5⟩;go_wp2;go_ret;exact⟨aI (by rw[hch0,hru,hup,Y0 hlt' hle];rfl),hB'.trans (hb5.mono hB'.size)⟩
      ·go_wp2_with fail;refine(pH t p.id x n c ps (leAt p.ls k) _ hle _ (hp.later hB') hn t0 t1).mono ?_;rintro e w5 ⟨rfl,hb5⟩;have hbb5:=aA hb5 hbb';have hbq5:=aA hb5 hbq';clear kb kq;go_wp2;go_roundw
       case rel=>exact⟨k+1,hlt',by go_num,fun j hj=>by
        by_cases hj2:j<k
        ·exact hok j hj2
        ·obtain rfl:j=k:=by omega
         exact hle,hbb5,hbq5,hB'.trans (hb5.mono hB'.size)⟩
       case measure=>simp[intOf];omega
     ·obtain rfl:k=p.n:=by omega
      go_wp2;go_ret;exact⟨aI (by rw[hch0,hru,hup,LB hok];rfl),hB⟩
def lZ(t:Int)(ps:List Po):Bool:=(List.range ps.length).all fun i=>jX t ps ps.length (poAt ps i)
def aX(t:Int)(ps:List Po):Int:=if 8<ps.length then 2 else if(bV t 0 1073741824&&(kV ps.length ps&&(fX ps&&lZ t ps)))=true then 0 else 1
theorem QK(hk:k<ps.length)(h:jX t ps ps.length (poAt ps k)=false):lZ t ps=false:=by
 unfold lZ;rw[List.all_eq_false];exact⟨k,by simpa using hk,by simp[h]⟩
theorem tD(h:∀j,j<ps.length->jX t ps ps.length (poAt ps j)=true):lZ t ps=true:=by
 unfold lZ;rw[List.all_eq_true];intro j hj;exact h j (by simpa using hj)
theorem QL(h:8<ps.length):aX t ps=2:=by unfold aX;rw[if_pos h]
theorem xS(h:ps.length<=8)(h2:(bV t 0 1073741824&&(kV ps.length ps&&(fX ps&&lZ t ps)))=false):aX t ps=1:=by unfold aX;rw[if_neg (by omega),h2];rfl
theorem DS(h:ps.length<=8)(h2:(bV t 0 1073741824&&(kV ps.length ps&&(fX ps&&lZ t ps)))=true):aX t ps=0:=by unfold aX;rw[if_neg (by omega),if_pos h2]
theorem xT(x:Option Addr)(n c:Nat)(ps:List Po)(r:Bool)(h:kV n ps=r)(w:World)(hp:kS w x n ps)(hn:n<=64):
  Calls Tryz.prog 48 #[.slice x n c] w fun e w'=>e= .returned (.bool r)/\Below w.heap.size w w':=by
 subst h;exact FX x n c ps w hp hn
theorem rH(x:Option Addr)(n c:Nat)(ps:List Po)(r:Bool)(h:fX ps=r)(w:World)(hp:kS w x n ps)(hn:n<=64)(hnc:n<=c)(hc63:c<=9223372036854775807):
  Calls Tryz.prog 49 #[.slice x n c] w fun e w'=>e= .returned (.bool r)/\Below w.heap.size w w':=by
 subst h;exact A7 x n c ps w hp hn hnc hc63
theorem rI(t:Int)(x:Option Addr)(n c:Nat)(ps:List Po)(p:Po)(r:Bool)(h:jX t ps n p=r)(w:World)(hp:kS w x n ps)(hn:n<=64)(hl:LS w p.x p.n p.ls)(hpn:p.n<=1048576)(t0:0<=t)(t1:t<=1073741824):
  Calls Tryz.prog 50 #[.agg #[.int .i64 t, .slice x n c],IZ p] w fun e w'=>e= .returned (.bool r)/\Below w.heap.size w w':=by
 subst h;exact A9 t x n c ps p w hp hn hl hpn t0 t1
theorem QM{v b:Int}(h:v<a\/b<v):bV v a b=false:=by
 unfold bV;rcases h with h|h
 ·rw[decide_eq_false (by omega),Bool.false_and]
 ·rw[decide_eq_false (p:=v<=b) (by omega),Bool.and_false]
theorem U8{v b:Int}(h:a<=v)(h2:v<=b):bV v a b=true:=by
 unfold bV;rw[decide_eq_true h,decide_eq_true h2];rfl
structure Bk(w:World)(x:Option Addr)(n c:Nat)(ps:List Po):Prop where
 ps:kS w x n ps
 nc:n<=c
 cm:c<=9223372036854775807
theorem Bk.later(h:Bk w x n c ps)(hb:Below w.heap.size w w'):Bk w' x n c ps:=⟨h.ps.later hb,h.nc,h.cm⟩
theorem mA(t:Int)(x:Option Addr)(n c:Nat)(ps:List Po)(w:World)(hk:Bk w x n c ps):
  Calls Tryz.prog 23 #[.agg #[.int .i64 t, .slice x n c]] w fun e w'=>e= .returned (.int .i64 (aX t ps))/\Below w.heap.size w w':=by
 obtain⟨hp,hnc,hcm⟩:=hk;have hpl:Hid (ps.length=n):=hp.len;by_cases hn8:8<n
 ·rw[QL (by rw[hpl.out];exact hn8)];go_enter Tryz.func23,Tryz.ntmps23;go_wp2;go_ret;exact⟨rfl,bl1 w _⟩
 ·have hle:Hid (ps.length<=8):=by unfold Hid;rw[hpl.out];omega
  by_cases ht0:t<0
  ·rw[xS hle.out (by rw[QM (.inl ht0)];rfl)];go_enter Tryz.func23,Tryz.ntmps23;go_wp2;go_ret;exact⟨rfl,bl1 w _⟩
  ·by_cases ht1:1073741824<t
   ·rw[xS hle.out (by rw[QM (.inr ht1)];rfl)];go_enter Tryz.func23,Tryz.ntmps23;go_wp2;go_ret;exact⟨rfl,bl1 w _⟩
   ·have hwt:Hid (bV t 0 1073741824=true):=U8 (by omega) (by omega);go_enter Tryz.func23,Tryz.ntmps23;go_upto_region 3 with fail
    obtain⟨w0,hw0⟩:∃w0,w0=w.alloc (QJ t x n c):=⟨_,rfl⟩;rw[<-hw0];have hB0:Below w.heap.size w w0:=by rw[hw0];exact bl1 w _
    have hb0:w0.heap[w.heap.size]?=some (QJ t x n c):=by rw[hw0];exact aB _ rfl
    clear hw0;obtain⟨kb, -⟩:=aD hb0
    cases hid:kV n ps
    ·go_wp2_with fail;refine(xT x n c ps _ hid _ (hp.later hB0) (by omega)).mono ?_;rintro e w1 ⟨rfl,hb1⟩;go_wp2;go_ret;exact⟨aP (xS hle.out (by rw[hwt.out,hpl.out,hid];rfl)).symm,hB0.trans (hb1.mono hB0.size)⟩
    ·go_wp2_with fail;refine(xT x n c ps _ hid _ (hp.later hB0) (by omega)).mono ?_;rintro e w1 ⟨rfl,hb1⟩;have hB1:=hB0.trans (hb1.mono hB0.size);have hb1b:=aA hb1 hb0;clear hb1 hb0 hB0 kb;obtain⟨kb, -⟩:=aD hb1b
     cases hto:fX ps
     ·go_wp2_with fail;refine(rH x n c ps _ hto _ (hp.later hB1) (by omega) hnc hcm).mono ?_;rintro e w2 ⟨rfl,hb2⟩;go_wp2;go_ret;exact⟨aP (xS hle.out (by rw[hwt.out,hpl.out,hid,hto];rfl)).symm,hB1.trans (hb2.mono hB1.size)⟩
     ·go_wp2_with fail;refine(rH x n c ps _ hto _ (hp.later hB1) (by omega) hnc hcm).mono ?_;rintro e w2 ⟨rfl,hb2⟩;have hB2:=hB1.trans (hb2.mono hB1.size);have hb2b:=aA hb2 hb1b;clear hb2 hb1b hB1 kb;obtain⟨kb, -⟩:=aD hb2b;go_wp2;clear kb;go_loopw [34] (fun i wr=>∃k:Nat,k<=n/\i= .int .i64 k/\(∀j,j<k->jX t ps n (poAt ps j)=true)/\wr.heap[w.heap.size]?=some (QJ t x n c)/\Below w.heap.size w wr) (fun i _=>n- (intOf i).toNat)
      case atStart=>exact⟨0,by omega,rfl,fun j hj=>by omega,hb2b,hB2⟩
      case round=>
       obtain⟨k,hk,rfl,hok,hbb,hB⟩:=hrel
       clear hb2b hB2
       by_cases hlt:k<n
       ·have hpw:=hp.later hB;obtain⟨b,o,rfl,c0,c1,c2,c3,c4,c5,c6,c7,c8⟩:=hpw.cells k hlt;obtain⟨hl1,hl2,hl3⟩:=hpw.leases k hlt;have hlt':=hlt;have hbb':=aH (oL (poAt ps k)) hbb;have hB':=hB.alloc hB.size (oL (poAt ps k));have hl':=hl3.later (bl1 wr (oL (poAt ps k)));have hp':=hpw.later (bl1 wr (oL (poAt ps k)));obtain⟨kb, -⟩:=aD hbb'
        cases hpo:jX t ps n (poAt ps k)
        ·go_wp2_with fail;refine(rI t _ n c ps (poAt ps k) _ hpo _ hp' (by omega) hl' hl2 (by omega) (by omega)).mono ?_;rintro e w5 ⟨rfl,hb5⟩;go_wp2;go_ret;exact⟨aP (xS hle.out (by rw[hwt.out,hpl.out,hid,hto,QK (k:=k) (by rw[hpl.out];exact hlt') (by rw[hpl.out];exact hpo)];rfl)).symm,hB'.trans (hb5.mono hB'.size)⟩
        ·go_wp2_with fail;refine(rI t _ n c ps (poAt ps k) _ hpo _ hp' (by omega) hl' hl2 (by omega) (by omega)).mono ?_;rintro e w5 ⟨rfl,hb5⟩;have hbb5:=aA hb5 hbb';clear kb;go_wp2;go_roundw
         case rel=>exact⟨k+1,hlt',by go_num,fun j hj=>by
          by_cases hj2:j<k
          ·exact hok j hj2
          ·obtain rfl:j=k:=by omega
           exact hpo,hbb5,hB'.trans (hb5.mono hB'.size)⟩
         case measure=>simp[intOf];omega
       ·obtain rfl:k=n:=by omega
        go_wp2;go_ret;exact⟨aP (DS hle.out (by rw[hwt.out,hpl.out,hid,hto,tD (by rw[hpl.out];exact hok)];rfl)).symm,hB⟩
def cL(e:Le):List Value:=[.int .i64 e.a, .int .i64 e.l, .int .i64 e.kd, .int .i64 e.ow, .int .i64 e.un]
def flatL(es:List Le):List Value:=es.flatMap cL
theorem I0(e:Le):(cL e).length=5:=rfl
theorem iP:∀es:List Le,(flatL es).length=es.length*5:=lS I0
theorem CA(es fs:List Le):flatL (es++fs)=flatL es++flatL fs:=by simp[flatL]
theorem xU:∀(es:List Le) (i j:Nat),i<es.length->j<5->(flatL es)[i*5+j]?=(cL (leAt es i))[j]?:=qZ I0 K1
theorem oM(es:List Le):∀u∈flatL es,u.oneCell'=true:=fun u hu=>by
 obtain⟨e, -,hu⟩:=List.mem_flatMap.1 hu;simp only[cL,List.mem_cons,List.not_mem_nil,or_false]at hu;rcases hu with rfl|rfl|rfl|rfl|rfl<;>rfl
def dL(w:World)(base:Nat)(v:Value)(es:List Le):Prop:=w.ownsRow base 55 5 v es.length (flatL es)
theorem dL.later(h:dL w base v es)(hb:Below w.heap.size w w'):dL w' base v es:=cW h hb
theorem dL.kept(h:dL w base v es)(hg:w.grownBy w' (some g))(hne:∀k,v.ownBlock=some k->k≠g):dL w' base v es:=fD h hg hne
theorem dL.low(h:dL w base v es)(hb:base'<=base):dL w base' v es:=iE h hb
theorem dL.lt(h:dL w base v es):∀k,v.ownBlock=some k->base<=k/\k<w.heap.size:=World.ownsRow.lt h
theorem dL.ne{t:TypeId}(h:dL w base v es)(hb:w.heap[b]?=some (.cells cs t fr))(ht:t≠55):v.ownBlock≠some b:=jC h hb ht
theorem Y2:Ty 55 62 5 (.agg #[.int .i64 0, .int .i64 0, .int .i64 0, .int .i64 0, .int .i64 0]) 40:=qY (by kernel_rfl) (by kernel_rfl) rfl (oM [K1]) (by decide) (by decide)
theorem LS.flat_cells(h:LS w (some ad) n es):∀j u,(flatL es)[j]?=some u->w.cell? (ad.add j)=some u:=
 jB (by decide) I0 K1 h.len fun i hi=>by
  obtain⟨b,o,hx,d0,d1,d2,d3,d4⟩:=h.cells i hi;exact⟨b,o,hx,by rintro(_|_|_|_|_|q) u hu<;>first|(cases hu;assumption)|simp[cL]at hu⟩
theorem LS.rw(h:LS w x n es):Rw w x n 5 (flatL es):=
 ⟨by rw[iP,h.len],fun h0 e=>(by obtain⟨b,o,hx, -⟩:=h.cells 0 h0;rw[e]at hx;cases hx),oM es,fun ad hx=>by subst hx;exact h.flat_cells⟩
theorem dL.mem(h:dL w base v es):∃x c,v= .slice x es.length c/\es.length<=c/\c<=9223372036854775807/\(x=none->es.length=0/\c=0)/\∀i,i<es.length->∃b o,x=some ⟨b,o,none⟩/\w.cell? ⟨b,o+i*5,none⟩=some (.int .i64 (leAt es i).a)/\w.cell? ⟨b,o+i*5+1,none⟩=some (.int .i64 (leAt es i).l)/\w.cell? ⟨b,o+i*5+2,none⟩=some (.int .i64 (leAt es i).kd)/\w.cell? ⟨b,o+i*5+3,none⟩=some (.int .i64 (leAt es i).ow)/\w.cell? ⟨b,o+i*5+4,none⟩=some (.int .i64 (leAt es i).un):=by
 obtain⟨x,c,hv,h1,h2,h3,h4⟩:=jU h;refine⟨x,c,hv,h1,h2,h3,fun i hi=>?_⟩;obtain⟨b,o,hx,e⟩:=h4 i hi;have e:=fun j u hj hu=>e j u hj ((xU es i j hi hj).trans hu);exact⟨b,o,hx,e 0 _ (by decide) rfl,e 1 _ (by decide) rfl,e 2 _ (by decide) rfl,e 3 _ (by decide) rfl,e 4 _ (by decide) rfl⟩
def cP(e:Po):List Value:=[.int .i64 e.id, .int .i64 e.up, .int .i64 e.a, .int .i64 e.l, .int .i64 e.mn, .int .i64 e.mx, .int .i64 e.us, .int .i64 e.co, .slice e.x e.n e.c]
def flatP(es:List Po):List Value:=es.flatMap cP
theorem I1(e:Po):(cP e).length=9:=rfl
theorem eW:∀es:List Po,(flatP es).length=es.length*9:=lS I1
theorem MV(es fs:List Po):flatP (es++fs)=flatP es++flatP fs:=by simp[flatP]
theorem kW:∀(es:List Po) (i j:Nat),i<es.length->j<9->(flatP es)[i*9+j]?=(cP (poAt es i))[j]?:=qZ I1 YX
theorem tE(es:List Po):∀u∈flatP es,u.oneCell'=true:=fun u hu=>by
 obtain⟨e, -,hu⟩:=List.mem_flatMap.1 hu;simp only[cP,List.mem_cons,List.not_mem_nil,or_false]at hu;rcases hu with rfl|rfl|rfl|rfl|rfl|rfl|rfl|rfl|rfl<;>rfl
def eJ(w:World)(base:Nat)(v:Value)(es:List Po):Prop:=w.ownsRow base 64 9 v es.length (flatP es)
theorem eJ.later{es:List Po}(h:eJ w base v es)(hb:Below w.heap.size w w'):eJ w' base v es:=cW h hb
theorem eJ.kept{es:List Po}(h:eJ w base v es)(hg:w.grownBy w' (some g))(hne:∀k,v.ownBlock=some k->k≠g):eJ w' base v es:=fD h hg hne
theorem eJ.low{es:List Po}(h:eJ w base v es)(hb:base'<=base):eJ w base' v es:=iE h hb
theorem eJ.lt{es:List Po}(h:eJ w base v es):∀k,v.ownBlock=some k->base<=k/\k<w.heap.size:=World.ownsRow.lt h
theorem eJ.ne{es:List Po}{t:TypeId}(h:eJ w base v es)(hb:w.heap[b]?=some (.cells cs t fr))(ht:t≠64):v.ownBlock≠some b:=jC h hb ht
theorem aCa:Ty 64 22 9 (.agg #[.int .i64 0, .int .i64 0, .int .i64 0, .int .i64 0, .int .i64 0, .int .i64 0, .int .i64 0, .int .i64 0, .slice none 0 0]) 88:=qY (by kernel_rfl) (by kernel_rfl) rfl (tE [YX]) (by decide) (by decide)
theorem kS.flat_cells{es:List Po}(h:kS w (some ad) n es):∀j u,(flatP es)[j]?=some u->w.cell? (ad.add j)=some u:=
 jB (by decide) I1 YX h.len fun i hi=>by
  obtain⟨b,o,hx,d0,d1,d2,d3,d4,d5,d6,d7,d8⟩:=h.cells i hi;exact⟨b,o,hx,by rintro(_|_|_|_|_|_|_|_|_|q) u hu<;>first|(cases hu;assumption)|simp[cP]at hu⟩
theorem kS.rw{es:List Po}(h:kS w x n es):Rw w x n 9 (flatP es):=
 ⟨by rw[eW,h.len],fun h0 e=>(by obtain⟨b,o,hx, -⟩:=h.cells 0 h0;rw[e]at hx;cases hx),tE es,fun ad hx=>by subst hx;exact h.flat_cells⟩
theorem eJ.mem{es:List Po}(h:eJ w base v es):∃x c,v= .slice x es.length c/\es.length<=c/\c<=9223372036854775807/\(x=none->es.length=0/\c=0)/\∀i,i<es.length->∃b o,x=some ⟨b,o,none⟩/\w.cell? ⟨b,o+i*9,none⟩=some (.int .i64 (poAt es i).id)/\w.cell? ⟨b,o+i*9+1,none⟩=some (.int .i64 (poAt es i).up)/\w.cell? ⟨b,o+i*9+2,none⟩=some (.int .i64 (poAt es i).a)/\w.cell? ⟨b,o+i*9+3,none⟩=some (.int .i64 (poAt es i).l)/\w.cell? ⟨b,o+i*9+4,none⟩=some (.int .i64 (poAt es i).mn)/\w.cell? ⟨b,o+i*9+5,none⟩=some (.int .i64 (poAt es i).mx)/\w.cell? ⟨b,o+i*9+6,none⟩=some (.int .i64 (poAt es i).us)/\w.cell? ⟨b,o+i*9+7,none⟩=some (.int .i64 (poAt es i).co)/\w.cell? ⟨b,o+i*9+8,none⟩=some (.slice (poAt es i).x (poAt es i).n (poAt es i).c):=by
 obtain⟨x,c,hv,h1,h2,h3,h4⟩:=jU h;refine⟨x,c,hv,h1,h2,h3,fun i hi=>?_⟩;obtain⟨b,o,hx,e⟩:=h4 i hi;have e:=fun j u hj hu=>e j u hj ((kW es i j hi hj).trans hu);exact⟨b,o,hx,e 0 _ (by decide) rfl,e 1 _ (by decide) rfl,e 2 _ (by decide) rfl,e 3 _ (by decide) rfl,e 4 _ (by decide) rfl,e 5 _ (by decide) rfl,e 6 _ (by decide) rfl,e 7 _ (by decide) rfl,e 8 _ (by decide) rfl⟩
theorem I2(x:Option Addr)(n c:Nat)(es:List Le)(w:World)(hl:LS w x n es)(hn:n<=1048576):
  Calls Tryz.prog 178 #[.slice x n c] w fun e w'=>∃v,e= .returned v/\dL w' w.heap.size v es/\Below w.heap.size w w':=by
 obtain rfl:=hl.len;exact nJ.1 _ _ Y2 x _ c _ w hl.rw hn
theorem I3(x:Option Addr)(n c:Nat)(es:List Po)(w:World)(hl:kS w x n es)(hn:n<=1048576):
  Calls Tryz.prog 177 #[.slice x n c] w fun e w'=>∃v,e= .returned v/\eJ w' w.heap.size v es/\Below w.heap.size w w':=by
 obtain rfl:=hl.len;exact nJ.2.1 _ _ aCa x _ c _ w hl.rw hn
def bM(p:Po)(x:Option Addr)(n c:Nat)(ls:List Le):Po:=⟨p.id,p.up,p.a,p.l,p.mn,p.mx,p.us,p.co,x,n,c,ls⟩
theorem eK(hi:i<ps.length):poAt (ps.set i p) j=if i=j then p else poAt ps j:=by
 unfold poAt;rw[zF,zF,List.getElem?_set];by_cases h:i=j
 ·subst h;rw[if_pos rfl,if_pos rfl,if_pos hi];rfl
 ·rw[if_neg h,if_neg h]
theorem MW(ps:List Po)(i:Nat)(x:Option Addr)(n c:Nat)(ls:List Le)(hi:i<ps.length):(flatP ps).set (i*9+8) (.slice x n c)=flatP (ps.set i (bM (poAt ps i) x n c ls)):=by
 refine List.ext_getElem? fun j=>?_;by_cases hj:j<ps.length*9
 ·have e:j=(j/9)*9+j%9:=by omega
  have hq:j/9<ps.length:=by omega
  rw[e,kW _ _ _ (by rw[List.length_set];exact hq) (by omega),eK hi,List.getElem?_set];by_cases h1:i=j/9
  ·rw[if_pos h1];by_cases h2:j%9=8
   ·rw[if_pos (by omega),if_pos (by rw[eW];omega),h2];rfl
   ·rw[if_neg (by omega),kW _ _ _ hq (by omega),h1];have h3:j%9<8:=by omega
    generalize j%9=r at h3;rcases r with _|_|_|_|_|_|_|_|r
    all_goals first|rfl|omega
  ·rw[if_neg h1,if_neg (by omega),kW _ _ _ hq (by omega)]
 ·rw[List.getElem?_eq_none (by rw[List.length_set,eW];omega),List.getElem?_eq_none (by rw[eW,List.length_set];omega)]
theorem eJ.set(h:eJ w base (.slice (some ⟨g,0,none⟩) n cap) ps)(i:Nat)(hi:i<ps.length)(x:Option Addr)(m c:Nat)(ls:List Le):
  eJ (w.setCell ⟨g,i*9+8,none⟩ (.slice x m c)) base (.slice (some ⟨g,0,none⟩) n cap) (ps.set i (bM (poAt ps i) x m c ls)):=by
 rcases h.2 with ⟨hv, -⟩|⟨g',cap',cur,hv,h1,h2,h3,h4,h5,h6⟩
 ·simp at hv
 ·simp only[Value.slice.injEq,Option.some.injEq,Addr.mk.injEq]at hv;obtain⟨⟨rfl, -⟩,rfl,rfl⟩:=hv;refine⟨eW _, .inr ⟨g,cap,cur.setIfInBounds (i*9+8) (.slice x m c),by rw[List.length_set],h1,heap_setCell_same w g _ _ _ _ h2,by rw[List.length_set];exact h3,h4,by simpa using h5,?_⟩⟩;rw[List.length_set,Array.toList_setIfInBounds,List.take_set,h6,MW ps i x m c ls hi]
theorem aN(w:World)(g o:Nat)(v:Value):w.grownBy (w.setCell ⟨g,o,none⟩ v) (some g):=by
 refine⟨rfl,rfl,rfl,by simp,fun k _ hne=>zB (fun e=>hne (by rw[e]))⟩
theorem eJ.frozen(h:eJ w base (.slice (some ⟨g,0,none⟩) n cap) ps)(i:Nat):w.frozen? ⟨g,i,none⟩=false:=lT h i
theorem dL.ls(h:dL w base (.slice x n c) es):LS w x n es/\es.length=n/\n<=c/\c<=9223372036854775807:=by
 obtain⟨x',c',hv,h1,h2, -,h4⟩:=h.mem;simp only[Value.slice.injEq]at hv;obtain⟨rfl,rfl,rfl⟩:=hv;exact⟨⟨rfl,h4⟩,rfl,h1,h2⟩
structure eT(w:World)(base:Nat)(v:Value)(ps:List Po)(k:Nat):Prop where
 row:eJ w base v ps
 own:∀i,i<k->dL w base (.slice (poAt ps i).x (poAt ps i).n (poAt ps i).c) (poAt ps i).ls
 rest:∀i,k<=i->i<ps.length->LS w (poAt ps i).x (poAt ps i).n (poAt ps i).ls/\(poAt ps i).n<=(poAt ps i).c/\(poAt ps i).n<=1048576/\(∀q,(poAt ps i).x=some q->0<(poAt ps i).n->q.block<base)
 apart:∀i j,i<k->j<k->i≠j->∀b,(Value.slice (poAt ps i).x (poAt ps i).n (poAt ps i).c).ownBlock=some b->(Value.slice (poAt ps j).x (poAt ps j).n (poAt ps j).c).ownBlock≠some b
def rJ(p q:Po):Prop:=p.id=q.id/\p.up=q.up/\p.a=q.a/\p.l=q.l/\p.mn=q.mn/\p.mx=q.mx/\p.us=q.us/\p.co=q.co/\p.n=q.n/\p.ls=q.ls
def eC(ps qs:List Po):Prop:=ps.length=qs.length/\∀i,i<ps.length->rJ (poAt ps i) (poAt qs i)
theorem rJ.refl(p:Po):rJ p p:=⟨rfl,rfl,rfl,rfl,rfl,rfl,rfl,rfl,rfl,rfl⟩
theorem eC.refl(ps:List Po):eC ps ps:=⟨rfl,fun _ _=>rJ.refl _⟩
theorem eT.bk(h:eT w base v ps ps.length)(hs:∀i,i<ps.length->(poAt ps i).n<=1048576):∃x c,v= .slice x ps.length c/\Bk w x ps.length c ps:=by
 obtain⟨x,c,hv,h1,h2,h3,h4⟩:=h.row.mem;exact⟨x,c,hv,⟨rfl,h4,fun i hi=>by
  obtain⟨g1,g2,g3, -⟩:=(h.own i hi).ls;exact⟨g3,hs i hi,g1⟩⟩,h1,h2⟩
theorem eT.later(h:eT w base v ps k)(hb:Below w.heap.size w w'):eT w' base v ps k:=
 ⟨h.row.later hb,fun i hi=>(h.own i hi).later hb,fun i hi hi2=>by
  obtain⟨g1,g2⟩:=h.rest i hi hi2;exact⟨g1.later hb,g2⟩,h.apart⟩
abbrev lP(t:Int)(v:Value):Obj:= .cells #[.int .i64 t,v] 24
theorem U9(h:V.heap[b]?=some (lP t v)):((V.setCell ⟨b,0,none⟩ (.int .i64 t')).setCell ⟨b,1,none⟩ v').heap[b]?=some (lP t' v'):=by
 have h1:=heap_setCell_same V b 0 _ 24 (.int .i64 t') h;have h2:=heap_setCell_same _ b 1 _ 24 v' h1;simpa using h2
def MX(t:Int)(ps:List Po)(w:World)(e:Ending)(w':World):Prop:=
 ∃v qs,e= .returned (.agg #[.int .i64 t,v])/\eC ps qs/\eT w' w.heap.size v qs qs.length/\Below w.heap.size w w'
theorem eT.start{base x n c v ps}(hk:Bk w x n c ps)(hb:Below w.heap.size w w')(h:eJ w' base v ps)(hw2:w.heap.size<=base):eT w' base v ps 0 where
 row:=h
 own:=fun i hi=>by omega
 rest:=fun i _ hi=>by
  obtain⟨g1,g2,g3⟩:=hk.ps.leases i (by rw[<-hk.ps.len];exact hi);refine⟨g3.later hb,g1,g2,fun q hq h0=>?_⟩;obtain⟨b,o,hx,c0, -⟩:=g3.cells 0 h0;rw[hq]at hx
  cases hx;exact Nat.lt_of_lt_of_le (block_lt_of_cell c0) hw2
 apart:=fun i j hi=>by omega
theorem LS.set{ls:List Le}(h:LS w x n ls)(hx:∀q,x=some q->0<n->q.block≠g):LS (w.setCell ⟨g,o,none⟩ v) x n ls where
 len:=h.len
 cells:=fun i hi=>by
  obtain⟨b,of,he,c0,c1,c2,c3,c4⟩:=h.cells i hi;have hne:b≠g:=hx _ he (by omega);exact⟨b,of,he,(bA hne).trans c0,(bA hne).trans c1,(bA hne).trans c2,(bA hne).trans c3,(bA hne).trans c4⟩
theorem eJ.block(h:eJ w base (.slice (some ⟨g,0,none⟩) n cap) ps):base<=g/\∃cur,w.heap[g]?=some (.cells cur 64):=rA h
theorem eT.step(h:eT W base (.slice (some ⟨g,0,none⟩) n cap) qs k)(hk:k<qs.length)(hb:Below W.heap.size W W1)(ho:dL W1 W.heap.size (.slice x' (poAt qs k).ls.length c') (poAt qs k).ls)(hwb:base<=W.heap.size):
  eT (W1.setCell ⟨g,k*9+8,none⟩ (.slice x' (poAt qs k).ls.length c')) base (.slice (some ⟨g,0,none⟩) n cap) (qs.set k (bM (poAt qs k) x' (poAt qs k).ls.length c' (poAt qs k).ls)) (k+1):=by
 have hr:=h.row.later hb;obtain⟨hbg,cur,hg⟩:=hr.block;have hall:∀i,i<k+1->dL W1 base (.slice (poAt (qs.set k (bM (poAt qs k) x' (poAt qs k).ls.length c' (poAt qs k).ls)) i).x (poAt (qs.set k (bM (poAt qs k) x' (poAt qs k).ls.length c' (poAt qs k).ls)) i).n (poAt (qs.set k (bM (poAt qs k) x' (poAt qs k).ls.length c' (poAt qs k).ls)) i).c) (poAt (qs.set k (bM (poAt qs k) x' (poAt qs k).ls.length c' (poAt qs k).ls)) i).ls:=fun i hi=>by
  rw[eK hk];by_cases e:k=i
  ·rw[if_pos e];exact ho.low hwb
  ·rw[if_neg e];exact(h.own i (by omega)).later hb
 refine⟨hr.set k hk x' _ c' _,fun i hi=>(hall i hi).kept (aN _ _ _ _) (fun q hq e=>by subst e;exact(hall i hi).ne hg (by decide) hq),fun i hi hi2=>?_,fun i j hi hj hij b hbi hbj=>?_⟩
 ·rw[List.length_set]at hi2;rw[eK hk,if_neg (by omega)];obtain⟨g1,g2,g3,g4⟩:=h.rest i (by omega) hi2;exact⟨(g1.later hb).set (fun q hq h0=>by have:=g4 q hq h0;omega),g2,g3,g4⟩
 ·rw[eK hk]at hbi hbj;by_cases e:k=i
  ·rw[if_pos e]at hbi;rw[if_neg (by omega)]at hbj;have h1:=ho.lt b hbi;have h2:=(h.own j (by omega)).lt b hbj;omega
  ·rw[if_neg e]at hbi;by_cases e2:k=j
   ·rw[if_pos e2]at hbj;have h1:=ho.lt b hbj;have h2:=(h.own i (by omega)).lt b hbi;omega
   ·rw[if_neg e2]at hbj;exact h.apart i j (by omega) (by omega) hij b hbi hbj
theorem eT.low(h:eT w base v ps ps.length)(hb:base'<=base):eT w base' v ps ps.length:=
 ⟨h.row.low hb,fun i hi=>(h.own i hi).low hb,fun i hi hi2=>by omega,h.apart⟩
theorem eT.put(h:eT w base v ps ps.length)(hb:b<base):eT (w.setCell ⟨b,o,none⟩ u) base v ps ps.length:=
 ⟨h.row.kept (aN _ _ _ _) (fun k hk=>by have:=h.row.lt k hk;omega),fun i hi=>(h.own i hi).kept (aN _ _ _ _) (fun k hk=>by have:=(h.own i hi).lt k hk;omega),fun i hi hi2=>by omega,h.apart⟩
theorem eC.set(h:eC ps qs)(hk:k<qs.length)(hn:(poAt qs k).ls.length=(poAt qs k).n):eC ps (qs.set k (bM (poAt qs k) x (poAt qs k).ls.length c (poAt qs k).ls)):=by
 refine⟨by rw[List.length_set];exact h.1,fun i hi=>?_⟩;have hs:=h.2 i hi;rw[eK hk];by_cases e:k=i
 ·subst e;rw[if_pos rfl];obtain⟨a1,a2,a3,a4,a5,a6,a7,a8,a9,a10⟩:=hs;exact⟨a1,a2,a3,a4,a5,a6,a7,a8,a9.trans hn.symm,a10⟩
 ·rw[if_neg e];exact hs
theorem gJ(t:Int)(x:Option Addr)(n c:Nat)(ps:List Po)(w:World)(hk:Bk w x n c ps)(hn:n<=64):
  Calls Tryz.prog 139 #[.agg #[.int .i64 t, .slice x n c]] w (MX t ps w):=by
 have hpl:Hid (ps.length=n):=hk.ps.len;go_enter Tryz.func139,Tryz.ntmps139;go_upto_region 1 with fail
 obtain⟨w0,hw0⟩:∃w0,w0=(w.alloc (lP t (.slice x n c))).alloc (lP 0 (.slice none 0 0)):=⟨_,rfl⟩;rw[<-hw0];have hB0:Below w.heap.size w w0:=by rw[hw0];exact bP w _ _
 have hb0:w0.heap[w.heap.size]?=some (lP t (.slice x n c)):=by rw[hw0];exact aH _ (aB _ rfl)
 have hr0:w0.heap[w.heap.size+1]?=some (lP 0 (.slice none 0 0)):=by rw[hw0];exact aB _ (by simp)
 clear hw0;have hsz:w.heap.size+1<w0.heap.size:=(zG hr0);obtain⟨kb, -⟩:=aD hb0;have k0:w0.cell? ⟨w.heap.size,0,none⟩=some (.int .i64 t):=kb 0;have k1:w0.cell? ⟨w.heap.size,1,none⟩=some (.slice x n c):=kb 1;clear kb;have hcl:=fun W h=>I3 x n c ps W h (by omega);go_cut [3] (fun p wc=>∃nb v,p= .pointer (some ⟨nb,0,none⟩)/\w0.heap.size<=nb/\eJ wc w0.heap.size v ps/\wc.heap[nb]?=some (lP t v)/\Below w0.heap.size w0 wc)
 case first=>
  go_region_held3 (fun w'=>w'.cell? ⟨w.heap.size,0,none⟩=some (.int .i64 t)/\w'.cell? ⟨w.heap.size,1,none⟩=some (.slice x n c)) (first|(exact⟨(aF hb1 (by first|exact k0|exact aF (bl1 _ _).drew k0)),(aF hb1 (by first|exact k1|exact aF (bl1 _ _).drew k1))⟩)|(exact⟨aF (bl1 _ _) (aF hb1 (by first|exact k0|exact aF (bl1 _ _).drew k0)),aF (bl1 _ _) (aF hb1 (by first|exact k1|exact aF (bl1 _ _).drew k1))⟩)|(exact⟨aF (bl1 _ _) k0,aF (bl1 _ _) k1⟩)|(exact⟨((bA (by omega)).trans ((bA (by omega)).trans (aF hb1 (by first|exact k0|exact aF (bl1 _ _).drew k0)))),((bA (by omega)).trans ((bA (by omega)).trans (aF hb1 (by first|exact k1|exact aF (bl1 _ _).drew k1))))⟩)|(go_keep;done)) (first|(go_at_call 177;refine(hcl _ (by first|exact hk.ps.later hB0.drew|exact hk.ps.later ((hB0.drew.alloc hB0.size _))|exact hk.ps.later ((hB0.alloc hB0.size _).drew))).mono ?_;rintro e w1 ⟨v1,rfl,hO1,hb1⟩;obtain⟨x1,c1,rfl,h11,h12,h13,h14⟩:=hO1.mem;try(have hx:w1.heap[w0.heap.size]?=some (lP 0 (.slice none 0 0)):=aA hb1 (aB (W:=w0) _ rfl);have q0:w1.cell? ⟨w0.heap.size,0,none⟩=some (.int .i64 0):=(aD hx).1 0;have q1:w1.cell? ⟨w0.heap.size,1,none⟩=some (.slice none 0 0):=(aD hx).1 1;have f0:=(aD hx).2 0;have f1:=(aD hx).2 1))|fail)
  all_goals go_wp2
  all_goals go_meet
  case rel=>exact⟨_,_,rfl,hb1.size,hO1.later (bl1 _ _),aB _ rfl,Below.alloc (B:=w0.heap.size) (a:=w0) ⟨hb1.os,hb1.tape,hb1.output,hb1.size,hb1.block⟩ hb1.size _⟩
  have hs1:w0.heap.size+1<=w1.heap.size:=by have:=hb1.size;simpa using this
  case rel=>exact⟨_,_,rfl,zE,eJ.low (base:=w0.heap.size+1) ((eJ.kept (base:=w0.heap.size+1) (by simpa using hO1) (aN _ _ _ _) (fun q hq e=>by subst e;exact hO1.ne hx (by decide) hq)).kept (aN _ _ _ _) (fun q hq e=>by subst e;exact hO1.ne hx (by decide) hq)) (by omega),U9 hx,((Below.trans (bl1 w0 (lP 0 (.slice none 0 0))) (Below.mono (B:=w0.heap.size+1) ⟨hb1.os,hb1.tape,hb1.output,hb1.size,fun k hk=>hb1.block k (by simpa using hk)⟩ (by omega))).setCell (zE) _).setCell (zE) _⟩
 case rest=>
  obtain⟨nb,v,rfl,hnb,hO,hbx,hBc⟩:=hcut
  have hk0:eT wc w0.heap.size v ps 0:=eT.start hk (hB0.trans (hBc.mono hB0.size)) hO hB0.size
  obtain⟨xv,cv,rfl,hv1,hv2,hv3,hv4⟩:=hO.mem
  have e1:=aO hbx 1 rfl
  go_wp2
  clear e1
  go_loopw [14] (fun i wr=>∃(q:Nat) (qs:List Po),q<=ps.length/\i= .int .i64 q/\eC ps qs/\eT wr w0.heap.size (.slice xv ps.length cv) qs q/\wr.heap[nb]?=some (lP t (.slice xv ps.length cv))/\Below w0.heap.size w0 wr) (fun i _=>ps.length- (intOf i).toNat)
  case atStart=>exact⟨0,ps,by omega,rfl,eC.refl _,hk0,hbx,hBc⟩
  case round=>
   obtain⟨q,qs,hq,rfl,hs,hQ,hbr,hBr⟩:=hrel
   obtain⟨e0,e1⟩:=aZ hbr rfl rfl
   by_cases hlt:q<ps.length
   ·have hlq:q<qs.length:=by rw[<-hs.1];exact hlt
    have hlt':=hlt;obtain⟨x2,c2,he2, -, -, -,hm⟩:=hQ.row.mem;simp only[Value.slice.injEq]at he2;obtain⟨rfl, -,rfl⟩:=he2;obtain⟨b2,o2,he3, -, -, -, -, -, -, -, -,c8⟩:=hm q hlq;rcases hQ.row.2 with ⟨hv, -⟩|⟨g,cap,cur,hv,hg1,hg2, -⟩
    ·rw[he3]at hv;simp at hv
    simp only[Value.slice.injEq]at hv;obtain⟨hx3, -,rfl⟩:=hv;rw[hx3]at he3;simp only[Option.some.injEq,Addr.mk.injEq]at he3;obtain⟨rfl,rfl, -⟩:=he3;subst hx3;obtain⟨hLS,hnc,hnb2, -⟩:=hQ.rest q (zE) hlq;have hcl:=fun W h=>I2 (poAt qs q).x (poAt qs q).n (poAt qs q).c (poAt qs q).ls W h hnb2;have hfz:=fun j=>hQ.row.frozen j;go_wp2_with fail;have c8':wr.cell? ⟨g,q*9+8,none⟩=some (.slice (poAt qs q).x (poAt qs q).n (poAt qs q).c):=by simpa using c8
    go_region_with (go_at_call 178;refine(hcl _ (by first|exact hLS|exact hLS.later (zD).drew)).mono ?_;rintro e w1 ⟨v1,rfl,hO1,hb1⟩;obtain⟨x1,c1,rfl,h11,h12,h13,h14⟩:=hO1.mem;have hb2:Below wr.heap.size wr w1:=⟨hb1.os,hb1.tape,hb1.output,hb1.size,hb1.block⟩;have d1:=aF hb2 e1;have d8:=aF hb2 c8';have df:w1.frozen? ⟨g,q*9+8,none⟩=false:=(hQ.row.later hb2).frozen _)
    all_goals have hne:nb≠g:=fun e=>by rw[e]at hbr;rw[hbr]at hg2;simp at hg2
    all_goals have hst:=hQ.step (x':=x1) (c':=c1) hlq hb2 hO1 hBr.size
    all_goals have hh:(w1.setCell ⟨g,q*9+8,none⟩ (.slice x1 (poAt qs q).ls.length c1)).heap[nb]?=some (lP t (.slice (some ⟨g,0,none⟩) ps.length cv)):=(zB hne).trans (aA hb2 hbr)
    all_goals have hB3:=(hBr.trans (hb2.mono hBr.size)).setCell (p:=⟨g,q*9+8,none⟩) hg1 (.slice x1 (poAt qs q).ls.length c1)
    all_goals clear d1 d8 df
    all_goals go_wp2
    all_goals go_roundw
    all_goals first|exact⟨q+1,_,hlt',by go_num,hs.set hlq hLS.len,hst,hh,hB3⟩|(simp[intOf];omega)
   ·obtain rfl:q=ps.length:=by omega
    have hrr:wr.heap[w.heap.size+1]?=some (lP 0 (.slice none 0 0)):=(hBr.block _ hsz).trans hr0;obtain⟨r0,r1⟩:=aZ hrr rfl rfl;obtain⟨z0,z1⟩:=eA hrr;go_wp2;refine bodyPost_ret (v:= .agg #[.int .i64 t, .slice xv ps.length cv]) (by simp[results,Tryz.results139,go_sem,r0,r1]) rfl ?_;have hQ2:eT wr w0.heap.size (.slice xv ps.length cv) qs qs.length:=by rw[<-hs.1];exact hQ
    exact⟨_,qs,rfl,hs,((hQ2.put hsz).put hsz).low hB0.size,((hB0.trans (hBr.mono hB0.size)).setCell (by simp) _).setCell (by simp) _⟩
theorem DT(p r:Le)(v:Int)(hv:FC p.a r.a v)(bb kk:Nat)(w:World)(hby:w.cell? ⟨bb,0,none⟩=some (.func (.func 236) #[] #[])):
  Calls Tryz.prog 271 #[.agg #[.int .i64 p.a, .int .i64 p.l, .int .i64 p.kd, .int .i64 p.ow, .int .i64 p.un], .agg #[.int .i64 r.a, .int .i64 r.l, .int .i64 r.kd, .int .i64 r.ow, .int .i64 r.un], .slice (some ⟨bb,0,none⟩) 1 kk] w fun e w'=>e= .returned (.int .i64 v)/\Below w.heap.size w w':=MU.1 bys.1 p r v hv bb kk w hby
def QN(e:Le)(n:Nat)(ps:List Le)(w:World)(r:Ending)(w':World):Prop:=
 ∃v,r= .returned v/\Below w.heap.size w w'/\∃i,i<=n/\(∀j,j<i->¬e.a<(leAt ps j).a)/\(i<n->e.a<(leAt ps i).a)/\dL w' w.heap.size v (ps.take i++[e]++ps.drop i)
theorem QO(e:Le)(x:Option Addr)(n c:Nat)(ps:List Le)(bf k:Nat)(w:World)(hp:LS w x n ps)(hn:n<=32)(hnc:n<=c)(hc63:c<=9223372036854775807)(hx:(x=none/\c=0)\/∃b o,x=some ⟨b,o,none⟩)
 (hby:w.cell? ⟨bf,0,none⟩=some (.func (.func 236) #[] #[])):
  Calls Tryz.prog 235 #[.slice x n c, .agg #[.int .i64 e.a, .int .i64 e.l, .int .i64 e.kd, .int .i64 e.ow, .int .i64 e.un], .slice (some ⟨bf,0,none⟩) 1 k] w (QN e n ps w):=by
 have hB2:=bP w (.cells #[.int .i64 e.a, .int .i64 e.l, .int .i64 e.kd, .int .i64 e.ow, .int .i64 e.un] 55) (.cells #[.slice (some ⟨bf,0,none⟩) 1 k] 320);refine(IV.1 _ _ Y2 e x n c bf 1 k (flatL ps) (fun i=>decide (e.a<(leAt ps i).a)) w hp.rw (oM [e]) hn hnc hc63 hx (gX _ _ x n c ps _ _ (hp.later hB2) (by omega) (fun i hi W hW=>?_) jW.1.2)).mono ?_
 ·obtain⟨v,hv,hd⟩:=sY e.a (leAt ps i).a;exact(jW.1.1 e (leAt ps i) v w.heap.size (w.heap.size+1) bf 1 k W (fun i=>(hW.cell (p:=⟨w.heap.size,i,none⟩) (by show w.heap.size<_;simp;omega)).trans (by simp)) (cell_later hW (by simp)) fun W9 h9=>DT e _ v hv bf k W9 (cell_later h9 (cell_later hW (cell_later hB2 hby)))).mono fun _ _ h=>⟨h.1.trans (congrArg (fun t=>Ending.returned (.bool t)) hd.symm),h.2⟩
 ·rintro r w1 ⟨v,rfl,hb,i,hi,hlow,hup,ho⟩;exact⟨v,rfl,hb,i,hi,fun j hj=>of_decide_eq_false (hlow j hj),fun h=>of_decide_eq_true (hup h),lU flatL iP CA hp.len hi ho⟩
def uY(p:Po)(z:Int):Option Int:=if p.n=32 then none else wA p.a p.l p.n (lp p.ls) z
def mR(p:Po)(z:Int):Int:=if z<p.mn\/p.mx<z then 7 else match uY p z with
 |none=>8
 |some _=>0
def jY(p:Po)(z:Int):Int×Int:=if z<p.mn\/p.mx<z then(0,0)else match uY p z with
 |none=>(0,0)
 |some x=>(x,z)
def F3(p:Po)(z:Int)(w:World)(e:Ending)(w':World):Prop:=
 e= .returned (.tuple #[.agg #[.int .i64 (jY p z).1, .int .i64 (jY p z).2], .int .i64 (mR p z)])/\Below w.heap.size w w'
theorem QP(p:Po)(z:Int)(w:World)(hp:LS w p.x p.n p.ls)(hn:p.n<=1048576):
  Calls Tryz.prog 234 #[.agg #[.int .i64 p.id, .int .i64 p.up, .int .i64 p.a, .int .i64 p.l, .int .i64 p.mn, .int .i64 p.mx, .int .i64 p.us, .int .i64 p.co, .slice p.x p.n p.c], .int .i64 z] w (F3 p z w):=by
 obtain⟨id,up,a,l,mn,mx,us,co,x,n,c,ls⟩:=p;simp only at hp hn⊢;have hB:=bP w (.cells #[.int .i64 id, .int .i64 up, .int .i64 a, .int .i64 l, .int .i64 mn, .int .i64 mx, .int .i64 us, .int .i64 co, .slice x n c] 64) (.cells #[.int .i64 0, .int .i64 0] 53);by_cases hz:z<mn\/mx<z
 ·have he:mR ⟨id,up,a,l,mn,mx,us,co,x,n,c,ls⟩ z=7:=if_pos hz;have ho:jY ⟨id,up,a,l,mn,mx,us,co,x,n,c,ls⟩ z=(0,0):=if_pos hz;by_cases h1:z<mn
  ·go_enter Tryz.func234,Tryz.ntmps234;go_wp2;refine bodyPost_ret (v:= .tuple #[.agg #[.int .i64 0, .int .i64 0], .int .i64 7]) (by simp[results,Tryz.results234,go_sem]) rfl ⟨by rw[he,ho],?_⟩;first|exact(hB.setCell (p:=⟨w.heap.size+1,0,none⟩) (Nat.le_succ _) _).setCell (p:=⟨w.heap.size+1,1,none⟩) (Nat.le_succ _) _|exact hB
  ·have h2:mx<z:=by omega
   go_enter Tryz.func234,Tryz.ntmps234;go_wp2;refine bodyPost_ret (v:= .tuple #[.agg #[.int .i64 0, .int .i64 0], .int .i64 7]) (by simp[results,Tryz.results234,go_sem]) rfl ⟨by rw[he,ho],?_⟩;first|exact(hB.setCell (p:=⟨w.heap.size+1,0,none⟩) (Nat.le_succ _) _).setCell (p:=⟨w.heap.size+1,1,none⟩) (Nat.le_succ _) _|exact hB
 ·have h1:¬z<mn:=fun h=>hz (.inl h);have h2:¬mx<z:=fun h=>hz (.inr h);have he:mR ⟨id,up,a,l,mn,mx,us,co,x,n,c,ls⟩ z=_:=if_neg hz;have ho:jY ⟨id,up,a,l,mn,mx,us,co,x,n,c,ls⟩ z=_:=if_neg hz;go_enter Tryz.func234,Tryz.ntmps234;go_wp2_with fail;refine(nK ⟨id,up,a,l,mn,mx,us,co,x,n,c,ls⟩ _ (hp.later hB) hn).mono ?_;rintro e w1 ⟨x1,c1,rfl,hb1,hps1⟩;go_wp2_with fail;refine(UZ a l x1 n c1 (lp ls) z w1 (fun _=>hps1)).mono ?_;rintro e w2 ⟨rfl,hb2⟩;have hB2:=hB.trans ((hb1.trans (hb2.mono hb1.size)).mono (by simp;omega));have hx8:w2.heap[w.heap.size]?=some (.cells #[.int .i64 id, .int .i64 up, .int .i64 a, .int .i64 l, .int .i64 mn, .int .i64 mx, .int .i64 us, .int .i64 co, .slice x n c] 64):=aA hb2 (aA hb1 (aH _ (aB _ rfl)));have hx9:w2.heap[w.heap.size+1]?=some (.cells #[.int .i64 0, .int .i64 0] 53):=aA hb2 (aA hb1 (aB _ (by simp)));clear hb1 hb2 hps1;have hsz:=(zG hx9)
  cases hf:wA a l n (lp ls) z with
  |none=>
   have hq:uY ⟨id,up,a,l,mn,mx,us,co,x,n,c,ls⟩ z=none:=by unfold uY;split;rfl;exact hf
   rw[hq]at he ho
   simp only[YW]
   go_upto_region 4 with fail
   obtain⟨w3,hw3⟩:∃w3,w3=w2.alloc (.cells #[.int .i64 0, .int .i64 0] 53):=⟨_,rfl⟩
   rw[<-hw3]
   have hB3:Below w.heap.size w w3:=by rw[hw3];exact hB2.alloc hB2.size _
   have hy8:w3.heap[w.heap.size]?=some (.cells #[.int .i64 id, .int .i64 up, .int .i64 a, .int .i64 l, .int .i64 mn, .int .i64 mx, .int .i64 us, .int .i64 co, .slice x n c] 64):=by rw[hw3];exact aH _ hx8
   have hy9:w3.heap[w.heap.size+1]?=some (.cells #[.int .i64 0, .int .i64 0] 53):=by rw[hw3];exact aH _ hx9
   have hyn:w3.heap[w2.heap.size]?=some (.cells #[.int .i64 0, .int .i64 0] 53):=by rw[hw3];exact aB _ rfl
   clear hw3
   have d8:=aO hy8 8 rfl
   obtain⟨r0,r1⟩:=aZ hy9 rfl rfl
   obtain⟨z0,z1⟩:=eA hy9
   obtain⟨q0,q1⟩:=aZ hyn rfl rfl
   go_wp2
   refine bodyPost_ret (v:= .tuple #[.agg #[.int .i64 0, .int .i64 0], .int .i64 8]) (by simp[results,Tryz.results234,go_sem,r0,r1]) rfl ⟨by rw[he,ho],?_⟩
   exact(hB3.setCell (p:=⟨w.heap.size+1,0,none⟩) (Nat.le_succ _) _).setCell (p:=⟨w.heap.size+1,1,none⟩) (Nat.le_succ _) _
  |some y=>
   simp only[YW]
   by_cases h32:n=32
   ·have hq:uY ⟨id,up,a,l,mn,mx,us,co,x,n,c,ls⟩ z=none:=if_pos h32;rw[hq]at he ho;subst h32;go_upto_region 4 with fail
    obtain⟨w3,hw3⟩:∃w3,w3=w2.alloc (.cells #[.int .i64 y, .int .i64 z] 53):=⟨_,rfl⟩;rw[<-hw3];have hB3:Below w.heap.size w w3:=by rw[hw3];exact hB2.alloc hB2.size _
    have hy8:w3.heap[w.heap.size]?=some (.cells #[.int .i64 id, .int .i64 up, .int .i64 a, .int .i64 l, .int .i64 mn, .int .i64 mx, .int .i64 us, .int .i64 co, .slice x 32 c] 64):=by rw[hw3];exact aH _ hx8
    have hy9:w3.heap[w.heap.size+1]?=some (.cells #[.int .i64 0, .int .i64 0] 53):=by rw[hw3];exact aH _ hx9
    have hyn:w3.heap[w2.heap.size]?=some (.cells #[.int .i64 y, .int .i64 z] 53):=by rw[hw3];exact aB _ rfl
    clear hw3;have d8:=aO hy8 8 rfl;obtain⟨r0,r1⟩:=aZ hy9 rfl rfl;obtain⟨z0,z1⟩:=eA hy9;obtain⟨q0,q1⟩:=aZ hyn rfl rfl;go_wp2;refine bodyPost_ret (v:= .tuple #[.agg #[.int .i64 0, .int .i64 0], .int .i64 8]) (by simp[results,Tryz.results234,go_sem,r0,r1]) rfl ⟨by rw[he,ho],?_⟩;exact(hB3.setCell (p:=⟨w.heap.size+1,0,none⟩) (Nat.le_succ _) _).setCell (p:=⟨w.heap.size+1,1,none⟩) (Nat.le_succ _) _
   ·have hq:uY ⟨id,up,a,l,mn,mx,us,co,x,n,c,ls⟩ z=some y:=(if_neg h32).trans hf;rw[hq]at he ho;have h33:¬(n:Int)=32:=by omega
    go_upto_region 4 with fail
    obtain⟨w3,hw3⟩:∃w3,w3=w2.alloc (.cells #[.int .i64 y, .int .i64 z] 53):=⟨_,rfl⟩;rw[<-hw3];have hB3:Below w.heap.size w w3:=by rw[hw3];exact hB2.alloc hB2.size _
    have hy8:w3.heap[w.heap.size]?=some (.cells #[.int .i64 id, .int .i64 up, .int .i64 a, .int .i64 l, .int .i64 mn, .int .i64 mx, .int .i64 us, .int .i64 co, .slice x n c] 64):=by rw[hw3];exact aH _ hx8
    have hy9:w3.heap[w.heap.size+1]?=some (.cells #[.int .i64 0, .int .i64 0] 53):=by rw[hw3];exact aH _ hx9
    have hyn:w3.heap[w2.heap.size]?=some (.cells #[.int .i64 y, .int .i64 z] 53):=by rw[hw3];exact aB _ rfl
    clear hw3;have d8:=aO hy8 8 rfl;obtain⟨r0,r1⟩:=aZ hy9 rfl rfl;obtain⟨z0,z1⟩:=eA hy9;obtain⟨q0,q1⟩:=aZ hyn rfl rfl;go_wp2;refine bodyPost_ret (v:= .tuple #[.agg #[.int .i64 y, .int .i64 z], .int .i64 0]) (by simp[results,Tryz.results234,go_sem,r0,r1]) rfl ⟨by rw[he,ho],?_⟩;exact(hB3.setCell (p:=⟨w.heap.size+1,0,none⟩) (Nat.le_succ _) _).setCell (p:=⟨w.heap.size+1,1,none⟩) (Nat.le_succ _) _
theorem eT.swap{m:Nat}{ls:List Le}(h:eT W base (.slice (some ⟨g,0,none⟩) n cap) qs qs.length)(hk:i<qs.length)(hb:Below W.heap.size W W1)(ho:dL W1 W.heap.size (.slice x' m c') ls)(hwb:base<=W.heap.size):
  eT (W1.setCell ⟨g,i*9+8,none⟩ (.slice x' m c')) base (.slice (some ⟨g,0,none⟩) n cap) (qs.set i (bM (poAt qs i) x' m c' ls)) (qs.set i (bM (poAt qs i) x' m c' ls)).length:=by
 have hr:=h.row.later hb;obtain⟨hbg,cur,hg⟩:=hr.block;have hall:∀j,j<qs.length->dL W1 base (.slice (poAt (qs.set i (bM (poAt qs i) x' m c' ls)) j).x (poAt (qs.set i (bM (poAt qs i) x' m c' ls)) j).n (poAt (qs.set i (bM (poAt qs i) x' m c' ls)) j).c) (poAt (qs.set i (bM (poAt qs i) x' m c' ls)) j).ls:=fun j hj=>by
  rw[eK hk];by_cases e:i=j
  ·rw[if_pos e];exact ho.low hwb
  ·rw[if_neg e];exact(h.own j hj).later hb
 have hlen:(qs.set i (bM (poAt qs i) x' m c' ls)).length=qs.length:=List.length_set;refine⟨hr.set i hk x' _ c' _,fun j hj=>(hall j (by omega)).kept (aN _ _ _ _) (fun q hq e=>by subst e;exact(hall j (by omega)).ne hg (by decide) hq),fun j hj hj2=>by omega,fun j k hj hk2 hij b hbi hbj=>?_⟩;rw[eK hk]at hbi hbj;by_cases e:i=j
 ·rw[if_pos e]at hbi;rw[if_neg (by omega)]at hbj;have h1:=ho.lt b hbi;have h2:=(h.own k (by omega)).lt b hbj;omega
 ·rw[if_neg e]at hbi;by_cases e2:i=k
  ·rw[if_pos e2]at hbj;have h1:=ho.lt b hbj;have h2:=(h.own j (by omega)).lt b hbi;omega
  ·rw[if_neg e2]at hbj;exact h.apart j k (by omega) (by omega) hij b hbi hbj
def rK(e:Le)(ls ls':List Le):Prop:=∃i,i<=ls.length/\(∀j,j<i->¬e.a<(leAt ls j).a)/\(i<ls.length->e.a<(leAt ls i).a)/\ls'=ls.take i++[e]++ls.drop i
def VA(e:Le)(base g n cap:Nat)(qs:List Po)(i:Nat)(w:World)(r:Ending)(w':World):Prop:=
 r= .returned (.tuple #[])/\∃x' c' ls',rK e (poAt qs i).ls ls'/\eT w' base (.slice (some ⟨g,0,none⟩) n cap) (qs.set i (bM (poAt qs i) x' ls'.length c' ls')) (qs.set i (bM (poAt qs i) x' ls'.length c' ls')).length/\w.grownBy w' (some g)
theorem DU(e:Le)(base g n cap:Nat)(qs:List Po)(i:Nat)(w:World)(h:eT w base (.slice (some ⟨g,0,none⟩) n cap) qs qs.length)(hi:i<qs.length)(hn:(poAt qs i).n<=32)(hwb:base<=w.heap.size):
  Calls Tryz.prog 185 #[.pointer (some ⟨g,i*9,none⟩), .agg #[.int .i64 e.a, .int .i64 e.l, .int .i64 e.kd, .int .i64 e.ow, .int .i64 e.un]] w (VA e base g n cap qs i w):=by
 obtain⟨hbg,cur,hg⟩:=h.row.block;have hgl:g<w.heap.size:=(zG hg);obtain⟨xv,cv,he2, -, -, -,hm⟩:=h.row.mem;obtain⟨b2,o2,he3, -, -, -, -, -, -, -, -,c8⟩:=hm i hi;simp only[Value.slice.injEq]at he2;obtain⟨hx2, -, -⟩:=he2;rw[<-hx2]at he3;simp only[Option.some.injEq,Addr.mk.injEq]at he3;obtain⟨rfl,rfl, -⟩:=he3;clear hx2 hm;have hO:=h.own i hi;obtain⟨hLS,hll,hnc,hc63⟩:=hO.ls;have hx:((poAt qs i).x=none/\(poAt qs i).c=0)\/∃b o,(poAt qs i).x=some ⟨b,o,none⟩:=by
  rcases hO.2 with ⟨hv, -⟩|⟨g2,cap2,cur2,hv, -⟩
  ·simp only[Value.slice.injEq]at hv;exact .inl ⟨hv.1,hv.2.2⟩
  ·simp only[Value.slice.injEq]at hv;exact .inr ⟨_,_,hv.1⟩
 go_enter Tryz.func185,Tryz.ntmps185;go_upto_region 1 with fail
 obtain⟨w0,hw0⟩:∃w0,w0=w.alloc (.cells #[.int .i64 e.a, .int .i64 e.l, .int .i64 e.kd, .int .i64 e.ow, .int .i64 e.un] 55):=⟨_,rfl⟩;rw[<-hw0];have hB0:Below w.heap.size w w0:=by rw[hw0];exact bl1 w _
 have hb0:w0.heap[w.heap.size]?=some (.cells #[.int .i64 e.a, .int .i64 e.l, .int .i64 e.kd, .int .i64 e.ow, .int .i64 e.un] 55):=by rw[hw0];exact aB _ rfl
 clear hw0;have c8':w.cell? ⟨g,i*9+8,none⟩=some (.slice (poAt qs i).x (poAt qs i).n (poAt qs i).c):=by simpa using c8
 have d8:w0.cell? ⟨g,i*9+8,none⟩=some (.slice (poAt qs i).x (poAt qs i).n (poAt qs i).c):=aF hB0 c8';have a8:∀o,(w0.alloc o).cell? ⟨g,i*9+8,none⟩=some (.slice (poAt qs i).x (poAt qs i).n (poAt qs i).c):=fun o=>aF (bl1 w0 o) d8;have d0:=aO hb0 0 rfl;have a0:∀o,(w0.alloc o).cell? ⟨w.heap.size,0,none⟩=some (.int .i64 e.a):=fun o=>aF (bl1 w0 o) d0;have d1:=aO hb0 1 rfl;have a1:∀o,(w0.alloc o).cell? ⟨w.heap.size,1,none⟩=some (.int .i64 e.l):=fun o=>aF (bl1 w0 o) d1;have d2:=aO hb0 2 rfl;have a2:∀o,(w0.alloc o).cell? ⟨w.heap.size,2,none⟩=some (.int .i64 e.kd):=fun o=>aF (bl1 w0 o) d2;have d3:=aO hb0 3 rfl;have a3:∀o,(w0.alloc o).cell? ⟨w.heap.size,3,none⟩=some (.int .i64 e.ow):=fun o=>aF (bl1 w0 o) d3;have d4:=aO hb0 4 rfl;have a4:∀o,(w0.alloc o).cell? ⟨w.heap.size,4,none⟩=some (.int .i64 e.un):=fun o=>aF (bl1 w0 o) d4;have hput:=QO e (poAt qs i).x (poAt qs i).n (poAt qs i).c (poAt qs i).ls w0.heap.size 1 (w0.alloc (.cells #[.func (.func 236) #[] #[]] 293)).drew ((hLS.later hB0).later (bl1 w0 _).drew) hn hnc hc63 hx (by simp);have hgo:∀w1,Below (w0.alloc (.cells #[.func (.func 236) #[] #[]] 293)).drew.heap.size (w0.alloc (.cells #[.func (.func 236) #[] #[]] 293)).drew w1->Below w.heap.size w w1:=fun w1 hb1=>
  (hB0.trans ((bl1 w0 _).mono hB0.size)).trans (Below.mono (B:=w0.heap.size+1) ⟨hb1.os,hb1.tape,hb1.output,hb1.size,fun k hk=>hb1.block k (by simpa using hk)⟩ (by have:=hB0.size;omega))
 go_region_with (go_at_call 235;refine hput.mono ?_;rintro e' w1 ⟨v1,rfl,hb1,i1,hi1,hlow,hup,hO1⟩;obtain⟨ls',hls⟩:∃ls',Hid (ls'=(poAt qs i).ls.take i1++[e]++(poAt qs i).ls.drop i1):=⟨_,rfl⟩;rw[<-hls.out]at hO1;obtain⟨x1,c1,rfl,h11,h12,h13,h14⟩:=hO1.mem;have hb2:Below w.heap.size w w1:=hgo w1 hb1;have f8:=aF hb2 c8';have df:w1.frozen? ⟨g,i*9+8,none⟩=false:=(h.row.later hb2).frozen _);all_goals have hp2:rK e (poAt qs i).ls ls':=⟨i1,by rw[hll];exact hi1,fun j hj=>by have:=hlow j hj;omega,fun hq=>hup (by rw[<-hll];exact hq),hls.out⟩
 all_goals have hO2:dL w1 w.heap.size (.slice x1 ls'.length c1) ls':=hO1.low (by have:=hB0.size;simp;omega)
 all_goals have hsw:=h.swap hi hb2 hO2 hwb
 all_goals refine bodyPost_end (results_none Tryz.results185 _ _ _) rfl ?_
 all_goals exact⟨rfl,x1,c1,ls',hp2,hsw,hb2.os,hb2.tape,hb2.output,by have:=hb2.size;simpa using this,fun k hk hne=>(zB (fun e=>hne (by rw[e]))).trans (hb2.block k hk)⟩
def QQ(e:Po)(n:Nat)(ps:List Po)(w:World)(r:Ending)(w':World):Prop:=
 ∃v,r= .returned v/\Below w.heap.size w w'/\∃i,i<=n/\(∀j,j<i->¬e.id<(poAt ps j).id)/\(i<n->e.id<(poAt ps i).id)/\eJ w' w.heap.size v (ps.take i++[e]++ps.drop i)
theorem QR(e:Po)(x:Option Addr)(n c:Nat)(ps:List Po)(bf k:Nat)(w:World)(hp:kS w x n ps)(hn:n<=32)(hnc:n<=c)(hc63:c<=9223372036854775807)(hx:(x=none/\c=0)\/∃b o,x=some ⟨b,o,none⟩)
 (hby:w.cell? ⟨bf,0,none⟩=some (.func (.func 76) #[] #[])):
  Calls Tryz.prog 233 #[.slice x n c, .agg #[.int .i64 e.id, .int .i64 e.up, .int .i64 e.a, .int .i64 e.l, .int .i64 e.mn, .int .i64 e.mx, .int .i64 e.us, .int .i64 e.co, .slice e.x e.n e.c], .slice (some ⟨bf,0,none⟩) 1 k] w (QQ e n ps w):=by
 have hB2:=bP w (.cells #[.int .i64 e.id, .int .i64 e.up, .int .i64 e.a, .int .i64 e.l, .int .i64 e.mn, .int .i64 e.mx, .int .i64 e.us, .int .i64 e.co, .slice e.x e.n e.c] 64) (.cells #[.slice (some ⟨bf,0,none⟩) 1 k] 182);refine(IV.2.1 _ _ aCa e x n c bf 1 k (flatP ps) (fun i=>decide (e.id<(poAt ps i).id)) w hp.rw (tE [e]) hn hnc hc63 hx (mQ _ _ x n c ps _ _ (hp.later hB2) (by omega) (fun i hi W hW=>?_) jW.2.1.2)).mono ?_
 ·obtain⟨v,hv,hd⟩:=sY e.id (poAt ps i).id;exact(jW.2.1.1 e (poAt ps i) v w.heap.size (w.heap.size+1) bf 1 k W (fun i=>(hW.cell (p:=⟨w.heap.size,i,none⟩) (by show w.heap.size<_;simp;omega)).trans (by simp)) (cell_later hW (by simp)) fun W9 h9=>rF e _ v hv bf k W9 (cell_later h9 (cell_later hW (cell_later hB2 hby)))).mono fun _ _ h=>⟨h.1.trans (congrArg (fun t=>Ending.returned (.bool t)) hd.symm),h.2⟩
 ·rintro r w1 ⟨v,rfl,hb,i,hi,hlow,hup,ho⟩;exact⟨v,rfl,hb,i,hi,fun j hj=>of_decide_eq_false (hlow j hj),fun h=>of_decide_eq_true (hup h),lU flatP eW MV hp.len hi ho⟩
structure TB(w W:World)(t:Int)(v:Value):Prop where
 hb:W.heap[w.heap.size]?=some (lP t v)
 hs:W.heap[w.heap.size+1]?=some (lP 0 (.slice none 0 0))
 hr:W.heap[w.heap.size+2]?=some (.cells #[.int .i64 0, .int .i64 0] 53)
 below:Below w.heap.size w W
theorem TB.later(h:TB w W t v)(hb:Below W.heap.size W W'):TB w W' t v:=
 ⟨aA hb h.hb,aA hb h.hs,aA hb h.hr,h.below.trans (hb.mono h.below.size)⟩
theorem TB.fin(h:TB w W t v)(a b c d:Value):Below w.heap.size w ((((W.setCell ⟨w.heap.size+1,0,none⟩ a).setCell ⟨w.heap.size+1,1,none⟩ b).setCell ⟨w.heap.size+2,0,none⟩ c).setCell ⟨w.heap.size+2,1,none⟩ d):=
 (((h.below.setCell (p:=⟨w.heap.size+1,0,none⟩) (Nat.le_succ _) _).setCell (p:=⟨w.heap.size+1,1,none⟩) (Nat.le_succ _) _).setCell (p:=⟨w.heap.size+2,0,none⟩) (zA) _).setCell (p:=⟨w.heap.size+2,1,none⟩) (zA) _
theorem wS(h:aX t ps=0):ps.length<=8:=by
 unfold aX at h;by_cases h8:8<ps.length
 ·rw[if_pos h8]at h;cases h
 ·omega
theorem QS(h:mR p z=0):p.n<=31:=by
 unfold mR at h;split at h
 ·cases h
 ·cases hq:uY p z with
  |none=>rw[hq]at h;cases h
  |some y=>
   unfold uY at hq
   split at hq
   ·cases hq
   ·rename_i h32;unfold wA at hq;split at hq
    ·rename_i he;unfold xK at he;split at he
     ·rename_i hc;have:=(iB hc).1;omega
     ·rename_i hc;exact absurd he hc
    ·cases hq
theorem eX{o:Obj}(hg:W.grownBy W' (some g))(h:W.heap[k]?=some o)(hne:k≠g):W'.heap[k]?=some o:=
 (hg.block k (zG h) (fun e=>hne (by simpa using e))).trans h
theorem kX{t u:TypeId}(hg:W.heap[g]?=some (.cells cs t))(hk:W.heap[k]?=some (.cells ds u))(ht:t≠u):k≠g:=fun e=>by
 rw[e,hg]at hk;simp only[Option.some.injEq,Obj.cells.injEq]at hk;exact ht hk.2.1
theorem TB.grown(h:TB w W t v)(hg:W.grownBy W' (some g))(hc:W.heap[g]?=some (.cells cs 64))(hw:w.heap.size<=g):TB w W' t v:=
 ⟨eX hg h.hb (kX hc h.hb (by decide)),eX hg h.hs (kX hc h.hs (by decide)),eX hg h.hr (kX hc h.hr (by decide)),h.below.grown hg h.below.size (fun k e=>by cases e;exact hw)⟩
def pJ(p:Po)(z:Int):Int:=if z=0 then p.us else z
def dU(t:Int)(ps:List Po)(id z ow:Int):Int:=
 if aX t ps≠0 then aX t ps else if aS ps id<0 then 5 else if bV ow 1 65536=false then 3 else mR (poAt ps (aS ps id).toNat) (pJ (poAt ps (aS ps id).toNat) z)
def jF(t:Int)(ps:List Po)(id z ow:Int)(w:World)(r:Ending)(w':World):Prop:=
 ∃v rs t' a l,r= .returned (.tuple #[.agg #[.int .i64 t',v], .agg #[.int .i64 a, .int .i64 l], .int .i64 (dU t ps id z ow)])/\Below w.heap.size w w'/\eT w' w.heap.size v rs rs.length/\
  (dU t ps id z ow≠0->t'=0/\rs=[]/\a=0/\l=0)/\
  (dU t ps id z ow=0->t'=t/\(a,l)=jY (poAt ps (aS ps id).toNat) (pJ (poAt ps (aS ps id).toNat) z)/\
   ∃qs x' c' ls',eC ps qs/\rK ⟨a,l,1,ow,0⟩ (poAt ps (aS ps id).toNat).ls ls'/\rs=qs.set (aS ps id).toNat (bM (poAt qs (aS ps id).toNat) x' ls'.length c' ls'))
theorem eT.nil(w:World)(base:Nat):eT w base (.slice none 0 0) [] 0:=
 ⟨World.ownsRow_nil _ _ _ _,fun i hi=>by omega,fun i _ hi=>by simp at hi,fun i j hi=>by omega⟩
theorem jF.err{id ow:Int}(hE:dU t ps id z ow=E/\E≠0)(hb:Below w.heap.size w w'):
  jF t ps id z ow w (.returned (.tuple #[.agg #[.int .i64 0, .slice none 0 0], .agg #[.int .i64 0, .int .i64 0], .int .i64 E])) w':=
 ⟨_,[],0,0,0,by rw[hE.1],hb,eT.nil _ _,fun _=>⟨rfl,rfl,rfl,rfl⟩,fun h=>absurd (hE.1.symm.trans h) hE.2⟩
theorem QT(t:Int)(x:Option Addr)(n c:Nat)(ps:List Po)(id z ow:Int)(w:World)(hk:Bk w x n c ps):
  Calls Tryz.prog 193 #[.agg #[.int .i64 t, .slice x n c], .int .i64 id, .int .i64 z, .int .i64 ow] w (jF t ps id z ow w):=by
 have hpl:Hid (ps.length=n):=hk.ps.len;go_enter Tryz.func193,Tryz.ntmps193;go_upto_region 1 with fail
 obtain⟨w0,hw0⟩:∃w0,w0=((w.alloc (lP t (.slice x n c))).alloc (lP 0 (.slice none 0 0))).alloc (.cells #[.int .i64 0, .int .i64 0] 53):=⟨_,rfl⟩;rw[<-hw0];have hT0:TB w w0 t (.slice x n c):=by
  rw[hw0];exact⟨aH _ (aH _ (aB _ rfl)),aH _ (aB _ (by simp)),aB _ (by simp),(bP w _ _).alloc (by simp;omega) _⟩
 clear hw0;obtain⟨b0,b1⟩:=aZ hT0.hb rfl rfl;obtain⟨s0,s1⟩:=aZ hT0.hs rfl rfl;obtain⟨r0,r1⟩:=aZ hT0.hr rfl rfl;obtain⟨zs0,zs1⟩:=eA hT0.hs;obtain⟨zr0,zr1⟩:=eA hT0.hr;have hck:=mA t x n c ps w0 (hk.later hT0.below);by_cases hc0:aX t ps=0
 ·rw[hc0]at hck;go_wp2_with fail;refine hck.mono ?_;rintro e w1 ⟨rfl,hb1⟩;have hT1:=hT0.later hb1;have hn8:n<=8:=by rw[<-hpl.out];exact wS hc0
  have hk1:=hk.later hT1.below;have hpc:=pplace_any t id x n c ps w1 hk1.ps (by omega);clear b0 b1 s0 s1 r0 r1 zs0 zs1 zr0 zr1 hck hb1;obtain⟨b0,b1⟩:=aZ hT1.hb rfl rfl;obtain⟨s0,s1⟩:=aZ hT1.hs rfl rfl;obtain⟨r0,r1⟩:=aZ hT1.hr rfl rfl;obtain⟨zs0,zs1⟩:=eA hT1.hs;obtain⟨zr0,zr1⟩:=eA hT1.hr;by_cases hat:aS ps id<0
  ·have hne:dU t ps id z ow=5/\(5:Int)≠0:=⟨by unfold dU;rw[if_neg (by simp[hc0]),if_pos hat],by decide⟩;go_wp2_with fail;refine hpc.mono ?_;rintro e w2 ⟨rfl,hb2⟩;have hT2:=hT1.later hb2;clear b0 b1 s0 s1 r0 r1 zs0 zs1 zr0 zr1 hb2;obtain⟨b0,b1⟩:=aZ hT2.hb rfl rfl;obtain⟨s0,s1⟩:=aZ hT2.hs rfl rfl;obtain⟨r0,r1⟩:=aZ hT2.hr rfl rfl;obtain⟨zs0,zs1⟩:=eA hT2.hs;obtain⟨zr0,zr1⟩:=eA hT2.hr;go_wp2;refine bodyPost_ret (v:= .tuple #[.agg #[.int .i64 0, .slice none 0 0], .agg #[.int .i64 0, .int .i64 0], .int .i64 5]) (by simp[results,Tryz.results193,go_sem,s0,s1,r0,r1]) rfl ?_;exact jF.err hne (hT2.fin _ _ _ _)
  ·have hE1:dU t ps id z ow=if bV ow 1 65536=false then 3 else mR (poAt ps (aS ps id).toNat) (pJ (poAt ps (aS ps id).toNat) z):=by unfold dU;rw[if_neg (by simp[hc0]),if_neg hat]
   obtain⟨i,hi,hati, -⟩:=bW hat;rw[hpl.out]at hi;have hto:(aS ps id).toNat=i:=by rw[hati];rfl
   rw[hto]at hE1;rw[hati]at hpc;go_wp2_with fail;refine hpc.mono ?_;rintro e w2 ⟨rfl,hb2⟩;have hT2:=hT1.later hb2;have hneg:¬((i:Int)<0):=by omega
   clear b0 b1 s0 s1 r0 r1 zs0 zs1 zr0 zr1 hb2;obtain⟨b0,b1⟩:=aZ hT2.hb rfl rfl;obtain⟨s0,s1⟩:=aZ hT2.hs rfl rfl;obtain⟨r0,r1⟩:=aZ hT2.hr rfl rfl;obtain⟨zs0,zs1⟩:=eA hT2.hs;obtain⟨zr0,zr1⟩:=eA hT2.hr
   cases how:bV ow 1 65536 with
   |false=>
    have hne:dU t ps id z ow=3/\(3:Int)≠0:=⟨by rw[hE1,if_pos how],by decide⟩
    go_wp2_with fail
    refine(isId_is ow false how _).mono ?_
    rintro e w3 ⟨rfl,rfl⟩
    go_wp2
    refine bodyPost_ret (v:= .tuple #[.agg #[.int .i64 0, .slice none 0 0], .agg #[.int .i64 0, .int .i64 0], .int .i64 3]) (by simp[results,Tryz.results193,go_sem,s0,s1,r0,r1]) rfl ?_
    exact jF.err hne (hT2.fin _ _ _ _)
   |true=>
    rw[if_neg (by simp[how])]at hE1
    go_wp2_with fail
    refine(isId_is ow true how _).mono ?_
    rintro e w2 ⟨rfl,rfl⟩
    have hk2:=hk.later hT2.below
    obtain⟨b,o,rfl,c0,c1,c2,c3,c4,c5,c6,c7,c8⟩:=hk2.ps.cells i hi
    obtain⟨hlc,hlm,hLS⟩:=hk2.ps.leases i hi
    have hi0:(0:Int)<=i:=by omega
    have hin:(i:Int)<n:=by omega
    obtain⟨zz,hzz⟩:∃zz,Hid (zz=pJ (poAt ps i) z):=⟨_,rfl⟩
    rw[<-hzz.out]at hE1
    go_upto_if 38 with fail
    go_cut [2] (fun s wc=>s= .int .i64 zz/\wc=w2)
    case first=>
     by_cases hz:z=0
     ·have hz2:(poAt ps i).us=zz:=by rw[hzz.out];unfold pJ;rw[if_pos hz]
      subst hz;go_wp2;go_meet
      case rel=>exact⟨by first|rfl|rw[hz2],rfl⟩
     ·have hz2:z=zz:=by rw[hzz.out];unfold pJ;rw[if_neg hz]
      go_wp2;go_meet
      case rel=>exact⟨by first|rfl|rw[<-hz2],rfl⟩
    case rest=>
     obtain⟨rfl,rfl⟩:=hcut
     have hpf:=QP (poAt ps i) zz wc hLS hlm
     by_cases hpe:mR (poAt ps i) zz=0
     ·have hE0:dU t ps id z ow=0:=hE1.trans hpe;have hl31:=QS hpe;unfold F3 at hpf;rw[hpe]at hpf;obtain⟨pA,hpA⟩:∃pA,Hid (pA=(jY (poAt ps i) zz).1):=⟨_,rfl⟩;obtain⟨pL,hpL⟩:∃pL,Hid (pL=(jY (poAt ps i) zz).2):=⟨_,rfl⟩;rw[<-hpA.out,<-hpL.out]at hpf;go_wp2_with fail;refine hpf.mono ?_;rintro e w3 ⟨rfl,hb3⟩;have hT3:=hT2.later hb3;clear b0 b1 s0 s1 r0 r1 zs0 zs1 zr0 zr1 hb3 c0 c1 c2 c3 c4 c5 c6 c7 c8;go_upto_region 12 with fail
      obtain⟨w4,hw4⟩:∃w4,w4=w3.alloc (.cells #[.int .i64 pA, .int .i64 pL] 53):=⟨_,rfl⟩;rw[<-hw4];have hT4:TB w w4 t (.slice (some ⟨b,o,none⟩) n c):=by rw[hw4];exact hT3.later (bl1 _ _)
      have hsz3:w.heap.size+2<w3.heap.size:=(zG hT3.hr);have hp4:w4.heap[w3.heap.size]?=some (.cells #[.int .i64 pA, .int .i64 pL] 53):=by rw[hw4];exact aB _ rfl
      clear hw4 hT3;obtain⟨b0,b1⟩:=aZ hT4.hb rfl rfl;go_wp2_with fail;refine(gJ t (some ⟨b,o,none⟩) n c ps w4 (hk.later hT4.below) (by omega)).mono ?_;rintro e w5 ⟨v5,qs,rfl,hs,hOB,hb5⟩;have hql:i<qs.length:=by rw[<-hs.1,hpl.out];exact hi
      rcases hOB.row.2 with ⟨-,h0⟩|⟨g,cap,cur,rfl,hg1,hg2, -⟩
      ·omega
      clear b0 b1;go_upto_region 15 with fail
      obtain⟨w6,hw6⟩:∃w6,w6=w5.alloc (lP t (.slice (some ⟨g,0,none⟩) qs.length cap)):=⟨_,rfl⟩;rw[<-hw6];have hT6:TB w w6 t (.slice (some ⟨b,o,none⟩) n c):=by rw[hw6];exact(hT4.later hb5).later (bl1 _ _)
      have hp6:w6.heap[w3.heap.size]?=some (.cells #[.int .i64 pA, .int .i64 pL] 53):=by rw[hw6];exact aH _ (aA hb5 hp4)
      have hn6:w6.heap[w5.heap.size]?=some (lP t (.slice (some ⟨g,0,none⟩) qs.length cap)):=by rw[hw6];exact aB _ rfl
      have hg6:w6.heap[g]?=some (.cells cur 64):=by rw[hw6];exact aH _ hg2
      have hOB6:eT w6.drew w4.heap.size (.slice (some ⟨g,0,none⟩) qs.length cap) qs qs.length:=by
       rw[hw6];exact hOB.later (bl1 _ _).drew
      have hs6:w4.heap.size<=w6.drew.heap.size:=by rw[hw6];have:=hb5.size;simp;omega
      clear hw6 hOB hb5 hg2 hp4;have hsp:=hs.2 i (by rw[hpl.out];exact hi);have hqn:(poAt qs i).n<=32:=by rw[<-hsp.2.2.2.2.2.2.2.2.1];omega
      have hql2:(i:Int)<qs.length:=by omega
      obtain⟨m0,m1⟩:=aZ hn6 rfl rfl;obtain⟨p0,p1⟩:=aZ hp6 rfl rfl;have hadd:=DU ⟨pA,pL,1,ow,0⟩ w4.heap.size g qs.length cap qs i w6.drew hOB6 hql hqn hs6;go_region_with (go_at_call 185;refine hadd.mono ?_;rintro e w7 ⟨rfl,x',c',ls',hput,hOB7,hg7⟩);all_goals have hgd:w6.grownBy w7 (some g):=⟨hg7.os,hg7.tape,hg7.output,hg7.size,hg7.block⟩
      all_goals have hT7:=hT6.grown hgd hg6 (Nat.le_trans hT4.below.size hg1)
      all_goals have hp7:=eX hgd hp6 (kX hg6 hp6 (by decide))
      all_goals have hn7:=eX hgd hn6 (kX hg6 hn6 (by decide))
      all_goals clear m0 m1 p0 p1 hadd
      all_goals obtain⟨m0,m1⟩:=aZ hn7 rfl rfl
      all_goals obtain⟨p0,p1⟩:=aZ hp7 rfl rfl
      all_goals have n1:¬w3.heap.size=w.heap.size+1:=by omega
      all_goals have n2:¬w3.heap.size=w.heap.size+1+1:=by omega
      all_goals have n3:¬w3.heap.size=w.heap.size+2:=by omega
      all_goals have hsz:w.heap.size+2<w4.heap.size:=(zG hT4.hr)
      all_goals obtain⟨b0,b1⟩:=aZ hT7.hb rfl rfl
      all_goals obtain⟨s0,s1⟩:=aZ hT7.hs rfl rfl
      all_goals obtain⟨r0,r1⟩:=aZ hT7.hr rfl rfl
      all_goals obtain⟨zs0,zs1⟩:=eA hT7.hs
      all_goals obtain⟨zr0,zr1⟩:=eA hT7.hr
      all_goals go_wp2_with fail
      all_goals go_region_with fail
      all_goals go_wp2
      all_goals refine bodyPost_ret (v:= .tuple #[.agg #[.int .i64 t, .slice (some ⟨g,0,none⟩) qs.length cap], .agg #[.int .i64 pA, .int .i64 pL], .int .i64 0]) (by simp[results,Tryz.results193,go_sem,s0,s1,r0,r1]) rfl ?_
      all_goals have hsz1:w.heap.size+1<w4.heap.size:=by omega
      all_goals have hfin:=(hT7.fin (.int .i64 t) (.slice (some ⟨g,0,none⟩) qs.length cap) (.int .i64 pA) (.int .i64 pL)).drew
      all_goals have hob:=(((((hOB7.put (o:=0) (u:= .int .i64 t) hsz1).put (o:=1) (u:= .slice (some ⟨g,0,none⟩) qs.length cap) hsz1).put (o:=0) (u:= .int .i64 pA) hsz).put (o:=1) (u:= .int .i64 pL) hsz).later (zD).drew).low hT4.below.size
      all_goals have hput2:rK ⟨pA,pL,1,ow,0⟩ (poAt ps i).ls ls':=by rw[hsp.2.2.2.2.2.2.2.2.2];exact hput
      all_goals exact⟨_,qs.set i (bM (poAt qs i) x' ls'.length c' ls'),t,pA,pL,by rw[hE0],hfin,hob,fun h=>absurd hE0 h,fun _=>⟨rfl,by rw[hto,<-hzz.out,hpA.out,hpL.out],qs,x',c',ls',hs,by rw[hto];exact hput2,by rw[hto]⟩⟩
     ·have hne:dU t ps id z ow=mR (poAt ps i) zz/\mR (poAt ps i) zz≠0:=⟨hE1,hpe⟩;go_wp2_with fail;refine hpf.mono ?_;rintro e w3 ⟨rfl,hb3⟩;have hT3:=hT2.later hb3;clear b0 b1 s0 s1 r0 r1 zs0 zs1 zr0 zr1 hb3 c0 c1 c2 c3 c4 c5 c6 c7 c8;go_upto_region 12 with fail
      obtain⟨w4,hw4⟩:∃w4,w4=w3.alloc (.cells #[.int .i64 (jY (poAt ps i) zz).1, .int .i64 (jY (poAt ps i) zz).2] 53):=⟨_,rfl⟩;rw[<-hw4];have hT4:TB w w4 t (.slice (some ⟨b,o,none⟩) n c):=by rw[hw4];exact hT3.later (bl1 _ _)
      clear hw4 hT3;obtain⟨b0,b1⟩:=aZ hT4.hb rfl rfl;obtain⟨s0,s1⟩:=aZ hT4.hs rfl rfl;obtain⟨r0,r1⟩:=aZ hT4.hr rfl rfl;obtain⟨zs0,zs1⟩:=eA hT4.hs;obtain⟨zr0,zr1⟩:=eA hT4.hr;go_wp2;refine bodyPost_ret (v:= .tuple #[.agg #[.int .i64 0, .slice none 0 0], .agg #[.int .i64 0, .int .i64 0], .int .i64 (mR (poAt ps i) zz)]) (by simp[results,Tryz.results193,go_sem,s0,s1,r0,r1]) rfl ?_;exact jF.err hne (hT4.fin _ _ _ _)
 ·have hne:dU t ps id z ow=aX t ps/\aX t ps≠0:=⟨if_pos hc0,hc0⟩;go_wp2_with fail;refine hck.mono ?_;rintro e w1 ⟨rfl,hb1⟩;have hT1:=hT0.later hb1;clear b0 b1 s0 s1 r0 r1 zs0 zs1 zr0 zr1 hck hb1;obtain⟨b0,b1⟩:=aZ hT1.hb rfl rfl;obtain⟨s0,s1⟩:=aZ hT1.hs rfl rfl;obtain⟨r0,r1⟩:=aZ hT1.hr rfl rfl;obtain⟨zs0,zs1⟩:=eA hT1.hs;obtain⟨zr0,zr1⟩:=eA hT1.hr;go_wp2;refine bodyPost_ret (v:= .tuple #[.agg #[.int .i64 0, .slice none 0 0], .agg #[.int .i64 0, .int .i64 0], .int .i64 (aX t ps)]) (by simp[results,Tryz.results193,go_sem,s0,s1,r0,r1]) rfl ?_;exact jF.err hne (hT1.fin _ _ _ _)
theorem F4{e:Po}(hi:i<=qs.length)(j:Nat):poAt (qs.take i++[e]++qs.drop i) j=if j<i then poAt qs j else if j=i then e else poAt qs (j- 1):=by
 have hl:(qs.take i).length=i:=by rw[List.length_take];omega
 unfold poAt;simp only[zF,List.append_assoc];by_cases h1:j<i
 ·rw[if_pos h1,List.getElem?_append_left (by omega),List.getElem?_take_of_lt h1]
 ·rw[if_neg h1,List.getElem?_append_right (by omega),hl];by_cases h2:j=i
  ·subst h2;simp
  ·rw[if_neg h2,show j- i=(j- i- 1)+1 by omega];simp only[List.singleton_append,List.getElem?_cons_succ,List.getElem?_drop];rw[show i+(j- i- 1)=j- 1 by omega]
theorem eT.ins{e:Po}(h:eT W base v qs qs.length)(hi:i<=qs.length)(hb:Below W.heap.size W W')(h1:e.x=none)(h2:e.n=0)(h3:e.c=0)(h4:e.ls=[])(hr:eJ W' base v' (qs.take i++[e]++qs.drop i)):
  eT W' base v' (qs.take i++[e]++qs.drop i) (qs.take i++[e]++qs.drop i).length:=by
 have hl:(qs.take i++[e]++qs.drop i).length=qs.length+1:=by simp;omega
 have heo:(Value.slice e.x e.n e.c).ownBlock=none:=by rw[h1,h2,h3];rfl
 refine⟨hr,fun j hj=>?_,fun j hj hj2=>by omega,fun j k hj hk hjk b hbj hbk=>?_⟩
 ·rw[F4 hi];by_cases c1:j<i
  ·rw[if_pos c1];exact(h.own j (by omega)).later hb
  ·rw[if_neg c1];by_cases c2:j=i
   ·rw[if_pos c2,h1,h2,h3,h4];exact World.ownsRow_nil _ _ _ _
   ·rw[if_neg c2];exact(h.own (j- 1) (by omega)).later hb
 ·rw[F4 hi]at hbj hbk;by_cases c1:j<i
  ·rw[if_pos c1]at hbj;by_cases d1:k<i
   ·rw[if_pos d1]at hbk;exact h.apart j k (by omega) (by omega) hjk b hbj hbk
   ·rw[if_neg d1]at hbk;by_cases d2:k=i
    ·rw[if_pos d2,heo]at hbk;cases hbk
    ·rw[if_neg d2]at hbk;exact h.apart j (k- 1) (by omega) (by omega) (by omega) b hbj hbk
  ·rw[if_neg c1]at hbj;by_cases c2:j=i
   ·rw[if_pos c2,heo]at hbj;cases hbj
   ·rw[if_neg c2]at hbj;by_cases d1:k<i
    ·rw[if_pos d1]at hbk;exact h.apart (j- 1) k (by omega) (by omega) (by omega) b hbj hbk
    ·rw[if_neg d1]at hbk;by_cases d2:k=i
     ·rw[if_pos d2,heo]at hbk;cases hbk
     ·rw[if_neg d2]at hbk;exact h.apart (j- 1) (k- 1) (by omega) (by omega) (by omega) b hbj hbk
theorem eT.putBox{t:TypeId}(h:eT w base v ps ps.length)(hb:w.heap[b]?=some (.cells cs t))(h1:t≠64)(h2:t≠55):eT (w.setCell ⟨b,o,none⟩ u) base v ps ps.length:=
 ⟨h.row.kept (aN _ _ _ _) (fun k hk e=>by subst e;exact h.row.ne hb h1 hk),fun i hi=>(h.own i hi).kept (aN _ _ _ _) (fun k hk e=>by subst e;exact(h.own i hi).ne hb h2 hk),fun i hi hi2=>by omega,h.apart⟩
def F5(e:Po)(qs rs:List Po):Prop:=∃i,i<=qs.length/\(∀j,j<i->¬e.id<(poAt qs j).id)/\(i<qs.length->e.id<(poAt qs i).id)/\rs=qs.take i++[e]++qs.drop i
def QU(t:Int)(ps:List Po)(e:Po)(w:World)(r:Ending)(w':World):Prop:=
 ∃v qs rs,r= .returned (.agg #[.int .i64 t,v])/\Below w.heap.size w w'/\eC ps qs/\F5 e qs rs/\eT w' w.heap.size v rs rs.length
theorem DV(t:Int)(x:Option Addr)(n c:Nat)(ps:List Po)(e:Po)(w:World)(hk:Bk w x n c ps)(hn:n<=8)(h1:e.x=none)(h2:e.n=0)(h3:e.c=0)(h4:e.ls=[]):
  Calls Tryz.prog 183 #[.agg #[.int .i64 t, .slice x n c], .agg #[.int .i64 e.id, .int .i64 e.up, .int .i64 e.a, .int .i64 e.l, .int .i64 e.mn, .int .i64 e.mx, .int .i64 e.us, .int .i64 e.co, .slice none 0 0]] w (QU t ps e w):=by
 have hpl:Hid (ps.length=n):=hk.ps.len;go_enter Tryz.func183,Tryz.ntmps183;go_upto_region 1 with fail
 obtain⟨w0,hw0⟩:∃w0,w0=((w.alloc (lP t (.slice x n c))).alloc (.cells #[.int .i64 e.id, .int .i64 e.up, .int .i64 e.a, .int .i64 e.l, .int .i64 e.mn, .int .i64 e.mx, .int .i64 e.us, .int .i64 e.co, .slice none 0 0] 64)).alloc (lP 0 (.slice none 0 0)):=⟨_,rfl⟩;rw[<-hw0];have hB0:Below w.heap.size w w0:=by rw[hw0];exact(bP w _ _).alloc (by simp;omega) _
 have hx0:w0.heap[w.heap.size]?=some (lP t (.slice x n c)):=by rw[hw0];exact aH _ (aH _ (aB _ rfl))
 have hx1:w0.heap[w.heap.size+1]?=some (.cells #[.int .i64 e.id, .int .i64 e.up, .int .i64 e.a, .int .i64 e.l, .int .i64 e.mn, .int .i64 e.mx, .int .i64 e.us, .int .i64 e.co, .slice none 0 0] 64):=by rw[hw0];exact aH _ (aB _ (by simp))
 have hx2:w0.heap[w.heap.size+2]?=some (lP 0 (.slice none 0 0)):=by rw[hw0];exact aB _ (by simp)
 clear hw0;have hsz:w.heap.size+2<w0.heap.size:=(zG hx2);obtain⟨b0,b1⟩:=aZ hx0 rfl rfl;go_wp2_with fail;refine(gJ t x n c ps w0 (hk.later hB0) (by omega)).mono ?_;rintro r w1 ⟨v1,qs,rfl,hs,hOB,hb1⟩;obtain⟨xq,cq,rfl,hbk⟩:=hOB.bk (fun i hi=>by rw[<-(hs.2 i (by rw[hs.1];exact hi)).2.2.2.2.2.2.2.2.1];exact(hk.ps.leases i (by rw[<-hpl.out,hs.1];exact hi)).2.1);have hxq:(xq=none/\cq=0)\/∃b o,xq=some ⟨b,o,none⟩:=by
  rcases hOB.row.2 with ⟨hv, -⟩|⟨g2,cap2,cur2,hv, -⟩
  ·simp only[Value.slice.injEq]at hv;exact .inl ⟨hv.1,hv.2.2⟩
  ·simp only[Value.slice.injEq]at hv;exact .inr ⟨_,_,hv.1⟩
 have hql:Hid (qs.length=n):=by unfold Hid;rw[<-hs.1];exact hpl.out
 clear b0 b1;go_upto_region 2 with fail
 obtain⟨w2,hw2⟩:∃w2,w2=w1.alloc (lP t (.slice xq qs.length cq)):=⟨_,rfl⟩;rw[<-hw2];have hb12:Below w1.heap.size w1 w2:=by rw[hw2];exact bl1 _ _
 have hb2:Below w0.heap.size w0 w2:=hb1.trans (hb12.mono hb1.size);have hn2:w2.heap[w1.heap.size]?=some (lP t (.slice xq qs.length cq)):=by rw[hw2];exact aB _ rfl
 clear hw2;have hp2:=aA hb2 hx1;have hr2:=aA hb2 hx2;have n1:=aO hn2 1 rfl;have n1':∀o,(w2.alloc o).cell? ⟨w1.heap.size,1,none⟩=some (.slice xq qs.length cq):=fun o=>aF (bl1 w2 o) n1;have p0:=aO hp2 0 rfl;have p0':∀o,(w2.alloc o).cell? ⟨w.heap.size+1,0,none⟩=some (.int .i64 e.id):=fun o=>aF (bl1 w2 o) p0;have p1:=aO hp2 1 rfl;have p1':∀o,(w2.alloc o).cell? ⟨w.heap.size+1,1,none⟩=some (.int .i64 e.up):=fun o=>aF (bl1 w2 o) p1;have p2:=aO hp2 2 rfl;have p2':∀o,(w2.alloc o).cell? ⟨w.heap.size+1,2,none⟩=some (.int .i64 e.a):=fun o=>aF (bl1 w2 o) p2;have p3:=aO hp2 3 rfl;have p3':∀o,(w2.alloc o).cell? ⟨w.heap.size+1,3,none⟩=some (.int .i64 e.l):=fun o=>aF (bl1 w2 o) p3;have p4:=aO hp2 4 rfl;have p4':∀o,(w2.alloc o).cell? ⟨w.heap.size+1,4,none⟩=some (.int .i64 e.mn):=fun o=>aF (bl1 w2 o) p4;have p5:=aO hp2 5 rfl;have p5':∀o,(w2.alloc o).cell? ⟨w.heap.size+1,5,none⟩=some (.int .i64 e.mx):=fun o=>aF (bl1 w2 o) p5;have p6:=aO hp2 6 rfl;have p6':∀o,(w2.alloc o).cell? ⟨w.heap.size+1,6,none⟩=some (.int .i64 e.us):=fun o=>aF (bl1 w2 o) p6;have p7:=aO hp2 7 rfl;have p7':∀o,(w2.alloc o).cell? ⟨w.heap.size+1,7,none⟩=some (.int .i64 e.co):=fun o=>aF (bl1 w2 o) p7;have p8:=aO hp2 8 rfl;have p8':∀o,(w2.alloc o).cell? ⟨w.heap.size+1,8,none⟩=some (.slice none 0 0):=fun o=>aF (bl1 w2 o) p8;have hput:=fun W (hW:Below w2.heap.size w2 W) hby=>QR e xq qs.length cq qs w2.heap.size 1 W ((hbk.later hb12).later hW).ps (by rw[hql.out];omega) hbk.nc hbk.cm hxq hby;rw[h1,h2,h3]at hput;go_wp2_with fail;refine(hput _ (bl1 w2 _) (by simp)).mono ?_;rintro r w3 ⟨v3,rfl,hb3,i,hi,hlow,hup,hO3⟩;obtain⟨rs,hrs⟩:∃rs,Hid (rs=qs.take i++[e]++qs.drop i):=⟨_,rfl⟩;have hb23:Below w2.heap.size w2 w3:=(bl1 w2 _).trans (hb3.mono (by simp));have hb13:Below w1.heap.size w1 w3:=hb12.trans (hb23.mono hb12.size);have hins:=hOB.ins hi hb13 h1 h2 h3 h4 (hO3.low (by have:=hb2.size;simp;omega));rw[<-hrs.out]at hO3 hins;obtain⟨x3,c3,rfl, -⟩:=hO3.mem;have hn3:=aA hb23 hn2;have hr3:=aA hb23 hr2;have hB3:Below w.heap.size w w3:=hB0.trans ((hb1.trans (hb13.mono hb1.size)).mono hB0.size);have hs1:w.heap.size+2<w1.heap.size:=Nat.lt_of_lt_of_le hsz hb1.size;clear hb3 hb23 hput n1 n1';have m0:=aO hn3 0 rfl;have m1:=aO hn3 1 rfl;have zm:=(aD hn3).2 1;obtain⟨s0,s1⟩:=aZ hr3 rfl rfl;obtain⟨zs0,zs1⟩:=eA hr3;have ne1:¬w1.heap.size=w.heap.size+2:=by omega
 have ne2:¬w.heap.size+2=w1.heap.size:=by omega
 go_wp2;refine bodyPost_ret (v:= .agg #[.int .i64 t, .slice x3 rs.length c3]) (by simp[results,Tryz.results183,go_sem,s0,s1]) rfl ?_;have hfin:=((hB3.setCell (p:=⟨w1.heap.size,1,none⟩) (by show w.heap.size<=w1.heap.size;omega) (.slice x3 rs.length c3)).setCell (p:=⟨w.heap.size+2,0,none⟩) (zA) (.int .i64 t)).setCell (p:=⟨w.heap.size+2,1,none⟩) (zA) (.slice x3 rs.length c3);have hob:=(((hins.putBox (o:=1) (u:= .slice x3 rs.length c3) hn3 (by decide) (by decide)).put (o:=0) (u:= .int .i64 t) hsz).put (o:=1) (u:= .slice x3 rs.length c3) hsz).low hB0.size;exact⟨_,qs,rs,rfl,hfin,hs,⟨i,hi,fun j hj=>by have:=hlow j hj;omega,hup,hrs.out⟩,hob⟩
def xV(ps:List Po)(l mn mx us co:Int):Int:=if dB mn mx us co l=false then 1 else if ps.length=8 then 2 else 0
theorem DW(t a l mn mx us co:Int)(x:Option Addr)(n c:Nat)(ps:List Po)(hl:ps.length=n)(w:World):
  Calls Tryz.prog 182 #[.agg #[.int .i64 t, .slice x n c], .agg #[.int .i64 a, .int .i64 l], .agg #[.int .i64 mn, .int .i64 mx, .int .i64 us, .int .i64 co]] w fun e w'=>e= .returned (.int .i64 (xV ps l mn mx us co))/\Below w.heap.size w w':=by
 unfold xV;rw[hl];have hB:Below w.heap.size w (((w.alloc (.cells #[.int .i64 t, .slice x n c] 24)).alloc (.cells #[.int .i64 a, .int .i64 l] 53)).alloc (.cells #[.int .i64 mn, .int .i64 mx, .int .i64 us, .int .i64 co] 61)):=(bP w _ _).alloc (by simp;omega) _;have hru:=pF mn mx us co a l (((w.alloc (.cells #[.int .i64 t, .slice x n c] 24)).alloc (.cells #[.int .i64 a, .int .i64 l] 53)).alloc (.cells #[.int .i64 mn, .int .i64 mx, .int .i64 us, .int .i64 co] 61))
 cases hr:dB mn mx us co l with
 |false=>
  rw[hr]at hru
  rw[if_pos rfl]
  go_enter Tryz.func182,Tryz.ntmps182
  go_wp2_with fail
  refine hru.mono ?_
  rintro e w1 ⟨rfl,hb1⟩
  go_wp2
  go_ret
  exact⟨rfl,hB.trans (hb1.mono hB.size)⟩
 |true=>
  rw[hr]at hru
  rw[if_neg (by simp)]
  by_cases h8:n=8
  ·rw[if_pos h8];subst h8;go_enter Tryz.func182,Tryz.ntmps182;go_wp2_with fail;refine hru.mono ?_;rintro e w1 ⟨rfl,hb1⟩;have hx:w1.heap[w.heap.size]?=some (.cells #[.int .i64 t, .slice x 8 c] 24):=aA hb1 (aH _ (aH _ (aB _ rfl)));have d1:=aO hx 1 rfl;have hB2:=hB.trans (hb1.mono hB.size);clear hb1;go_wp2;go_ret;exact⟨rfl,hB2⟩
  ·have h8':¬(n:Int)=8:=by omega
   rw[if_neg h8];go_enter Tryz.func182,Tryz.ntmps182;go_wp2_with fail;refine hru.mono ?_;rintro e w1 ⟨rfl,hb1⟩;have hx:w1.heap[w.heap.size]?=some (.cells #[.int .i64 t, .slice x n c] 24):=aA hb1 (aH _ (aH _ (aB _ rfl)));have d1:=aO hx 1 rfl;have hB2:=hB.trans (hb1.mono hB.size);clear hb1;go_wp2;go_ret;exact⟨rfl,hB2⟩
def gQ(t:Int)(ps:List Po)(id a l mn mx us co:Int):Int:=
 if aX t ps≠0 then aX t ps else if bV id 1 65536=false\/chk a l≠0 then 3 else if 0<=aS ps id\/anyAt ps.length (lW ps a l)=true then 6 else xV ps l mn mx us co
def fF(t:Int)(ps:List Po)(id a l mn mx us co:Int)(w:World)(r:Ending)(w':World):Prop:=
 ∃v rs t',r= .returned (.tuple #[.agg #[.int .i64 t',v], .int .i64 (gQ t ps id a l mn mx us co)])/\Below w.heap.size w w'/\eT w' w.heap.size v rs rs.length/\
  (gQ t ps id a l mn mx us co≠0->t'=0/\rs=[])/\(gQ t ps id a l mn mx us co=0->t'=t/\∃qs,eC ps qs/\F5 ⟨id,0,a,l,mn,mx,us,co,none,0,0,[]⟩ qs rs)
theorem fF.err{id:Int}(hE:gQ t ps id a l mn mx us co=E/\E≠0)(hb:Below w.heap.size w w'):
  fF t ps id a l mn mx us co w (.returned (.tuple #[.agg #[.int .i64 0, .slice none 0 0], .int .i64 E])) w':=
 ⟨_,[],0,by rw[hE.1],hb,eT.nil _ _,fun _=>⟨rfl,rfl⟩,fun h=>absurd (hE.1.symm.trans h) hE.2⟩
structure TO(w W:World)(t a l mn mx us co:Int)(v:Value):Prop where
 hb:W.heap[w.heap.size]?=some (lP t v)
 hp:W.heap[w.heap.size+1]?=some (.cells #[.int .i64 a, .int .i64 l] 53)
 hu:W.heap[w.heap.size+2]?=some (.cells #[.int .i64 mn, .int .i64 mx, .int .i64 us, .int .i64 co] 61)
 hs:W.heap[w.heap.size+3]?=some (lP 0 (.slice none 0 0))
 below:Below w.heap.size w W
theorem TO.later(h:TO w W t a l mn mx us co v)(hb:Below W.heap.size W W'):TO w W' t a l mn mx us co v:=
 ⟨aA hb h.hb,aA hb h.hp,aA hb h.hu,aA hb h.hs,h.below.trans (hb.mono h.below.size)⟩
theorem QV(t:Int)(x:Option Addr)(n c:Nat)(ps:List Po)(id a l mn mx us co:Int)(w:World)(hk:Bk w x n c ps):
  Calls Tryz.prog 141 #[.agg #[.int .i64 t, .slice x n c], .int .i64 id, .agg #[.int .i64 a, .int .i64 l], .agg #[.int .i64 mn, .int .i64 mx, .int .i64 us, .int .i64 co]] w (fF t ps id a l mn mx us co w):=by
 have hpl:Hid (ps.length=n):=hk.ps.len;go_enter Tryz.func141,Tryz.ntmps141;go_upto_region 1 with fail
 obtain⟨w0,hw0⟩:∃w0,w0=(((w.alloc (lP t (.slice x n c))).alloc (.cells #[.int .i64 a, .int .i64 l] 53)).alloc (.cells #[.int .i64 mn, .int .i64 mx, .int .i64 us, .int .i64 co] 61)).alloc (lP 0 (.slice none 0 0)):=⟨_,rfl⟩;rw[<-hw0];have hT0:TO w w0 t a l mn mx us co (.slice x n c):=by
  rw[hw0];exact⟨aH _ (aH _ (aH _ (aB _ rfl))),aH _ (aH _ (aB _ (by simp))),aH _ (aB _ (by simp)),aB _ (by simp),((bP w _ _).alloc (by simp;omega) _).alloc (by simp;omega) _⟩
 clear hw0;obtain⟨b0,b1⟩:=aZ hT0.hb rfl rfl;obtain⟨a0,a1⟩:=aZ hT0.hp rfl rfl;obtain⟨u0,u1,u2,u3⟩:=fW hT0.hu rfl rfl rfl rfl;obtain⟨s0,s1⟩:=aZ hT0.hs rfl rfl;obtain⟨zs0,zs1⟩:=eA hT0.hs;have hck:=mA t x n c ps w0 (hk.later hT0.below);by_cases hc0:aX t ps=0
 ·rw[hc0]at hck;have hE1:Hid (gQ t ps id a l mn mx us co=if bV id 1 65536=false\/chk a l≠0 then 3 else if 0<=aS ps id\/anyAt ps.length (lW ps a l)=true then 6 else xV ps l mn mx us co):=if_neg (c:=aX t ps≠0) (by simp[hc0]);have hn8:n<=8:=by rw[<-hpl.out];exact wS hc0
  go_wp2_with fail;refine(hck).mono ?_;rintro e w1 ⟨rfl,hb1⟩;have hT1:=hT0.later hb1;clear b0 b1 a0 a1 u0 u1 u2 u3 s0 s1 zs0 zs1;obtain⟨b0,b1⟩:=aZ hT1.hb rfl rfl;obtain⟨a0,a1⟩:=aZ hT1.hp rfl rfl;obtain⟨u0,u1,u2,u3⟩:=fW hT1.hu rfl rfl rfl rfl;obtain⟨s0,s1⟩:=aZ hT1.hs rfl rfl;obtain⟨zs0,zs1⟩:=eA hT1.hs
  cases hid:bV id 1 65536 with
  |false=>
   have hne:gQ t ps id a l mn mx us co=3/\(3:Int)≠0:=⟨hE1.out.trans (if_pos (.inl hid)),by decide⟩
   go_wp2_with fail
   refine(isId_is id false hid _).mono ?_
   rintro e w1 ⟨rfl,rfl⟩
   go_wp2
   refine bodyPost_ret (v:= .tuple #[.agg #[.int .i64 0, .slice none 0 0], .int .i64 3]) (by simp[results,Tryz.results141,go_sem,s0,s1]) rfl ?_
   exact fF.err hne ((hT1.below.setCell (p:=⟨w.heap.size+3,0,none⟩) (zA) _).setCell (p:=⟨w.heap.size+3,1,none⟩) (zA) _)
  |true=>
   go_wp2_with fail
   refine(isId_is id true hid _).mono ?_
   rintro e w1 ⟨rfl,rfl⟩
   have hcp:=check_any a l w1
   by_cases hcz:chk a l=0
   ·rw[hcz]at hcp;have hE2:Hid (gQ t ps id a l mn mx us co=if 0<=aS ps id\/anyAt ps.length (lW ps a l)=true then 6 else xV ps l mn mx us co):=hE1.out.trans (if_neg (c:=bV id 1 65536=false\/chk a l≠0) (by simp[hid,hcz]));go_wp2_with fail;refine(hcp).mono ?_;rintro e w2 ⟨rfl,hb2⟩;have hT2:=hT1.later hb2;clear b0 b1 a0 a1 u0 u1 u2 u3 s0 s1 zs0 zs1;obtain⟨b0,b1⟩:=aZ hT2.hb rfl rfl;obtain⟨a0,a1⟩:=aZ hT2.hp rfl rfl;obtain⟨u0,u1,u2,u3⟩:=fW hT2.hu rfl rfl rfl rfl;obtain⟨s0,s1⟩:=aZ hT2.hs rfl rfl;obtain⟨zs0,zs1⟩:=eA hT2.hs;have hpc:=pplace_any t id x n c ps w2 (hk.later hT2.below).ps (by omega);by_cases hat:aS ps id<0
    ·have hge:¬(0<=aS ps id):=by omega
     go_wp2_with fail;refine(hpc).mono ?_;rintro e w3 ⟨rfl,hb3⟩;have hT3:=hT2.later hb3;clear b0 b1 a0 a1 u0 u1 u2 u3 s0 s1 zs0 zs1;obtain⟨b0,b1⟩:=aZ hT3.hb rfl rfl;obtain⟨a0,a1⟩:=aZ hT3.hp rfl rfl;obtain⟨u0,u1,u2,u3⟩:=fW hT3.hu rfl rfl rfl rfl;obtain⟨s0,s1⟩:=aZ hT3.hs rfl rfl;obtain⟨zs0,zs1⟩:=eA hT3.hs;have hmt:=rE a l x n c ps w3 (hk.later hT3.below).ps (by omega)
     cases hany:anyAt n (lW ps a l)with
     |true=>
      rw[hany]at hmt
      have hne:gQ t ps id a l mn mx us co=6/\(6:Int)≠0:=⟨hE2.out.trans (if_pos (.inr (by rw[hpl.out];exact hany))),by decide⟩
      go_wp2_with fail
      refine(hmt).mono ?_
      rintro e w4 ⟨rfl,hb4⟩
      have hT4:=hT3.later hb4
      clear b0 b1 a0 a1 u0 u1 u2 u3 s0 s1 zs0 zs1
      obtain⟨b0,b1⟩:=aZ hT4.hb rfl rfl
      obtain⟨a0,a1⟩:=aZ hT4.hp rfl rfl
      obtain⟨u0,u1,u2,u3⟩:=fW hT4.hu rfl rfl rfl rfl
      obtain⟨s0,s1⟩:=aZ hT4.hs rfl rfl
      obtain⟨zs0,zs1⟩:=eA hT4.hs
      go_wp2
      refine bodyPost_ret (v:= .tuple #[.agg #[.int .i64 0, .slice none 0 0], .int .i64 6]) (by simp[results,Tryz.results141,go_sem,s0,s1]) rfl ?_
      exact fF.err hne ((hT4.below.setCell (p:=⟨w.heap.size+3,0,none⟩) (zA) _).setCell (p:=⟨w.heap.size+3,1,none⟩) (zA) _)
     |false=>
      rw[hany]at hmt
      have hE3:gQ t ps id a l mn mx us co=xV ps l mn mx us co:=hE2.out.trans (if_neg (c:=0<=aS ps id\/anyAt ps.length (lW ps a l)=true) (by rw[hpl.out,hany];simp;omega))
      go_wp2_with fail
      refine(hmt).mono ?_
      rintro e w4 ⟨rfl,hb4⟩
      have hT4:=hT3.later hb4
      clear b0 b1 a0 a1 u0 u1 u2 u3 s0 s1 zs0 zs1
      obtain⟨b0,b1⟩:=aZ hT4.hb rfl rfl
      obtain⟨a0,a1⟩:=aZ hT4.hp rfl rfl
      obtain⟨u0,u1,u2,u3⟩:=fW hT4.hu rfl rfl rfl rfl
      obtain⟨s0,s1⟩:=aZ hT4.hs rfl rfl
      obtain⟨zs0,zs1⟩:=eA hT4.hs
      have hae:=DW t a l mn mx us co x n c ps hpl.out w4
      by_cases hz:xV ps l mn mx us co=0
      ·rw[hz]at hae;have hE0:gQ t ps id a l mn mx us co=0:=hE3.trans hz;go_wp2_with fail;refine(hae).mono ?_;rintro e w5 ⟨rfl,hb5⟩;have hT5:=hT4.later hb5;clear b0 b1 a0 a1 u0 u1 u2 u3 s0 s1 zs0 zs1;obtain⟨b0,b1⟩:=aZ hT5.hb rfl rfl;obtain⟨a0,a1⟩:=aZ hT5.hp rfl rfl;obtain⟨u0,u1,u2,u3⟩:=fW hT5.hu rfl rfl rfl rfl;obtain⟨s0,s1⟩:=aZ hT5.hs rfl rfl;obtain⟨zs0,zs1⟩:=eA hT5.hs;have hsz5:w.heap.size+3<w5.heap.size:=(zG hT5.hs);go_wp2_with fail;refine(DV t x n c ps ⟨id,0,a,l,mn,mx,us,co,none,0,0,[]⟩ w5 (hk.later hT5.below) hn8 rfl rfl rfl rfl).mono ?_;rintro e w6 ⟨v6,qs,rs,rfl,hb6,hs,hput,hOB⟩;obtain⟨x6,c6,rfl, -⟩:=hOB.row.mem;have hT6:=hT5.later hb6;clear b0 b1 a0 a1 u0 u1 u2 u3 s0 s1 zs0 zs1;obtain⟨b0,b1⟩:=aZ hT6.hb rfl rfl;obtain⟨a0,a1⟩:=aZ hT6.hp rfl rfl;obtain⟨u0,u1,u2,u3⟩:=fW hT6.hu rfl rfl rfl rfl;obtain⟨s0,s1⟩:=aZ hT6.hs rfl rfl;obtain⟨zs0,zs1⟩:=eA hT6.hs;go_wp2;refine bodyPost_ret (v:= .tuple #[.agg #[.int .i64 t, .slice x6 rs.length c6], .int .i64 0]) (by simp[results,Tryz.results141,go_sem,s0,s1]) rfl ?_;have hfin:=(hT6.below.setCell (p:=⟨w.heap.size+3,0,none⟩) (zA) (.int .i64 t)).setCell (p:=⟨w.heap.size+3,1,none⟩) (zA) (.slice x6 rs.length c6);have hob:=((hOB.put (o:=0) (u:= .int .i64 t) hsz5).put (o:=1) (u:= .slice x6 rs.length c6) hsz5).low hT5.below.size;exact⟨_,rs,t,by rw[hE0],hfin,hob,fun h=>absurd hE0 h,fun _=>⟨rfl,qs,hs,hput⟩⟩
      ·have hne:gQ t ps id a l mn mx us co=xV ps l mn mx us co/\xV ps l mn mx us co≠0:=⟨hE3,hz⟩;go_wp2_with fail;refine(hae).mono ?_;rintro e w5 ⟨rfl,hb5⟩;have hT5:=hT4.later hb5;clear b0 b1 a0 a1 u0 u1 u2 u3 s0 s1 zs0 zs1;obtain⟨b0,b1⟩:=aZ hT5.hb rfl rfl;obtain⟨a0,a1⟩:=aZ hT5.hp rfl rfl;obtain⟨u0,u1,u2,u3⟩:=fW hT5.hu rfl rfl rfl rfl;obtain⟨s0,s1⟩:=aZ hT5.hs rfl rfl;obtain⟨zs0,zs1⟩:=eA hT5.hs;go_wp2;refine bodyPost_ret (v:= .tuple #[.agg #[.int .i64 0, .slice none 0 0], .int .i64 (xV ps l mn mx us co)]) (by simp[results,Tryz.results141,go_sem,s0,s1]) rfl ?_;exact fF.err hne ((hT5.below.setCell (p:=⟨w.heap.size+3,0,none⟩) (zA) _).setCell (p:=⟨w.heap.size+3,1,none⟩) (zA) _)
    ·have hge:0<=aS ps id:=by omega
     have hne:gQ t ps id a l mn mx us co=6/\(6:Int)≠0:=⟨hE2.out.trans (if_pos (.inl (by omega))),by decide⟩;go_wp2_with fail;refine(hpc).mono ?_;rintro e w3 ⟨rfl,hb3⟩;have hT3:=hT2.later hb3;clear b0 b1 a0 a1 u0 u1 u2 u3 s0 s1 zs0 zs1;obtain⟨b0,b1⟩:=aZ hT3.hb rfl rfl;obtain⟨a0,a1⟩:=aZ hT3.hp rfl rfl;obtain⟨u0,u1,u2,u3⟩:=fW hT3.hu rfl rfl rfl rfl;obtain⟨s0,s1⟩:=aZ hT3.hs rfl rfl;obtain⟨zs0,zs1⟩:=eA hT3.hs;go_wp2;refine bodyPost_ret (v:= .tuple #[.agg #[.int .i64 0, .slice none 0 0], .int .i64 6]) (by simp[results,Tryz.results141,go_sem,s0,s1]) rfl ?_;exact fF.err hne ((hT3.below.setCell (p:=⟨w.heap.size+3,0,none⟩) (zA) _).setCell (p:=⟨w.heap.size+3,1,none⟩) (zA) _)
   ·have hne:gQ t ps id a l mn mx us co=3/\(3:Int)≠0:=⟨hE1.out.trans (if_pos (.inr hcz)),by decide⟩;go_wp2_with fail;refine(hcp).mono ?_;rintro e w2 ⟨rfl,hb2⟩;have hT2:=hT1.later hb2;clear b0 b1 a0 a1 u0 u1 u2 u3 s0 s1 zs0 zs1;obtain⟨b0,b1⟩:=aZ hT2.hb rfl rfl;obtain⟨a0,a1⟩:=aZ hT2.hp rfl rfl;obtain⟨u0,u1,u2,u3⟩:=fW hT2.hu rfl rfl rfl rfl;obtain⟨s0,s1⟩:=aZ hT2.hs rfl rfl;obtain⟨zs0,zs1⟩:=eA hT2.hs;go_wp2;refine bodyPost_ret (v:= .tuple #[.agg #[.int .i64 0, .slice none 0 0], .int .i64 3]) (by simp[results,Tryz.results141,go_sem,s0,s1]) rfl ?_;exact fF.err hne ((hT2.below.setCell (p:=⟨w.heap.size+3,0,none⟩) (zA) _).setCell (p:=⟨w.heap.size+3,1,none⟩) (zA) _)
 ·have hne:gQ t ps id a l mn mx us co=aX t ps/\aX t ps≠0:=⟨if_pos hc0,hc0⟩;go_wp2_with fail;refine(hck).mono ?_;rintro e w1 ⟨rfl,hb1⟩;have hT1:=hT0.later hb1;clear b0 b1 a0 a1 u0 u1 u2 u3 s0 s1 zs0 zs1;obtain⟨b0,b1⟩:=aZ hT1.hb rfl rfl;obtain⟨a0,a1⟩:=aZ hT1.hp rfl rfl;obtain⟨u0,u1,u2,u3⟩:=fW hT1.hu rfl rfl rfl rfl;obtain⟨s0,s1⟩:=aZ hT1.hs rfl rfl;obtain⟨zs0,zs1⟩:=eA hT1.hs;go_wp2;refine bodyPost_ret (v:= .tuple #[.agg #[.int .i64 0, .slice none 0 0], .int .i64 (aX t ps)]) (by simp[results,Tryz.results141,go_sem,s0,s1]) rfl ?_;exact fF.err hne ((hT1.below.setCell (p:=⟨w.heap.size+3,0,none⟩) (zA) _).setCell (p:=⟨w.heap.size+3,1,none⟩) (zA) _)
theorem F6(base g k cap i j:Nat)(es:List Le)(w:World)(hO:dL w base (.slice (some ⟨g,0,none⟩) (k+1) cap) es)(hn:es.length=k+1)(hi:i<=k)(hj:j=i+1)(hn64:k<=64)(hnc:k+1<=cap)(hcm:cap<=9223372036854775807):
  Calls Tryz.prog 237 #[.slice (some ⟨g,0,none⟩) (k+1) cap, .int .i64 i, .int .i64 j] w fun e w'=>e= .returned (.slice (some ⟨g,0,none⟩) k cap)/\dL w' base (.slice (some ⟨g,0,none⟩) k cap) (es.take i++es.drop j)/\w.grownBy w' (some g):=
 (K5.1 _ _ Y2 base g k cap i j (flatL es) w (by unfold dL at hO;rw[hn]at hO;exact hO) (oM es) hi hj hn64 hnc hcm).mono fun e w1 h=>⟨h.1,K4 flatL iP CA hn (by omega) hj h.2.1,h.2.2⟩
end Go.Proofs.YtkgeoeglidnnnaaGreatDoor
