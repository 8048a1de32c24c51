/- A part of the proof. -/
import Derived.Test.YtkgeoeglidnnnaaGreatDoorMD07
set_option maxRecDepth 100000
set_option maxHeartbeats 20000000
namespace Go.Proofs.YtkgeoeglidnnnaaGreatDoor
variable {a l y t' vid r : Int} {n k rn i j base g cap c o base' c' b sn : Nat} {fs gs : List Fc} {f : Nat → Bool} {ns al es : List Int} {ss ts : List Sb} {w w' W W1 V w0 w1 w2 : World} {ad : Addr} {x x' : Option Addr} {v u vR vS : Value} {cur cs : Array Value} {t : TypeId}
open Go.RowKit Go.Shelf
def GX(a l:Int)(al:List Int)(ns:List Int)(i:Nat):Bool:=mC a l (aU ns i)&&(i==0||decide (aU ns (i- 1)<aU ns i))&&!anyAt al.length (fun j=>aU al j==aU ns i)
def qL(fs:List Fc)(k:Nat):Bool:=bV (fcAt fs k).id 1 65536&&(k==0||decide ((fcAt fs (k- 1)).id<(fcAt fs k).id))&&decide (0<(fcAt fs k).n)
def D9(a l:Int)(fs:List Fc)(k:Nat):Bool:=qL fs k&&(List.range (fcAt fs k).n).all (GX a l (aT (fs.take k)) (fcAt fs k).ns)
def IC(a l:Int)(n:Nat)(fs:List Fc):Bool:=(List.range n).all (D9 a l fs)
theorem X4(hk:k<n)(h:D9 a l fs k=false):IC a l n fs=false:=dJ hk h
theorem aCj(hk:k<n)(h:qL fs k=false):IC a l n fs=false:=X4 hk (by unfold D9;rw[h];rfl)
theorem X7{q:Nat}(hk:k<n)(hq:q<(fcAt fs k).n)(h:GX a l (aT (fs.take k)) (fcAt fs k).ns q=false):IC a l n fs=false:=X4 hk (by unfold D9;rw[dJ hq h];simp)
theorem BL(id a l:Int)(x:Option Addr)(n c:Nat)(fs:List Fc)(w:World)(hr:rt a l=true)(hp:oW w x n fs)(hn:n<=8)(hm:∀i,i<n->(fcAt fs i).n<=4):
  Calls Tryz.prog 68 #[.agg #[.int .i64 id, .int .i64 a, .int .i64 l, .slice x n c]] w fun e w'=>e= .returned (.bool (IC a l n fs))/\Below w.heap.size w w':=by
 have hfl:Hid (fs.length=n):=hp.len;go_enter Tryz.func68,Tryz.ntmps68;go_upto_region 1 with fail
 obtain⟨w2,hw2⟩:∃w2,w2=w.alloc (.cells #[.int .i64 id, .int .i64 a, .int .i64 l, .slice x n c] 72):=⟨_,rfl⟩;rw[<-hw2];have h02:Below w.heap.size w w2:=by rw[hw2];exact bl1 w _
 have hbox:w2.heap[w.heap.size]?=some (.cells #[.int .i64 id, .int .i64 a, .int .i64 l, .slice x n c] 72):=by rw[hw2];exact aB _ rfl
 clear hw2;have hp2:=hp.later h02;obtain⟨hcl, -⟩:=aD hbox;have q0:w2.cell? ⟨w.heap.size,0,none⟩=some (.int .i64 id):=hcl 0;have q1:w2.cell? ⟨w.heap.size,1,none⟩=some (.int .i64 a):=hcl 1;have q2:w2.cell? ⟨w.heap.size,2,none⟩=some (.int .i64 l):=hcl 2;have q3:w2.cell? ⟨w.heap.size,3,none⟩=some (.slice x n c):=hcl 3;clear hcl hbox;have hsz:Hid (w.heap.size<=w2.heap.size):=h02.size;generalize hbk:w.heap.size=bk at*;go_wp2;go_loopw [3,4] (fun u i wr=>∃k:Nat,k<=n/\i= .int .i64 k/\Below w2.heap.size w2 wr/\dQ wr w2.heap.size u (aT (fs.take k))/\(∀j,j<k->D9 a l fs j=true)/\(aT (fs.take k)).length<=k*4) (fun _ i _=>n- (intOf i).toNat)
 case atStart=>exact⟨0,by omega,rfl,zD,World.ownsRow_nil _ _ _ _,fun j hj=>by omega,by simp[aT]⟩
 case round=>
  obtain⟨k,hk,rfl,hB,hO,hok,hL⟩:=hrel
  have r0:=cell_later hB q0
  have r1:=cell_later hB q1
  have r2:=cell_later hB q2
  have r3:=cell_later hB q3
  have hall:Below bk w wr:=h02.trans (hB.mono hsz.out)
  by_cases hlt:k<n
  ·have hlt':Hid (k<n):=hlt;have hpr:=hp2.later hB;obtain⟨b,o,rfl,c0,c1⟩:=hpr.cells k hlt;obtain⟨hfc, -,hI⟩:=hpr.addrs k hlt;have hm1:=hm k hlt;have hst:Hid (aT (fs.take (k+1))=aT (fs.take k)++(fcAt fs k).ns):=qI (by rw[hfl.out];exact hlt);have hffd:Hid (qL fs k=(bV (fcAt fs k).id 1 65536&&(k==0||decide ((fcAt fs (k- 1)).id<(fcAt fs k).id))&&decide (0<(fcAt fs k).n))):=rfl;have hffa:Hid (D9 a l fs k=(qL fs k&&(List.range (fcAt fs k).n).all (GX a l (aT (fs.take k)) (fcAt fs k).ns))):=rfl;go_upto_region 6 with fail
   obtain⟨w3,hw3⟩:∃w3,w3=wr.alloc (.cells #[.int .i64 (fcAt fs k).id, .slice (fcAt fs k).x (fcAt fs k).n (fcAt fs k).c] 75):=⟨_,rfl⟩;rw[<-hw3];have h23:Below wr.heap.size wr w3:=by rw[hw3];exact bl1 wr _
   have hbf:w3.heap[wr.heap.size]?=some (.cells #[.int .i64 (fcAt fs k).id, .slice (fcAt fs k).x (fcAt fs k).n (fcAt fs k).c] 75):=by rw[hw3];exact aB _ rfl
   clear hw3 c0 c1;have s0:=cell_later h23 r0;have s1:=cell_later h23 r1;have s2:=cell_later h23 r2;have s3:=cell_later h23 r3;clear r0 r1 r2 r3;have hp3:=hpr.later h23;have hI3:=hI.later h23;have hO3:=hO.later h23;have hB3:=hB.trans (h23.mono hB.size);have hall3:Below bk w w3:=h02.trans (hB3.mono hsz.out);have hsz3:Hid (bk<=w3.heap.size):=Nat.le_trans hsz.out hB3.size;generalize wr.heap.size=bf at*;clear hB h23 hpr hI hO hall;clear wr;have hfb:=(aD hbf).1;have t0:w3.cell? ⟨bf,0,none⟩=some (.int .i64 (fcAt fs k).id):=hfb 0;have t1:w3.cell? ⟨bf,1,none⟩=some (.slice (fcAt fs k).x (fcAt fs k).n (fcAt fs k).c):=hfb 1;clear hfb hbf;have g1:=Ws.here t0;have g2:=Ws.here t1;have g3:=Ws.here s3;go_cut [45] (fun t wc=>t= .bool (!qL fs k)/\Below w3.heap.size w3 wc)
   case first=>
    cases hwt:bV (fcAt fs k).id 1 65536
    ·have hv:Hid (qL fs k=false):=by show _=_;rw[hffd.out,hwt];rfl
     refine aE w3.heap.size (by kernel_rfl) (by kernel_rfl) ?_;repeat(go_big_quiet_step ((go_at_call 31;exact Calls.in_ws_same (within_at _ _ _ _ hwt _))))
     refine wpQuiet_nil ?_;rintro _ ⟨u,rfl⟩;have hu:=u.property;generalize u.val=wu at hu⊢;clear u g1 g2 g3;go_wp2;go_meet
     case rel=>exact⟨by rw[hv.out];rfl,hu⟩
    ·by_cases hk0:k=0
     ·have hdk:decide (0<k)=false:=by simp;omega
      have hv0:Hid (qL fs k=decide (0<(fcAt fs k).n)):=by show _=_;rw[hffd.out,hwt,hk0];simp
      clear hk0;by_cases hf0:(fcAt fs k).n=0
      ·have hv:Hid (qL fs k=false):=by show _=_;rw[hv0.out,decide_eq_false (by omega)]
       have hfe:(((fcAt fs k).n:Int)==0)=true:=by simp[hf0]
       clear hf0;refine aE w3.heap.size (by kernel_rfl) (by kernel_rfl) ?_;repeat(go_big_quiet_step ((go_at_call 31;exact Calls.in_ws_same (within_at _ _ _ _ hwt _))))
       refine wpQuiet_nil ?_;rintro _ ⟨u,rfl⟩;have hu:=u.property;generalize u.val=wu at hu⊢;clear u g1 g2 g3;go_wp2;go_meet
       case rel=>exact⟨by rw[hv.out];rfl,hu⟩
      ·have hv:Hid (qL fs k=true):=by show _=_;rw[hv0.out,decide_eq_true (by omega)]
       have hfe:(((fcAt fs k).n:Int)==0)=false:=by simp;omega
       refine aE w3.heap.size (by kernel_rfl) (by kernel_rfl) ?_;repeat(go_big_quiet_step ((go_at_call 31;exact Calls.in_ws_same (within_at _ _ _ _ hwt _))))
       refine wpQuiet_nil ?_;rintro _ ⟨u,rfl⟩;have hu:=u.property;generalize u.val=wu at hu⊢;clear u g1 g2 g3;go_wp2;go_meet
       case rel=>exact⟨by rw[hv.out];rfl,hu⟩
     ·obtain⟨i,rfl⟩:∃i,k=i+1:=⟨k- 1,by omega⟩;obtain⟨b4,o4,hx4,d0, -⟩:=hp3.cells i (by omega);simp only[Option.some.injEq,Addr.mk.injEq,and_true]at hx4;obtain⟨rfl,rfl⟩:=hx4;have g4:=Ws.here d0;rw[Nat.add_sub_cancel]at hffd;by_cases hle:(fcAt fs i).id<(fcAt fs (i+1)).id
      ·have hge:decide ((fcAt fs i).id≥(fcAt fs (i+1)).id)=false:=by simp;omega
       by_cases hf0:(fcAt fs (i+1)).n=0
       ·have hv:Hid (qL fs (i+1)=false):=by show _=_;rw[hffd.out,decide_eq_false (p:=0<(fcAt fs (i+1)).n) (by omega)];simp
        have hfe:(((fcAt fs (i+1)).n:Int)==0)=true:=by simp[hf0]
        clear hf0;refine aE w3.heap.size (by kernel_rfl) (by kernel_rfl) ?_;repeat(go_big_quiet_step ((go_at_call 31;exact Calls.in_ws_same (within_at _ _ _ _ hwt _))))
        refine wpQuiet_nil ?_;rintro _ ⟨u,rfl⟩;have hu:=u.property;generalize u.val=wu at hu⊢;clear u g4 g1 g2 g3;go_wp2;go_meet
        case rel=>exact⟨by rw[hv.out];rfl,hu⟩
       ·have hv:Hid (qL fs (i+1)=true):=by show _=_;rw[hffd.out,hwt,decide_eq_true hle];simp;omega
        have hfe:(((fcAt fs (i+1)).n:Int)==0)=false:=by simp;omega
        refine aE w3.heap.size (by kernel_rfl) (by kernel_rfl) ?_;repeat(go_big_quiet_step ((go_at_call 31;exact Calls.in_ws_same (within_at _ _ _ _ hwt _))))
        refine wpQuiet_nil ?_;rintro _ ⟨u,rfl⟩;have hu:=u.property;generalize u.val=wu at hu⊢;clear u g4 g1 g2 g3;go_wp2;go_meet
        case rel=>exact⟨by rw[hv.out];rfl,hu⟩
      ·have hge:decide ((fcAt fs i).id≥(fcAt fs (i+1)).id)=true:=by simp;omega
       have hv:Hid (qL fs (i+1)=false):=by show _=_;rw[hffd.out,decide_eq_false hle];simp
       refine aE w3.heap.size (by kernel_rfl) (by kernel_rfl) ?_;repeat(go_big_quiet_step ((go_at_call 31;exact Calls.in_ws_same (within_at _ _ _ _ hwt _))))
       refine wpQuiet_nil ?_;rintro _ ⟨u,rfl⟩;have hu:=u.property;generalize u.val=wu at hu⊢;clear u g4 g1 g2 g3;go_wp2;go_meet
       case rel=>exact⟨by rw[hv.out];rfl,hu⟩
   case rest=>
    obtain⟨rfl,hBc⟩:=hcut
    obtain⟨wb,rfl⟩:∃wb,wb=wc:=⟨_,rfl⟩
    have hBc2:=hB3.trans (hBc.mono hB3.size)
    have hallc:Below bk w wb:=h02.trans (hBc2.mono hsz.out)
    have hszc:Hid (bk<=wb.heap.size):=Nat.le_trans hsz3.out hBc.size
    have k0:=cell_later hBc s0
    have k1:=cell_later hBc s1
    have k2:=cell_later hBc s2
    have k3:=cell_later hBc s3
    have m0:=cell_later hBc t0
    have m1:=cell_later hBc t1
    have hIc:=hI3.later hBc
    have hOc:=hO3.later hBc
    clear g1 g2 g3 s0 s1 s2 s3 t0 t1 hI3 hO3 hB3 hall3 hp3
    cases hh:qL fs k
    ·have hbad:Hid (IC a l n fs=false):=aCj hlt hh;go_wp2;go_ret;exact⟨aI hbad.out.symm,by rw[hbk];exact hallc⟩
    ·have hfn0:Hid (0<(fcAt fs k).n):=by
      show _<_;rw[hffd.out]at hh;simp only[zH,decide_eq_true_eq]at hh;exact hh.2
     obtain⟨fx,fo,hfx, -⟩:=hIc.cells 0 hfn0.out;obtain⟨ax,ac,rfl,hac, -, -,hIA⟩:=hOc.mem;have hAl:∃N,N=(aT (fs.take k)).length:=⟨_,rfl⟩;obtain⟨N,hN⟩:=hAl;have hNl:Hid ((aT (fs.take k)).length=N):=hN.symm;rw[<-hN]at hIA hac hL⊢;have hNow:Hid (dQ wb w2.heap.size (.slice ax N ac) (aT (fs.take k))):=by rw[hN];exact hOc
     clear hN hOc;rw[hfx]at m1 hIc;go_wp2;go_loopw [6] (fun i wr=>∃q:Nat,q<=(fcAt fs k).n/\i= .int .i64 q/\Below wb.heap.size wb wr/\(∀j,j<q->GX a l (aT (fs.take k)) (fcAt fs k).ns j=true)) (fun i _=>(fcAt fs k).n- (intOf i).toNat)
     case atStart=>exact⟨0,by omega,rfl,zD,fun j hj=>by omega⟩
     case round=>
      obtain⟨q,hq,rfl,hB,hokq⟩:=hrel
      have e1:=cell_later hB m1
      by_cases hq2:q<(fcAt fs k).n
      ·have hq':Hid (q<(fcAt fs k).n):=hq2;have hIr:=hIc.later hB;obtain⟨b7,o7,hx7,d0⟩:=hIr.cells q hq2;simp only[Option.some.injEq,Addr.mk.injEq,and_true]at hx7;obtain⟨rfl,rfl⟩:=hx7;have hfad:Hid (GX a l (aT (fs.take k)) (fcAt fs k).ns q=(mC a l (aU (fcAt fs k).ns q)&&(q==0||decide (aU (fcAt fs k).ns (q- 1)<aU (fcAt fs k).ns q))&&!anyAt (aT (fs.take k)).length (fun j=>aU (aT (fs.take k)) j==aU (fcAt fs k).ns q))):=rfl;have g1:=Ws.here (cell_later hB k0);have g2:=Ws.here (cell_later hB k1);have g3:=Ws.here (cell_later hB k2);have g4:=Ws.here (cell_later hB k3);have g5:=Ws.here e1;have g6:=Ws.here d0;go_upto_region 11 with fail
       obtain⟨ok2,hok2⟩:∃ok2,Hid (ok2=(mC a l (aU (fcAt fs k).ns q)&&(q==0||decide (aU (fcAt fs k).ns (q- 1)<aU (fcAt fs k).ns q)))):=⟨_,rfl⟩;go_cut [78] (fun t wc=>t= .bool (!ok2)/\Below wr.heap.size wr wc)
       case first=>
        cases hus:mC a l (aU (fcAt fs k).ns q)
        ·have hv:Hid (ok2=false):=by show _=_;rw[hok2.out,hus];rfl
         refine aE wr.heap.size (by kernel_rfl) (by kernel_rfl) ?_;repeat(go_big_quiet_step ((go_at_call 107;exact Calls.in_ws (zE) (rZ _ _ _ _ _ _ _ _ hus _ hr))))
         refine wpQuiet_nil ?_;rintro _ ⟨u,rfl⟩;have hu:=u.property;generalize u.val=wu at hu⊢;clear u g1 g2 g3 g4 g5 g6;go_wp2;go_meet
         case rel=>exact⟨by rw[hv.out];rfl,hu⟩
        ·by_cases hk0:q=0
         ·have hdk:decide (0<q)=false:=by simp;omega
          have hv:Hid (ok2=true):=by show _=_;rw[hok2.out,hus,hk0];rfl
          clear hk0;refine aE wr.heap.size (by kernel_rfl) (by kernel_rfl) ?_;repeat(go_big_quiet_step ((go_at_call 107;exact Calls.in_ws (zE) (rZ _ _ _ _ _ _ _ _ hus _ hr))))
          refine wpQuiet_nil ?_;rintro _ ⟨u,rfl⟩;have hu:=u.property;generalize u.val=wu at hu⊢;clear u g1 g2 g3 g4 g5 g6;go_wp2;go_meet
          case rel=>exact⟨by rw[hv.out];rfl,hu⟩
         ·obtain⟨i,rfl⟩:∃i,q=i+1:=⟨q- 1,by omega⟩;obtain⟨b8,o8,hx8,d1⟩:=hIr.cells i (by omega);simp only[Option.some.injEq,Addr.mk.injEq,and_true]at hx8;obtain⟨rfl,rfl⟩:=hx8;have g7:=Ws.here d1;rw[Nat.add_sub_cancel]at hok2;by_cases hle:aU (fcAt fs k).ns i<aU (fcAt fs k).ns (i+1)
          ·have hge:decide (aU (fcAt fs k).ns i≥aU (fcAt fs k).ns (i+1))=false:=by simp;omega
           have hv:Hid (ok2=true):=by show _=_;rw[hok2.out,hus,decide_eq_true hle];simp
           refine aE wr.heap.size (by kernel_rfl) (by kernel_rfl) ?_;repeat(go_big_quiet_step ((go_at_call 107;exact Calls.in_ws (zE) (rZ _ _ _ _ _ _ _ _ hus _ hr))))
           refine wpQuiet_nil ?_;rintro _ ⟨u,rfl⟩;have hu:=u.property;generalize u.val=wu at hu⊢;clear u g1 g2 g3 g4 g5 g6 g7;go_wp2;go_meet
           case rel=>exact⟨by rw[hv.out];rfl,hu⟩
          ·have hge:decide (aU (fcAt fs k).ns i≥aU (fcAt fs k).ns (i+1))=true:=by simp;omega
           have hv:Hid (ok2=false):=by show _=_;rw[hok2.out,hus,decide_eq_false hle];simp
           refine aE wr.heap.size (by kernel_rfl) (by kernel_rfl) ?_;repeat(go_big_quiet_step ((go_at_call 107;exact Calls.in_ws (zE) (rZ _ _ _ _ _ _ _ _ hus _ hr))))
           refine wpQuiet_nil ?_;rintro _ ⟨u,rfl⟩;have hu:=u.property;generalize u.val=wu at hu⊢;clear u g1 g2 g3 g4 g5 g6 g7;go_wp2;go_meet
           case rel=>exact⟨by rw[hv.out];rfl,hu⟩
       case rest=>
        obtain⟨rfl,hBd⟩:=hcut
        clear g1 g2 g3 g4 g5 g6
        have hBd2:=hB.trans (hBd.mono hB.size)
        have halld:Below bk w wc:=hallc.trans (hBd2.mono hszc.out)
        cases hok3:ok2
        ·have hbad:Hid (IC a l n fs=false):=X7 hlt hq2 (by rw[hfad.out,<-hok2.out,hok3];rfl);go_wp2;go_ret;exact⟨aI hbad.out.symm,by rw[hbk];exact halld⟩
        ·have hALr:=hIA.later hBd2;have hNow2:=hBd2;go_wp2;obtain⟨wq,rfl⟩:∃wq,wq=wr:=⟨_,rfl⟩;go_loopw [7] (fun i wr=>∃z:Nat,z<=N/\i= .int .i64 z/\Below wc.heap.size wc wr/\(∀j,j<z->(aU (aT (fs.take k)) j==aU (fcAt fs k).ns q)=false)) (fun i _=>N- (intOf i).toNat)
         case atStart=>exact⟨0,by omega,rfl,zD,fun j hj=>by omega⟩
         case round=>
          obtain⟨z,hz,rfl,hBz,hnoz⟩:=hrel
          by_cases hz2:z<N
          ·have hz':Hid (z<N):=hz2;obtain⟨b9,o9,rfl,d9⟩:=(hALr.later hBz).cells z hz2;have g1:=Ws.here d9;have g2:=Ws.here (cell_later hBz (cell_later hBd e1));have g3:=Ws.here (cell_later hBz (cell_later hBd d0));clear d9
           cases heq:(aU (aT (fs.take k)) z==aU (fcAt fs k).ns q);all_goals go_upto_region 16 with fail
           all_goals refine aE wr.heap.size (by kernel_rfl) (by kernel_rfl) ?_
           all_goals repeat(go_big_quiet_step (fail))
           all_goals refine wpQuiet_nil ?_
           all_goals rintro _ ⟨u,rfl⟩
           all_goals have hu:=hBz.trans (u.property.mono hBz.size)
           all_goals generalize u.val=wu at hu⊢
           all_goals clear u g1 g2 g3
           ·go_wp2;go_roundw
            case rel=>exact⟨z+1,hz'.out,by go_num,hu,fun j hj=>by
             by_cases hj2:j<z
             ·exact hnoz j hj2
             ·obtain rfl:j=z:=by omega
              exact heq⟩
            case measure=>simp[intOf];have:=hz'.out;omega
           ·have hbad:Hid (IC a l n fs=false):=X7 hlt hq2 (by rw[hfad.out,aW (f:=fun j=>aU (aT (fs.take k)) j==aU (fcAt fs k).ns q) (by rw[hNl.out];exact hz'.out) heq];simp);have hfin:Below bk w wu:=halld.trans (hu.mono (Nat.le_trans hszc.out hBd2.size));go_wp2;go_ret;exact⟨aI hbad.out.symm,by rw[hbk];exact hfin⟩
          ·obtain rfl:z=N:=by omega
           have hyes:Hid (GX a l (aT (fs.take k)) (fcAt fs k).ns q=true):=by
            show _=_;rw[hfad.out,<-hok2.out,hok3,dD (by rw[hNl.out];exact hnoz)];rfl
           have hfin:=hBd2.trans (hBz.mono hBd2.size);go_wp2;go_roundw
           case rel=>exact⟨q+1,hq'.out,by go_num,hfin,fun j hj=>by
            by_cases hj2:j<q
            ·exact hokq j hj2
            ·obtain rfl:j=q:=by omega
             exact hyes.out⟩
           case measure=>simp[intOf];have:=hq'.out;omega
      ·obtain rfl:q=(fcAt fs k).n:=by omega
       have hgood:Hid (D9 a l fs k=true):=by
        show _=_;rw[hffa.out,hh,fI hokq];rfl
       have hIr:=hIc.later hB;have hOr:=hNow.out.later hB;have hsr:Hid (w2.heap.size<=wr.heap.size):=Nat.le_trans hBc2.size hB.size;go_wp2_with (at_builtin;refine Hid.out ?_);unfold Hid;refine mV rfl _ _ rfl w2.heap.size _ _ rfl hOr ⟨fx,fo,none⟩ (fcAt fs k).n (fcAt fs k).c (fcAt fs k).ns rfl hIr.len ?_ ?_ hsr.out ?_
       ·intro j u hj;rw[cA];have hj2:j<(fcAt fs k).ns.length:=by
         by_cases e:j<(fcAt fs k).ns.length
         ·exact e
         ·rw[List.getElem?_eq_none (by rw[oQ];omega)]at hj
          cases hj
        rw[yN hj2]at hj;obtain⟨b8,o8,hx8,d8⟩:=hIr.cells j (by rw[<-hIr.len];exact hj2);simp only[Option.some.injEq,Addr.mk.injEq,and_true]at hx8;obtain⟨rfl,rfl⟩:=hx8;rw[d8];exact hj
       ·rw[hNl.out];omega
       intro v9 w9 hO9 hg9;have hB9:Below w2.heap.size w2 w9:=dH (hBc2.trans (hB.mono hBc2.size)) hg9 (fun k e=>(hOr.lt k e).1);have hO9':Hid (dQ w9 w2.heap.size v9 (aT (fs.take (k+1)))):=by
        show dQ _ _ _ _;rw[hst.out];exact hO9
       have hlen9:Hid ((aT (fs.take (k+1))).length<=(k+1)*4):=by
        show _<=_;rw[hst.out,List.length_append,hNl.out,hIr.len];omega
       clear hO9 hg9 hOr;go_wp2;go_roundw
       case rel=>exact⟨k+1,hlt'.out,by go_num,hB9,hO9'.out,fun j hj=>by
        by_cases hj2:j<k
        ·exact hok j hj2
        ·obtain rfl:j=k:=by omega
         exact hgood.out,hlen9.out⟩
       case measure=>simp[intOf];have:=hlt'.out;omega
  ·obtain rfl:k=n:=by omega
   have hy:Hid (IC a l k fs=true):=fI hok;go_wp2;go_ret;exact⟨aI hy.out.symm,by rw[hbk];exact hall⟩
theorem cB:(List.range n).all f=true↔∀i,i<n->f i=true:=by
 rw[List.all_eq_true];exact⟨fun h i hi=>h i (by simpa using hi),fun h i hi=>h i (by simpa using hi)⟩
theorem gT:anyAt n f=false↔∀i,i<n->f i=false:=by
 constructor
 ·intro h i hi
  cases e:f i
  ·rfl
  ·rw[aW hi e]at h;cases h
 ·exact dD
theorem GY(h:kI ns=true):∀(i j:Nat),i<j->j<ns.length->aU ns i<aU ns j
 |i,0,hij,_=>by omega
 |i,j+1,hij,hj=>by
  have h1:oP ns (j+1)=true:=by
   unfold kI at h;exact cB.1 h (j+1) hj
  unfold oP at h1;simp only[Nat.add_sub_cancel,Bool.or_eq_true,decide_eq_true_eq,beq_iff_eq]at h1;have h2:aU ns j<aU ns (j+1):=by
   rcases h1 with h1|h1
   ·omega
   ·exact h1
  by_cases e:i<j
  ·have:=GY h i j e (by omega);omega
  ·obtain rfl:i=j:=by omega
   exact h2
theorem JU(h:kI ns=true):ns.Nodup:=by
 unfold List.Nodup;rw[List.pairwise_iff_getElem];intro i j hi hj hij e;have:=GY h i j hij hj;rw[eL hi,eL hj]at this;omega
theorem yP:∀k,k<=fs.length->((aT (fs.take k)).Nodup↔∀j,j<k->(fcAt fs j).ns.Nodup/\∀y∈(fcAt fs j).ns,y∉aT (fs.take j))
 |0,_=>by simp[aT]
 |k+1,hk=>by
  rw[qI (by omega),List.nodup_append,yP k (by omega)];constructor
  ·rintro⟨h1,h2,h3⟩ j hj;by_cases e:j<k
   ·exact h1 j e
   ·obtain rfl:j=k:=by omega
    exact⟨h2,fun y hy hm=>h3 y hm y hy rfl⟩
  ·intro h;refine⟨fun j hj=>h j (by omega),(h k (by omega)).1,fun y hy z hz e=>?_⟩;subst e;exact(h k (by omega)).2 y hz hy
theorem yQ:anyAt al.length (fun j=>aU al j==y)=false↔y∉al:=by
 rw[gT];constructor
 ·intro h hm;obtain⟨j,hj,e⟩:=List.getElem_of_mem hm;have:=h j hj;rw[eL hj,e]at this;simp at this
 ·intro h j hj;rw[eL hj]
  cases e:(al[j]==y)
  ·rfl
  ·rw[beq_iff_eq]at e;exact absurd (e▸List.getElem_mem hj) h
theorem R0:y∈ns↔∃i,i<ns.length/\aU ns i=y:=by
 constructor
 ·intro h;obtain⟨i,hi,e⟩:=List.getElem_of_mem h;exact⟨i,hi,by rw[eL hi];exact e⟩
 ·rintro⟨i,hi,e⟩;rw[eL hi]at e;exact e▸List.getElem_mem hi
theorem aCk(hl:fs.length=n)(hns:∀k,k<n->(fcAt fs k).ns.length=(fcAt fs k).n):IC a l n fs=oZ a l n fs:=by
 rw[Bool.eq_iff_iff];have hd:(!D6 (aT fs))=true↔(aT fs).Nodup:=by unfold D6;simp
 have hnd:=yP (fs:=fs) n (by omega);rw[show fs.take n=fs by rw[<-hl,List.take_length]]at hnd;unfold oZ;rw[zH,zH,hd,hnd,cB];unfold IC nP;rw[cB,cB,hl];constructor
 ·intro h;have hp:∀k,k<n->(bV (fcAt fs k).id 1 65536=true/\(k=0\/(fcAt fs (k- 1)).id<(fcAt fs k).id)/\0<(fcAt fs k).n)/\∀i,i<(fcAt fs k).n->mC a l (aU (fcAt fs k).ns i)=true/\(i=0\/aU (fcAt fs k).ns (i- 1)<aU (fcAt fs k).ns i)/\aU (fcAt fs k).ns i∉aT (fs.take k):=fun k hk=>by
   have h1:=h k hk;unfold D9 qL at h1;simp only[zH,Bool.or_eq_true,decide_eq_true_eq,beq_iff_eq,cB]at h1;refine⟨⟨h1.1.1.1,h1.1.1.2,h1.1.2⟩,fun i hi=>?_⟩;have h2:=h1.2 i hi;unfold GX at h2;simp only[zH,Bool.or_eq_true,decide_eq_true_eq,beq_iff_eq,Bool.not_eq_true']at h2;exact⟨h2.1.1,h2.1.2,yQ.1 h2.2⟩
  have hr:∀k,k<n->kI (fcAt fs k).ns=true:=fun k hk=>by
   unfold kI;rw[cB,hns k hk];intro i hi;unfold oP;simp only[Bool.or_eq_true,decide_eq_true_eq,beq_iff_eq];exact((hp k hk).2 i hi).2.1
  refine⟨⟨fun k hk=>?_,fun k hk=>?_⟩,fun k hk=>⟨JU (hr k hk),fun y hy=>?_⟩⟩
  ·obtain⟨⟨h1, -,h3⟩,h4⟩:=hp k hk;unfold mU PT;simp only[zH,decide_eq_true_eq,Bool.not_eq_true'];exact⟨⟨h1,h3⟩,hr k hk,gT.2 fun i hi=>by rw[(h4 i hi).1];rfl⟩
  ·unfold rR;simp only[Bool.or_eq_true,decide_eq_true_eq,beq_iff_eq];exact(hp k hk).1.2.1
  ·obtain⟨i,hi,rfl⟩:=R0.1 hy;exact((hp k hk).2 i (by rw[<-hns k hk];exact hi)).2.2
 ·rintro⟨⟨h1,h2⟩,h3⟩ k hk;have hc:=h1 k hk;unfold mU PT at hc;simp only[zH,decide_eq_true_eq,Bool.not_eq_true']at hc;obtain⟨⟨c1,c2⟩,c3,c4⟩:=hc;have hf:=h2 k hk;unfold rR at hf;have hr:=c3;unfold kI at hr;rw[cB,hns k hk]at hr;unfold D9 qL;simp only[zH,decide_eq_true_eq,cB];refine⟨⟨⟨c1,hf⟩,c2⟩,fun i hi=>?_⟩;have hi2:=hr i hi;unfold oP at hi2;unfold GX;simp only[zH,Bool.not_eq_true'];refine⟨⟨?_,hi2⟩,yQ.2 ((h3 k hk).2 _ (R0.2 ⟨i,by rw[hns k hk];exact hi,rfl⟩))⟩;have:=gT.1 c4 i hi;simpa using this
def tV(rs:List Rg)(i:Nat):Bool:=bV (rgAt rs i).p 1 65536&&rt (rgAt rs i).a (rgAt rs i).l&&(i==0||(decide ((rgAt rs (i- 1)).a<(rgAt rs i).a)&&!eD (rgAt rs (i- 1)).a (rgAt rs (i- 1)).l (rgAt rs i).a (rgAt rs i).l))
def rfB(n:Nat)(rs:List Rg):Bool:=(List.range n).all (tV rs)
theorem aCl{rs:List Rg}(hl:rs.length=n):rfB n rs=yD n rs:=by
 rw[Bool.eq_iff_iff];unfold rfB yD xZ;rw[zH,cB,cB,cB,hl];constructor
 ·intro h;have hp:∀i,i<n->bV (rgAt rs i).p 1 65536=true/\rt (rgAt rs i).a (rgAt rs i).l=true/\(i=0\/((rgAt rs (i- 1)).a<(rgAt rs i).a/\eD (rgAt rs (i- 1)).a (rgAt rs (i- 1)).l (rgAt rs i).a (rgAt rs i).l=false)):=fun i hi=>by
   have h1:=h i hi;unfold tV at h1;simp only[zH,Bool.or_eq_true,decide_eq_true_eq,beq_iff_eq,Bool.not_eq_true']at h1;exact⟨h1.1.1,h1.1.2,h1.2⟩
  have hs:∀i,i<n->1<=sp (rgAt rs i).l:=fun i hi=>by
   obtain⟨h0,h1, -⟩:=bC (hp i hi).2.1;exact(rV h0 h1).1
  have hgap:∀i j,j<i->i<n->(rgAt rs j).a+sp (rgAt rs j).l<=(rgAt rs i).a:=fun i=>by
   induction i with
   |zero=>intro j hj;omega
   |succ i ih=>
    intro j hj hi
    have h1:(rgAt rs i).a+sp (rgAt rs i).l<=(rgAt rs (i+1)).a:=by
     obtain⟨-,hr2,h3⟩:=hp (i+1) hi;obtain⟨-,hr1, -⟩:=hp i (by omega);rw[Nat.add_sub_cancel]at h3;rcases h3 with h3|⟨h3,h4⟩
     ·omega
     ·by_cases e:(rgAt rs (i+1)).a<(rgAt rs i).a+sp (rgAt rs i).l
      ·have hs2:=hs (i+1) hi;rw[P5 hr1 hr2 (by omega) e]at h4
       cases h4
      ·omega
    by_cases e:j<i
    ·have h2:=ih j e (by omega);have:=hs i (by omega);omega
    ·obtain rfl:j=i:=by omega
     exact h1
  refine⟨fun i hi=>?_,fun i hi=>?_⟩
  ·unfold vH E5;rw[(hp i hi).1,(hp i hi).2.1,gT.2 fun j hj=>?_]
   ·rfl
   ·unfold JM
    cases e:eD (rgAt rs j).a (rgAt rs j).l (rgAt rs i).a (rgAt rs i).l
    ·rfl
    ·have h1:=xG e;have h2:=hgap i j hj hi;omega
  ·unfold rQ;simp only[Bool.or_eq_true,decide_eq_true_eq,beq_iff_eq];rcases(hp i hi).2.2 with h1|h1
   ·exact .inl h1
   ·exact .inr h1.1
 ·rintro⟨h1,h2⟩ i hi;have hc:=h1 i hi;unfold vH E5 at hc;simp only[zH,Bool.not_eq_true']at hc;have hr:=h2 i hi;unfold rQ at hr;simp only[Bool.or_eq_true,decide_eq_true_eq,beq_iff_eq]at hr;unfold tV;simp only[zH,Bool.or_eq_true,decide_eq_true_eq,beq_iff_eq,Bool.not_eq_true'];refine⟨⟨hc.1.2,hc.1.1⟩,?_⟩;rcases hr with hr|hr
  ·exact .inl hr
  ·by_cases e:i=0
   ·exact .inl e
   ·exact .inr ⟨hr,gT.1 hc.2 (i- 1) (by omega)⟩
def sA(rn:Nat)(rs:List Rg)(ss:List Sb)(i:Nat):Bool:=bV (aG ss i).id 1 65536&&anyAt rn (PR rs (aG ss i).a (aG ss i).l)&&(i==0||decide ((aG ss (i- 1)).id<(aG ss i).id))&&IC (aG ss i).a (aG ss i).l (aG ss i).n (aG ss i).fs
def NT(rn:Nat)(rs:List Rg)(ss:List Sb)(i:Nat):Bool:=sA rn rs ss i&&!anyAt i (AX ss (aG ss i).a (aG ss i).l)
def ZI(rn:Nat)(rs:List Rg)(n:Nat)(ss:List Sb):Bool:=(List.range n).all (NT rn rs ss)
theorem aCm{rs:List Rg}(hl:ss.length=n)(hf:∀i,i<n->(aG ss i).fs.length=(aG ss i).n/\∀k,k<(aG ss i).n->(fcAt (aG ss i).fs k).ns.length=(fcAt (aG ss i).fs k).n):ZI rn rs n ss=wH rn rs n ss:=by
 rw[Bool.eq_iff_iff];unfold ZI wH nO;rw[zH,cB,cB,cB,hl];have he:∀i,i<n->(NT rn rs ss i=true↔nS rn rs ss i=true/\oO ss i=true):=fun i hi=>by
  unfold NT sA nS oO oY;rw[aCk (hf i hi).1 (hf i hi).2];simp only[zH];constructor
  ·rintro⟨⟨⟨⟨h1,h2⟩,h3⟩,h4⟩,h5⟩;exact⟨⟨⟨⟨h1,h2⟩,h5⟩,h4⟩,h3⟩
  ·rintro⟨⟨⟨⟨h1,h2⟩,h5⟩,h4⟩,h3⟩;exact⟨⟨⟨⟨h1,h2⟩,h3⟩,h4⟩,h5⟩
 constructor
 ·intro h;exact⟨fun i hi=>((he i hi).1 (h i hi)).1,fun i hi=>((he i hi).1 (h i hi)).2⟩
 ·rintro⟨h1,h2⟩ i hi;exact(he i hi).2 ⟨h1 i hi,h2 i hi⟩
theorem lB(a l:Int)(t:Bool)(h:rt a l=t)(w:World):Calls Tryz.prog 63 #[.agg #[.int .i64 a, .int .i64 l]] w fun e w'=>e= .returned (.bool t)/\Below w.heap.size w w':=by
 subst h;exact bI a l w
theorem yR(a l c m:Int)(t:Bool)(h:eD a l c m=t)(w:World):Calls Tryz.prog 37 #[.agg #[.int .i64 a, .int .i64 l], .agg #[.int .i64 c, .int .i64 m]] w fun e w'=>e= .returned (.bool t)/\Below w.heap.size w w':=by
 subst h;exact xD a l c m w
theorem iH(id a l:Int)(x:Option Addr)(n c:Nat)(fs:List Fc)(t:Bool)(h:IC a l n fs=t)(w:World)(hr:rt a l=true)(hp:oW w x n fs)(hn:n<=8)(hm:∀i,i<n->(fcAt fs i).n<=4):
  Calls Tryz.prog 68 #[.agg #[.int .i64 id, .int .i64 a, .int .i64 l, .slice x n c]] w fun e w'=>e= .returned (.bool t)/\Below w.heap.size w w':=by
 subst h;exact BL id a l x n c fs w hr hp hn hm
theorem ZJ{rs:List Rg}(h:anyAt rn (PR rs a l)=true):rt a l=true:=by
 obtain⟨i, -,hi⟩:=nT h;unfold PR jQ at hi;simp only[zH]at hi;exact hi.1.1.1
def ZK(t:Int)(w:World)(e:Ending)(w':World):Prop:=e= .returned (.int .i64 t)/\Below w.heap.size w w'
def LH(vid:Int)(rn:Nat)(rs:List Rg)(sn:Nat)(ss:List Sb):Int:=if bU rn sn ss then 2 else if bV vid 1 65536&&rfB rn rs&&ZI rn rs sn ss then 0 else 1
theorem EA(vid:Int)(rx:Option Addr)(rn rc:Nat)(rs:List Rg)(sx:Option Addr)(sn sc:Nat)(ss:List Sb)(w:World)(hv:Vp w rx rn rc rs sx sn sc ss)(hrn:rn<=9223372036854775807)(hsn:sn<=9223372036854775807):
  Calls Tryz.prog 38 #[.agg #[.int .i64 vid, .slice rx rn rc, .slice sx sn sc]] w (ZK (LH vid rn rs sn ss) w):=by
 have hbd:Hid (LH vid rn rs sn ss=if bU rn sn ss then 2 else if bV vid 1 65536&&rfB rn rs&&ZI rn rs sn ss then 0 else 1):=rfl;go_enter Tryz.func38,Tryz.ntmps38;go_upto_region 1 with fail
 obtain⟨w2,hw2⟩:∃w2,w2=w.alloc (vpO vid rx rn rc sx sn sc):=⟨_,rfl⟩;rw[<-hw2];have h02:Below w.heap.size w w2:=by rw[hw2];exact bl1 w _
 have hbox:w2.heap[w.heap.size]?=some (vpO vid rx rn rc sx sn sc):=by rw[hw2];exact aB _ rfl
 clear hw2;obtain⟨hcl, -⟩:=aD hbox;have q0:w2.cell? ⟨w.heap.size,0,none⟩=some (.int .i64 vid):=hcl 0;have q1:w2.cell? ⟨w.heap.size,1,none⟩=some (.slice rx rn rc):=hcl 1;have q2:w2.cell? ⟨w.heap.size,2,none⟩=some (.slice sx sn sc):=hcl 2;clear hcl hbox;have hv2:=hv.later h02;have hsz:Hid (w.heap.size<=w2.heap.size):=h02.size;generalize hbk:w.heap.size=bk at*
 cases hmy:bU rn sn ss
 ·obtain⟨f1,f2,f3,f4⟩:=few hmy;go_wp2_with fail;refine(vpcMany_is _ _ _ _ _ _ _ _ _ hmy _ hrn hv2.subs hsn).mono ?_;rintro e wm ⟨rfl,hbm⟩;have h0m:Below bk w wm:=h02.trans (hbm.mono hsz.out);have hszm:Hid (bk<=wm.heap.size):=Nat.le_trans hsz.out hbm.size;have r0:=cell_later hbm q0;have r1:=cell_later hbm q1;have r2:=cell_later hbm q2;have hvm:=hv2.later hbm;clear q0 q1 q2 hbm hv2 h02
  cases hw:bV vid 1 65536
  ·go_wp2_with (go_at_call 31;refine(within_at _ _ _ _ hw _).mono ?_;rintro e w4 ⟨rfl,rfl⟩);go_ret;exact⟨aP (by rw[hbd.out,hmy,hw];rfl),by rw[hbk];exact h0m⟩
  ·go_wp2_with fail;refine(within_at _ _ _ _ hw _).mono ?_;rintro e wm ⟨rfl,rfl⟩;go_wp2;go_loopw [3] (fun i wr=>∃k:Nat,k<=rn/\i= .int .i64 k/\Below wm.heap.size wm wr/\(∀j,j<k->tV rs j=true)) (fun i _=>rn- (intOf i).toNat)
   case atStart=>exact⟨0,by omega,rfl,zD,fun j hj=>by omega⟩
   case round=>
    obtain⟨k,hk,rfl,hB,hok⟩:=hrel
    have s1:=cell_later hB r1
    have hall:Below bk w wr:=h0m.trans (hB.mono hszm.out)
    by_cases hlt:k<rn
    ·have hlt':Hid (k<rn):=hlt;have hpr:=hvm.ranges.later hB;obtain⟨b,o,rfl,c0,c1,c2⟩:=hpr.cells k hlt;have hta:Hid (tV rs k=(bV (rgAt rs k).p 1 65536&&rt (rgAt rs k).a (rgAt rs k).l&&(k==0||(decide ((rgAt rs (k- 1)).a<(rgAt rs k).a)&&!eD (rgAt rs (k- 1)).a (rgAt rs (k- 1)).l (rgAt rs k).a (rgAt rs k).l)))):=rfl;go_upto_region 9 with fail
     obtain⟨w3,hw3⟩:∃w3,w3=wr.alloc (AY (rgAt rs k)):=⟨_,rfl⟩;rw[<-hw3];have h23:Below wr.heap.size wr w3:=by rw[hw3];exact bl1 wr _
     have hbf:w3.heap[wr.heap.size]?=some (AY (rgAt rs k)):=by rw[hw3];exact aB _ rfl
     clear hw3 c0 c1 c2;have hp3:=hpr.later h23;have hB3:=hB.trans (h23.mono hB.size);have hfb:=(aD hbf).1;have g0:=Ws.here (v:= .int .i64 (rgAt rs k).a) (hfb 0);have g1:=Ws.here (v:= .int .i64 (rgAt rs k).l) (hfb 1);have g2:=Ws.here (v:= .int .i64 (rgAt rs k).p) (hfb 2);have g3:=Ws.here (cell_later h23 s1);clear hfb hbf s1;generalize wr.heap.size=bf at*;have hall3:Below bk w w3:=h0m.trans (hB3.mono hszm.out);go_cut [65] (fun t wc=>t= .bool (!tV rs k)/\Below w3.heap.size w3 wc)
     case first=>
      cases hwt:bV (rgAt rs k).p 1 65536
      ·have hv:Hid (tV rs k=false):=by show _=_;rw[hta.out,hwt];rfl
       refine aE w3.heap.size (by kernel_rfl) (by kernel_rfl) ?_;repeat(go_big_quiet_step (first|(go_at_call 31;exact Calls.in_ws_same (within_at _ _ _ _ hwt _))))
       refine wpQuiet_nil ?_;rintro _ ⟨u,rfl⟩;have hu:=u.property;generalize u.val=wu at hu⊢;clear u g0 g1 g2 g3;go_wp2;go_meet
       case rel=>exact⟨by rw[hv.out];rfl,hu⟩
      ·cases hrt:rt (rgAt rs k).a (rgAt rs k).l
       ·have hv:Hid (tV rs k=false):=by show _=_;rw[hta.out,hrt];simp
        refine aE w3.heap.size (by kernel_rfl) (by kernel_rfl) ?_;repeat(go_big_quiet_step (first|(go_at_call 31;exact Calls.in_ws_same (within_at _ _ _ _ hwt _))|(go_at_call 63;exact Calls.in_ws (zE) (lB _ _ _ hrt _))))
        refine wpQuiet_nil ?_;rintro _ ⟨u,rfl⟩;have hu:=u.property;generalize u.val=wu at hu⊢;clear u g0 g1 g2 g3;go_wp2;go_meet
        case rel=>exact⟨by rw[hv.out];rfl,hu⟩
       ·by_cases hk0:k=0
        ·have hdk:decide (0<k)=false:=by simp;omega
         have hv:Hid (tV rs k=true):=by show _=_;rw[hta.out,hwt,hrt,hk0];rfl
         clear hk0;refine aE w3.heap.size (by kernel_rfl) (by kernel_rfl) ?_;repeat(go_big_quiet_step (first|(go_at_call 31;exact Calls.in_ws_same (within_at _ _ _ _ hwt _))|(go_at_call 63;exact Calls.in_ws (zE) (lB _ _ _ hrt _))))
         refine wpQuiet_nil ?_;rintro _ ⟨u,rfl⟩;have hu:=u.property;generalize u.val=wu at hu⊢;clear u g0 g1 g2 g3;go_wp2;go_meet
         case rel=>exact⟨by rw[hv.out];rfl,hu⟩
        ·obtain⟨i,rfl⟩:∃i,k=i+1:=⟨k- 1,by omega⟩;obtain⟨b4,o4,hx4,d0,d1, -⟩:=hp3.cells i (by omega);simp only[Option.some.injEq,Addr.mk.injEq,and_true]at hx4;obtain⟨rfl,rfl⟩:=hx4;have g4:=Ws.here d0;have g5:=Ws.here d1;rw[Nat.add_sub_cancel]at hta;by_cases hle:(rgAt rs i).a<(rgAt rs (i+1)).a
         ·have hge:decide ((rgAt rs i).a≥(rgAt rs (i+1)).a)=false:=by simp;omega
          cases hmt:eD (rgAt rs i).a (rgAt rs i).l (rgAt rs (i+1)).a (rgAt rs (i+1)).l
          ·have hv:Hid (tV rs (i+1)=true):=by show _=_;rw[hta.out,hwt,hrt,decide_eq_true hle,hmt];simp
           refine aE w3.heap.size (by kernel_rfl) (by kernel_rfl) ?_;repeat(go_big_quiet_step (first|(go_at_call 31;exact Calls.in_ws_same (within_at _ _ _ _ hwt _))|(go_at_call 63;exact Calls.in_ws (zE) (lB _ _ _ hrt _))|(go_at_call 37;exact Calls.in_ws (zE) (yR _ _ _ _ _ hmt _))))
           refine wpQuiet_nil ?_;rintro _ ⟨u,rfl⟩;have hu:=u.property;generalize u.val=wu at hu⊢;clear u g0 g1 g2 g3 g4 g5;go_wp2;go_meet
           case rel=>exact⟨by rw[hv.out];rfl,hu⟩
          ·have hv:Hid (tV rs (i+1)=false):=by show _=_;rw[hta.out,hmt];simp
           refine aE w3.heap.size (by kernel_rfl) (by kernel_rfl) ?_;repeat(go_big_quiet_step (first|(go_at_call 31;exact Calls.in_ws_same (within_at _ _ _ _ hwt _))|(go_at_call 63;exact Calls.in_ws (zE) (lB _ _ _ hrt _))|(go_at_call 37;exact Calls.in_ws (zE) (yR _ _ _ _ _ hmt _))))
           refine wpQuiet_nil ?_;rintro _ ⟨u,rfl⟩;have hu:=u.property;generalize u.val=wu at hu⊢;clear u g0 g1 g2 g3 g4 g5;go_wp2;go_meet
           case rel=>exact⟨by rw[hv.out];rfl,hu⟩
         ·have hge:decide ((rgAt rs i).a≥(rgAt rs (i+1)).a)=true:=by simp;omega
          have hv:Hid (tV rs (i+1)=false):=by show _=_;rw[hta.out,decide_eq_false hle];simp
          refine aE w3.heap.size (by kernel_rfl) (by kernel_rfl) ?_;repeat(go_big_quiet_step (first|(go_at_call 31;exact Calls.in_ws_same (within_at _ _ _ _ hwt _))|(go_at_call 63;exact Calls.in_ws (zE) (lB _ _ _ hrt _))))
          refine wpQuiet_nil ?_;rintro _ ⟨u,rfl⟩;have hu:=u.property;generalize u.val=wu at hu⊢;clear u g0 g1 g2 g3 g4 g5;go_wp2;go_meet
          case rel=>exact⟨by rw[hv.out];rfl,hu⟩
     case rest=>
      obtain⟨rfl,hBc⟩:=hcut
      clear g0 g1 g2 g3
      have hfin:=hB3.trans (hBc.mono hB3.size)
      cases hh:tV rs k
      ·have hbad:Hid (rfB rn rs=false):=dJ hlt hh;go_wp2;go_ret;exact⟨aP (by rw[hbd.out,hmy,hw,hbad.out];rfl),by rw[hbk];exact h0m.trans (hfin.mono hszm.out)⟩
      ·go_wp2;go_roundw
       case rel=>exact⟨k+1,hlt'.out,by go_num,hfin,fun j hj=>by
        by_cases hj2:j<k
        ·exact hok j hj2
        ·obtain rfl:j=k:=by omega
         exact hh⟩
       case measure=>simp[intOf];have:=hlt'.out;omega
    ·obtain rfl:k=rn:=by omega
     have hrf:Hid (rfB k rs=true):=fI hok;have s2:=cell_later hB r2;clear hok;have s0:=cell_later hB r0;have hvo:=hvm.later hB;have hszo:Hid (bk<=wr.heap.size):=Nat.le_trans hszm.out hB.size;clear r0 r1 r2 hvm hB h0m;go_wp2;obtain⟨wo,rfl⟩:∃wo,wo=wr:=⟨_,rfl⟩;go_loopw [5] (fun i wr=>∃q:Nat,q<=sn/\i= .int .i64 q/\Below wo.heap.size wo wr/\(∀j,j<q->NT k rs ss j=true)) (fun i _=>sn- (intOf i).toNat)
     case atStart=>exact⟨0,by omega,rfl,zD,fun j hj=>by omega⟩
     case round=>
      obtain⟨q,hq,rfl,hB,hokq⟩:=hrel
      have e0:=cell_later hB s0
      have e1:=cell_later hB s1
      have e2:=cell_later hB s2
      have hallq:Below bk w wr:=hall.trans (hB.mono hszo.out)
      by_cases hlt:q<sn
      ·have hlt':Hid (q<sn):=hlt;have hpr:=hvo.subs.later hB;have hRr:=hvo.ranges.later hB;obtain⟨b,o,rfl,c0,c1,c2,c3⟩:=hpr.cells q hlt;have hF:=(hpr.faces q hlt).2.2;have hm1:=f3 q hlt;have hm3:=f4 q hlt;have hta:Hid (sA k rs ss q=(bV (aG ss q).id 1 65536&&anyAt k (PR rs (aG ss q).a (aG ss q).l)&&(q==0||decide ((aG ss (q- 1)).id<(aG ss q).id))&&IC (aG ss q).a (aG ss q).l (aG ss q).n (aG ss q).fs)):=rfl;have htb:Hid (NT k rs ss q=(sA k rs ss q&&!anyAt q (AX ss (aG ss q).a (aG ss q).l))):=rfl;go_upto_region 15 with fail
       obtain⟨w3,hw3⟩:∃w3,w3=wr.alloc (NF (aG ss q)):=⟨_,rfl⟩;rw[<-hw3];have h23:Below wr.heap.size wr w3:=by rw[hw3];exact bl1 wr _
       have hbf:w3.heap[wr.heap.size]?=some (NF (aG ss q)):=by rw[hw3];exact aB _ rfl
       clear hw3 c0 c1 c2 c3;have hp3:=hpr.later h23;have hR3:=hRr.later h23;have hF3:=hF.later h23;have hB3:=hB.trans (h23.mono hB.size);have hfb:=(aD hbf).1;have t1:w3.cell? ⟨wr.heap.size,1,none⟩=some (.int .i64 (aG ss q).a):=hfb 1;have t2:w3.cell? ⟨wr.heap.size,2,none⟩=some (.int .i64 (aG ss q).l):=hfb 2;have m2:=cell_later h23 e2;have g0:=Ws.here (v:= .int .i64 (aG ss q).id) (hfb 0);have g1:=Ws.here t1;have g2:=Ws.here t2;have g3:=Ws.here (v:= .slice (aG ss q).x (aG ss q).n (aG ss q).c) (hfb 3);have g4:=Ws.here (cell_later h23 e0);have g5:=Ws.here (cell_later h23 e1);have g6:=Ws.here m2;clear hfb hbf e0 e1 e2;generalize wr.heap.size=bf at*;have hall3:Below bk w w3:=hall.trans (hB3.mono hszo.out);have hsz3:Hid (bk<=w3.heap.size):=Nat.le_trans hszo.out hB3.size;go_cut [109] (fun t wc=>t= .bool (!sA k rs ss q)/\Below w3.heap.size w3 wc)
       case first=>
        cases hwt:bV (aG ss q).id 1 65536
        ·have hv:Hid (sA k rs ss q=false):=by show _=_;rw[hta.out,hwt];rfl
         refine aE w3.heap.size (by kernel_rfl) (by kernel_rfl) ?_;repeat(go_big_quiet_step (first|(go_at_call 31;exact Calls.in_ws_same (within_at _ _ _ _ hwt _))))
         refine wpQuiet_nil ?_;rintro _ ⟨u,rfl⟩;have hu:=u.property;generalize u.val=wu at hu⊢;clear u g0 g1 g2 g3 g4 g5 g6;go_wp2;go_meet
         case rel=>exact⟨by rw[hv.out];rfl,hu⟩
        ·cases hir:anyAt k (PR rs (aG ss q).a (aG ss q).l)
         ·have hv:Hid (sA k rs ss q=false):=by show _=_;rw[hta.out,hir];simp
          refine aE w3.heap.size (by kernel_rfl) (by kernel_rfl) ?_;repeat(go_big_quiet_step (first|(go_at_call 31;exact Calls.in_ws_same (within_at _ _ _ _ hwt _))|(go_at_call 67;exact Calls.in_ws (zE) (gD _ _ _ _ _ _ _ _ _ _ _ hir _ (hR3.later (Ws.property _)) (by omega)))))
          refine wpQuiet_nil ?_;rintro _ ⟨u,rfl⟩;have hu:=u.property;generalize u.val=wu at hu⊢;clear u g0 g1 g2 g3 g4 g5 g6;go_wp2;go_meet
          case rel=>exact⟨by rw[hv.out];rfl,hu⟩
         ·have hrt:=ZJ hir;by_cases hk0:q=0
          ·have hdk:decide (0<q)=false:=by simp;omega
           have hv0:Hid (sA k rs ss q=IC (aG ss q).a (aG ss q).l (aG ss q).n (aG ss q).fs):=by show _=_;rw[hta.out,hwt,hir,hk0];rfl
           clear hk0
           cases hff:IC (aG ss q).a (aG ss q).l (aG ss q).n (aG ss q).fs
           ·have hv:Hid (sA k rs ss q=false):=by show _=_;rw[hv0.out,hff]
            refine aE w3.heap.size (by kernel_rfl) (by kernel_rfl) ?_;repeat(go_big_quiet_step (first|(go_at_call 31;exact Calls.in_ws_same (within_at _ _ _ _ hwt _))|(go_at_call 67;exact Calls.in_ws (zE) (gD _ _ _ _ _ _ _ _ _ _ _ hir _ (hR3.later (Ws.property _)) (by omega)))|(go_at_call 68;exact Calls.in_ws (zE) (iH _ _ _ _ _ _ _ _ hff _ hrt (hF3.later (Ws.property _)) hm1 hm3))))
            refine wpQuiet_nil ?_;rintro _ ⟨u,rfl⟩;have hu:=u.property;generalize u.val=wu at hu⊢;clear u g0 g1 g2 g3 g4 g5 g6;go_wp2;go_meet
            case rel=>exact⟨by rw[hv.out];rfl,hu⟩
           ·have hv:Hid (sA k rs ss q=true):=by show _=_;rw[hv0.out,hff]
            refine aE w3.heap.size (by kernel_rfl) (by kernel_rfl) ?_;repeat(go_big_quiet_step (first|(go_at_call 31;exact Calls.in_ws_same (within_at _ _ _ _ hwt _))|(go_at_call 67;exact Calls.in_ws (zE) (gD _ _ _ _ _ _ _ _ _ _ _ hir _ (hR3.later (Ws.property _)) (by omega)))|(go_at_call 68;exact Calls.in_ws (zE) (iH _ _ _ _ _ _ _ _ hff _ hrt (hF3.later (Ws.property _)) hm1 hm3))))
            refine wpQuiet_nil ?_;rintro _ ⟨u,rfl⟩;have hu:=u.property;generalize u.val=wu at hu⊢;clear u g0 g1 g2 g3 g4 g5 g6;go_wp2;go_meet
            case rel=>exact⟨by rw[hv.out];rfl,hu⟩
          ·obtain⟨i,rfl⟩:∃i,q=i+1:=⟨q- 1,by omega⟩;obtain⟨b4,o4,hx4,d0, -⟩:=hp3.cells i (by omega);simp only[Option.some.injEq,Addr.mk.injEq,and_true]at hx4;obtain⟨rfl,rfl⟩:=hx4;have g7:=Ws.here d0;rw[Nat.add_sub_cancel]at hta;by_cases hle:(aG ss i).id<(aG ss (i+1)).id
           ·have hge:decide ((aG ss i).id≥(aG ss (i+1)).id)=false:=by simp;omega
            cases hff:IC (aG ss (i+1)).a (aG ss (i+1)).l (aG ss (i+1)).n (aG ss (i+1)).fs
            ·have hv:Hid (sA k rs ss (i+1)=false):=by show _=_;rw[hta.out,hff];simp
             refine aE w3.heap.size (by kernel_rfl) (by kernel_rfl) ?_;repeat(go_big_quiet_step (first|(go_at_call 31;exact Calls.in_ws_same (within_at _ _ _ _ hwt _))|(go_at_call 67;exact Calls.in_ws (zE) (gD _ _ _ _ _ _ _ _ _ _ _ hir _ (hR3.later (Ws.property _)) (by omega)))|(go_at_call 68;exact Calls.in_ws (zE) (iH _ _ _ _ _ _ _ _ hff _ hrt (hF3.later (Ws.property _)) hm1 hm3))))
             refine wpQuiet_nil ?_;rintro _ ⟨u,rfl⟩;have hu:=u.property;generalize u.val=wu at hu⊢;clear u g0 g1 g2 g3 g4 g5 g6 g7;go_wp2;go_meet
             case rel=>exact⟨by rw[hv.out];rfl,hu⟩
            ·have hv:Hid (sA k rs ss (i+1)=true):=by show _=_;rw[hta.out,hwt,hir,decide_eq_true hle,hff];simp
             refine aE w3.heap.size (by kernel_rfl) (by kernel_rfl) ?_;repeat(go_big_quiet_step (first|(go_at_call 31;exact Calls.in_ws_same (within_at _ _ _ _ hwt _))|(go_at_call 67;exact Calls.in_ws (zE) (gD _ _ _ _ _ _ _ _ _ _ _ hir _ (hR3.later (Ws.property _)) (by omega)))|(go_at_call 68;exact Calls.in_ws (zE) (iH _ _ _ _ _ _ _ _ hff _ hrt (hF3.later (Ws.property _)) hm1 hm3))))
             refine wpQuiet_nil ?_;rintro _ ⟨u,rfl⟩;have hu:=u.property;generalize u.val=wu at hu⊢;clear u g0 g1 g2 g3 g4 g5 g6 g7;go_wp2;go_meet
             case rel=>exact⟨by rw[hv.out];rfl,hu⟩
           ·have hge:decide ((aG ss i).id≥(aG ss (i+1)).id)=true:=by simp;omega
            have hv:Hid (sA k rs ss (i+1)=false):=by show _=_;rw[hta.out,decide_eq_false hle];simp
            refine aE w3.heap.size (by kernel_rfl) (by kernel_rfl) ?_;repeat(go_big_quiet_step (first|(go_at_call 31;exact Calls.in_ws_same (within_at _ _ _ _ hwt _))|(go_at_call 67;exact Calls.in_ws (zE) (gD _ _ _ _ _ _ _ _ _ _ _ hir _ (hR3.later (Ws.property _)) (by omega)))))
            refine wpQuiet_nil ?_;rintro _ ⟨u,rfl⟩;have hu:=u.property;generalize u.val=wu at hu⊢;clear u g0 g1 g2 g3 g4 g5 g6 g7;go_wp2;go_meet
            case rel=>exact⟨by rw[hv.out];rfl,hu⟩
       case rest=>
        obtain⟨rfl,hBc⟩:=hcut
        clear g0 g1 g2 g3 g4 g5 g6
        have hfin:=hB3.trans (hBc.mono hB3.size)
        have hallc:Below bk w wc:=hall3.trans (hBc.mono hsz3.out)
        have hszc:Hid (bk<=wc.heap.size):=Nat.le_trans hsz3.out hBc.size
        cases hh:sA k rs ss q
        ·have hbad:Hid (ZI k rs sn ss=false):=dJ hlt (by rw[htb.out,hh];rfl);go_wp2;go_ret;exact⟨aP (by rw[hbd.out,hmy,hw,hbad.out];simp),by rw[hbk];exact hallc⟩
        ·have n1:=cell_later hBc t1;have n2:=cell_later hBc t2;have n3:=cell_later hBc m2;have hpc:=hp3.later hBc;go_wp2;obtain⟨wu,rfl⟩:∃wu,wu=wr:=⟨_,rfl⟩;go_loopw [7] (fun i wr=>∃z:Nat,z<=q/\i= .int .i64 z/\Below wc.heap.size wc wr/\(∀j,j<z->AX ss (aG ss q).a (aG ss q).l j=false)) (fun i _=>q- (intOf i).toNat)
         case atStart=>exact⟨0,by omega,rfl,zD,fun j hj=>by omega⟩
         case round=>
          obtain⟨z,hz,rfl,hBz,hnoz⟩:=hrel
          by_cases hz2:z<q
          ·have hz':Hid (z<q):=hz2;obtain⟨b9,o9,hx9, -,d1,d2, -⟩:=(hpc.later hBz).cells z (by omega);simp only[Option.some.injEq,Addr.mk.injEq,and_true]at hx9;obtain⟨rfl,rfl⟩:=hx9;have g1:=Ws.here (cell_later hBz n1);have g2:=Ws.here (cell_later hBz n2);have g3:=Ws.here (cell_later hBz n3);have g4:=Ws.here d1;have g5:=Ws.here d2;clear d1 d2
           cases hmt0:AX ss (aG ss q).a (aG ss q).l z;all_goals have hmt:eD (aG ss z).a (aG ss z).l (aG ss q).a (aG ss q).l=_:=hmt0
           all_goals go_upto_region 20 with fail
           all_goals refine aE wr.heap.size (by kernel_rfl) (by kernel_rfl) ?_
           all_goals repeat(go_big_quiet_step ((go_at_call 37;exact Calls.in_ws (zE) (yR _ _ _ _ _ hmt _))))
           all_goals refine wpQuiet_nil ?_
           all_goals rintro _ ⟨u,rfl⟩
           all_goals have hu:=hBz.trans (u.property.mono hBz.size)
           all_goals generalize u.val=wv at hu⊢
           all_goals clear u g1 g2 g3 g4 g5
           ·go_wp2;go_roundw
            case rel=>exact⟨z+1,hz'.out,by go_num,hu,fun j hj=>by
             by_cases hj2:j<z
             ·exact hnoz j hj2
             ·obtain rfl:j=z:=by omega
              exact hmt0⟩
            case measure=>simp[intOf];have:=hz'.out;omega
           ·have hbad:Hid (ZI k rs sn ss=false):=dJ hlt (by rw[htb.out,aW hz'.out hmt0];simp);go_wp2;go_ret;exact⟨aP (by rw[hbd.out,hmy,hw,hbad.out];simp),by rw[hbk];exact hallc.trans (hu.mono hszc.out)⟩
          ·obtain rfl:z=q:=by omega
           have hyes:Hid (NT k rs ss z=true):=by show _=_;rw[htb.out,hh,dD hnoz];rfl
           have hfin2:=hfin.trans (hBz.mono hfin.size);go_wp2;go_roundw
           case rel=>exact⟨z+1,hlt'.out,by go_num,hfin2,fun j hj=>by
            by_cases hj2:j<z
            ·exact hokq j hj2
            ·obtain rfl:j=z:=by omega
             exact hyes.out⟩
           case measure=>simp[intOf];have:=hlt'.out;omega
      ·obtain rfl:q=sn:=by omega
       have hsf:Hid (ZI k rs q ss=true):=fI hokq;go_wp2;go_ret;exact⟨aP (by rw[hbd.out,hmy,hw,hrf.out,hsf.out];rfl),by rw[hbk];exact hallq⟩
 ·go_wp2_with (go_at_call 66;refine(vpcMany_is _ _ _ _ _ _ _ _ _ hmy _ hrn hv2.subs hsn).mono ?_;rintro e w3 ⟨rfl,hb3⟩);go_ret;exact⟨aP (by rw[hbd.out,hmy];rfl),by rw[hbk];exact h02.trans (hb3.mono hsz.out)⟩
theorem IS.flat_cells(h:IS w (some ad) n es):∀j u,(flatI es)[j]?=some u->w.cell? (ad.add j)=some u:=by
 intro j u hj;have hj2:j<es.length:=by
  by_cases e:j<es.length
  ·exact e
  ·rw[List.getElem?_eq_none (by rw[oQ];omega)]at hj;cases hj
 rw[yN hj2]at hj;obtain⟨b,o,hx,d⟩:=h.cells j (by rw[<-h.len];exact hj2);simp only[Option.some.injEq]at hx;subst hx;rw[cA,d];exact hj
theorem IS.rw(h:IS w x n es):Rw w x n 1 (flatI es):=
 ⟨by rw[oQ,h.len];omega,fun h0 e=>(by obtain⟨b,o,hx, -⟩:=h.cells 0 h0;rw[e]at hx;cases hx),tT es,fun ad hx=>by subst hx;exact h.flat_cells⟩
theorem JV(x:Option Addr)(n c:Nat)(es:List Int)(w:World)(hl:IS w x n es)(hn:n<=1048576):
  Calls Tryz.prog 266 #[.slice x n c] w fun e w'=>∃v,e= .returned v/\dQ w' w.heap.size v es/\Below w.heap.size w w':=by
 obtain rfl:=hl.len;exact nJ.2.2.2.2.2.1 _ _ aCi x _ c _ w hl.rw hn
def sB(f:Fc)(x:Option Addr)(n c:Nat)(ns:List Int):Fc:=⟨f.id,x,n,c,ns⟩
theorem sC{f:Fc}(hi:i<fs.length):fcAt (fs.set i f) j=if i=j then f else fcAt fs j:=by
 unfold fcAt;rw[zF,zF,List.getElem?_set];by_cases h:i=j
 ·subst h;rw[if_pos rfl,if_pos rfl,if_pos hi];rfl
 ·rw[if_neg h,if_neg h]
theorem NU(fs:List Fc)(i:Nat)(x:Option Addr)(n c:Nat)(ns:List Int)(hi:i<fs.length):(flatF fs).set (i*2+1) (.slice x n c)=flatF (fs.set i (sB (fcAt fs i) x n c ns)):=by
 refine List.ext_getElem? fun j=>?_;by_cases hj:j<fs.length*2
 ·have e:j=(j/2)*2+j%2:=by omega
  have hq:j/2<fs.length:=by omega
  rw[e,rP _ _ _ (by rw[List.length_set];exact hq) (by omega),sC hi,List.getElem?_set];by_cases h1:i=j/2
  ·rw[if_pos h1];by_cases h2:j%2=1
   ·rw[if_pos (by omega),if_pos (by rw[iR];omega),h2];rfl
   ·rw[if_neg (by omega),rP _ _ _ hq (by omega),h1];have h3:j%2<1:=by omega
    generalize j%2=r at h3;rcases r with _|r
    all_goals first|rfl|omega
  ·rw[if_neg h1,if_neg (by omega),rP _ _ _ hq (by omega)]
 ·rw[List.getElem?_eq_none (by rw[List.length_set,iR];omega),List.getElem?_eq_none (by rw[iR,List.length_set];omega)]
theorem fU.set(h:fU w base (.slice (some ⟨g,0,none⟩) n cap) fs)(i:Nat)(hi:i<fs.length)(x:Option Addr)(m c:Nat)(ns:List Int):
  fU (w.setCell ⟨g,i*2+1,none⟩ (.slice x m c)) base (.slice (some ⟨g,0,none⟩) n cap) (fs.set i (sB (fcAt fs i) x m c ns)):=by
 rcases h.2 with ⟨hv, -⟩|⟨g',cap',cur,hv,h1,h2,h3,h4,h5,h6⟩
 ·simp at hv
 ·simp only[Value.slice.injEq,Option.some.injEq,Addr.mk.injEq]at hv;obtain⟨⟨rfl, -⟩,rfl,rfl⟩:=hv;refine⟨iR _, .inr ⟨g,cap,cur.setIfInBounds (i*2+1) (.slice x m c),by rw[List.length_set],h1,heap_setCell_same w g _ _ _ _ h2,by rw[List.length_set];exact h3,h4,by simpa using h5,?_⟩⟩;rw[List.length_set,Array.toList_setIfInBounds,List.take_set,h6,NU fs i x m c ns hi]
theorem fU.frozen(h:fU w base (.slice (some ⟨g,0,none⟩) n cap) fs)(i:Nat):w.frozen? ⟨g,i,none⟩=false:=lT h i
theorem fU.block(h:fU w base (.slice (some ⟨g,0,none⟩) n cap) fs):base<=g/\∃cur,w.heap[g]?=some (.cells cur 75):=rA h
theorem dQ.is(h:dQ w base (.slice x n c) es):IS w x n es/\es.length=n/\n<=c/\c<=9223372036854775807:=by
 obtain⟨x',c',hv,h1,h2, -,h4⟩:=h.mem;simp only[Value.slice.injEq]at hv;obtain⟨rfl,rfl,rfl⟩:=hv;exact⟨h4,rfl,h1,h2⟩
theorem IS.set(h:IS w x n ns)(hx:∀q,x=some q->0<n->q.block≠g):IS (w.setCell ⟨g,o,none⟩ v) x n ns where
 len:=h.len
 cells:=fun i hi=>by
  obtain⟨b,of,he,c0⟩:=h.cells i hi;exact⟨b,of,he,(bA (hx _ he (by omega))).trans c0⟩
structure nV(w:World)(base:Nat)(v:Value)(fs:List Fc)(k:Nat):Prop where
 row:fU w base v fs
 own:∀i,i<k->dQ w base (.slice (fcAt fs i).x (fcAt fs i).n (fcAt fs i).c) (fcAt fs i).ns
 rest:∀i,k<=i->i<fs.length->IS w (fcAt fs i).x (fcAt fs i).n (fcAt fs i).ns/\(fcAt fs i).n<=(fcAt fs i).c/\(fcAt fs i).n<=64/\(∀q,(fcAt fs i).x=some q->0<(fcAt fs i).n->q.block<base)
def LI(f g:Fc):Prop:=f.id=g.id/\f.n=g.n/\f.ns=g.ns
def dX(fs gs:List Fc):Prop:=fs.length=gs.length/\∀i,i<fs.length->LI (fcAt fs i) (fcAt gs i)
theorem LI.refl(f:Fc):LI f f:=⟨rfl,rfl,rfl⟩
theorem dX.refl(fs:List Fc):dX fs fs:=⟨rfl,fun _ _=>LI.refl _⟩
theorem nV.later(h:nV w base v fs k)(hb:Below w.heap.size w w'):nV w' base v fs k:=
 ⟨h.row.later hb,fun i hi=>(h.own i hi).later hb,fun i hi hi2=>by
  obtain⟨g1,g2⟩:=h.rest i hi hi2;exact⟨g1.later hb,g2⟩⟩
theorem nV.low(h:nV w base v fs fs.length)(hb:base'<=base):nV w base' v fs fs.length:=
 ⟨h.row.low hb,fun i hi=>(h.own i hi).low hb,fun i hi hi2=>by omega⟩
theorem nV.kept(h:nV w base v fs fs.length)(hg:w.grownBy w' (some g))(hr:∀k,v.ownBlock=some k->k≠g)(ho:∀i,i<fs.length->∀k,(Value.slice (fcAt fs i).x (fcAt fs i).n (fcAt fs i).c).ownBlock=some k->k≠g):nV w' base v fs fs.length:=
 ⟨h.row.kept hg hr,fun i hi=>(h.own i hi).kept hg (ho i hi),fun i hi hi2=>by omega⟩
theorem nV.start(hk:oW w x n fs)(hm:∀i,i<n->(fcAt fs i).n<=64)(hb:Below w.heap.size w w')(h:fU w' base v fs)(hw2:w.heap.size<=base):nV w' base v fs 0 where
 row:=h
 own:=fun i hi=>by omega
 rest:=fun i _ hi=>by
  have hin:i<n:=by rw[<-hk.len];exact hi
  obtain⟨g1,g2,g3⟩:=hk.addrs i hin;refine⟨g3.later hb,g1,hm i hin,fun q hq h0=>?_⟩;obtain⟨b,o,hx,c0⟩:=g3.cells 0 h0;rw[hq]at hx
  cases hx;exact Nat.lt_of_lt_of_le (block_lt_of_cell c0) hw2
theorem nV.step(h:nV W base (.slice (some ⟨g,0,none⟩) n cap) fs k)(hk:k<fs.length)(hb:Below W.heap.size W W1)(ho:dQ W1 W.heap.size (.slice x' (fcAt fs k).ns.length c') (fcAt fs k).ns)(hwb:base<=W.heap.size):
  nV (W1.setCell ⟨g,k*2+1,none⟩ (.slice x' (fcAt fs k).ns.length c')) base (.slice (some ⟨g,0,none⟩) n cap) (fs.set k (sB (fcAt fs k) x' (fcAt fs k).ns.length c' (fcAt fs k).ns)) (k+1):=by
 have hr:=h.row.later hb;obtain⟨hbg,cur,hg⟩:=hr.block;have hall:∀i,i<k+1->dQ W1 base (.slice (fcAt (fs.set k (sB (fcAt fs k) x' (fcAt fs k).ns.length c' (fcAt fs k).ns)) i).x (fcAt (fs.set k (sB (fcAt fs k) x' (fcAt fs k).ns.length c' (fcAt fs k).ns)) i).n (fcAt (fs.set k (sB (fcAt fs k) x' (fcAt fs k).ns.length c' (fcAt fs k).ns)) i).c) (fcAt (fs.set k (sB (fcAt fs k) x' (fcAt fs k).ns.length c' (fcAt fs k).ns)) i).ns:=fun i hi=>by
  rw[sC hk];by_cases e:k=i
  ·rw[if_pos e];exact ho.low hwb
  ·rw[if_neg e];exact(h.own i (by omega)).later hb
 refine⟨hr.set k hk x' _ c' _,fun i hi=>(hall i hi).kept (aN _ _ _ _) (fun q hq e=>by subst e;exact(hall i hi).ne hg (by decide) hq),fun i hi hi2=>?_⟩;rw[List.length_set]at hi2;rw[sC hk,if_neg (by omega)];obtain⟨g1,g2,g3,g4⟩:=h.rest i (by omega) hi2;exact⟨(g1.later hb).set (fun q hq h0=>by have:=g4 q hq h0;omega),g2,g3,g4⟩
theorem dX.set(h:dX fs gs)(hk:k<gs.length)(hn:(fcAt gs k).ns.length=(fcAt gs k).n):dX fs (gs.set k (sB (fcAt gs k) x (fcAt gs k).ns.length c (fcAt gs k).ns)):=by
 refine⟨by rw[List.length_set];exact h.1,fun i hi=>?_⟩;have hs:=h.2 i hi;rw[sC hk];by_cases e:k=i
 ·subst e;rw[if_pos rfl];obtain⟨a1,a2,a3⟩:=hs;exact⟨a1,a2.trans hn.symm,a3⟩
 ·rw[if_neg e];exact hs
theorem yS(x:Option Addr)(n c:Nat)(fs:List Fc)(w:World)(hp:oW w x n fs)(hn:n<=64)(hm:∀i,i<n->(fcAt fs i).n<=64):
  Calls Tryz.prog 232 #[.slice x n c] w fun e w'=>∃v gs,e= .returned v/\dX fs gs/\nV w' w.heap.size v gs gs.length/\Below w.heap.size w w':=by
 have hfl:Hid (fs.length=n):=hp.len;go_enter Tryz.func232,Tryz.ntmps232;go_wp2_with fail;refine(JK x n c fs w hp (by omega)).mono ?_;rintro e w1 ⟨v,rfl,hO,hb1⟩;have hk0:nV w1 w.heap.size v fs 0:=nV.start hp hm hb1 hO (zE);obtain⟨xv,cv,rfl,hv1,hv2,hv3,hv4⟩:=hO.mem;go_wp2;go_loopw [9] (fun i wr=>∃(q:Nat) (gs:List Fc),q<=fs.length/\i= .int .i64 q/\dX fs gs/\nV wr w.heap.size (.slice xv fs.length cv) gs q/\Below w.heap.size w wr) (fun i _=>fs.length- (intOf i).toNat)
 case atStart=>exact⟨0,fs,by omega,rfl,dX.refl _,hk0,hb1⟩
 case round=>
  obtain⟨q,gs,hq,rfl,hs,hQ,hBr⟩:=hrel
  by_cases hlt:q<fs.length
  ·have hlq:q<gs.length:=by rw[<-hs.1];exact hlt
   have hlt':Hid (q<fs.length):=hlt;obtain⟨x2,c2,he2, -, -, -,hm2⟩:=hQ.row.mem;simp only[Value.slice.injEq]at he2;obtain⟨rfl, -,rfl⟩:=he2;obtain⟨b2,o2,he3, -,c1⟩:=hm2 q hlq;rcases hQ.row.2 with ⟨hv, -⟩|⟨g,cap,cur,hv,hg1,hg2, -⟩
   ·rw[he3]at hv;simp at hv
   simp only[Value.slice.injEq]at hv;obtain⟨hx3, -,rfl⟩:=hv;rw[hx3]at he3;simp only[Option.some.injEq,Addr.mk.injEq]at he3;obtain⟨rfl,rfl, -⟩:=he3;subst hx3;obtain⟨hIS,hnc,hn64, -⟩:=hQ.rest q (zE) hlq;have hbs:Hid (w.heap.size<=wr.heap.size):=hBr.size;have c1':wr.cell? ⟨g,q*2+1,none⟩=some (.slice (fcAt gs q).x (fcAt gs q).n (fcAt gs q).c):=by simpa using c1
   clear c1;go_wp2_with fail;refine(JV (fcAt gs q).x (fcAt gs q).n (fcAt gs q).c (fcAt gs q).ns wr hIS (by omega)).mono ?_;rintro e w2 ⟨v1,rfl,hO1,hb2⟩;obtain⟨x1,c1,rfl, -⟩:=hO1.mem;have d1:=aF hb2 c1';have df:w2.frozen? ⟨g,q*2+1,none⟩=false:=(hQ.row.later hb2).frozen _;have hst:=hQ.step (x':=x1) (c':=c1) hlq hb2 hO1 hbs.out;have hB3:=(hBr.trans (hb2.mono hBr.size)).setCell (p:=⟨g,q*2+1,none⟩) hg1 (.slice x1 (fcAt gs q).ns.length c1);have hs':=hs.set (x:=x1) (c:=c1) hlq hIS.len;clear c1' hO1;go_wp2;go_roundw
   case rel=>exact⟨q+1,_,hlt'.out,by go_num,hs',hst,hB3⟩
   case measure=>simp[intOf];have:=hlt'.out;omega
  ·obtain rfl:q=fs.length:=by omega
   go_wp2;go_ret;exact⟨_,gs,rfl,hs,by rw[<-hs.1];exact hQ,hBr⟩
def kD(s:Sb)(x:Option Addr)(n c:Nat)(fs:List Fc):Sb:=⟨s.id,s.a,s.l,x,n,c,fs⟩
theorem nW{f:Sb}(hi:i<ss.length):aG (ss.set i f) j=if i=j then f else aG ss j:=by
 unfold aG;rw[zF,zF,List.getElem?_set];by_cases h:i=j
 ·subst h;rw[if_pos rfl,if_pos rfl,if_pos hi];rfl
 ·rw[if_neg h,if_neg h]
theorem NV(ss:List Sb)(i:Nat)(x:Option Addr)(n c:Nat)(fs:List Fc)(hi:i<ss.length):(flatS ss).set (i*4+3) (.slice x n c)=flatS (ss.set i (kD (aG ss i) x n c fs)):=by
 refine List.ext_getElem? fun j=>?_;by_cases hj:j<ss.length*4
 ·have e:j=(j/4)*4+j%4:=by omega
  have hq:j/4<ss.length:=by omega
  rw[e,rO _ _ _ (by rw[List.length_set];exact hq) (by omega),nW hi,List.getElem?_set];by_cases h1:i=j/4
  ·rw[if_pos h1];by_cases h2:j%4=3
   ·rw[if_pos (by omega),if_pos (by rw[iQ];omega),h2];rfl
   ·rw[if_neg (by omega),rO _ _ _ hq (by omega),h1];have h3:j%4<3:=by omega
    generalize j%4=r at h3;rcases r with _|_|_|r
    all_goals first|rfl|omega
  ·rw[if_neg h1,if_neg (by omega),rO _ _ _ hq (by omega)]
 ·rw[List.getElem?_eq_none (by rw[List.length_set,iQ];omega),List.getElem?_eq_none (by rw[iQ,List.length_set];omega)]
theorem dC.set(h:dC w base (.slice (some ⟨g,0,none⟩) n cap) ss)(i:Nat)(hi:i<ss.length)(x:Option Addr)(m c:Nat)(fs:List Fc):
  dC (w.setCell ⟨g,i*4+3,none⟩ (.slice x m c)) base (.slice (some ⟨g,0,none⟩) n cap) (ss.set i (kD (aG ss i) x m c fs)):=by
 rcases h.2 with ⟨hv, -⟩|⟨g',cap',cur,hv,h1,h2,h3,h4,h5,h6⟩
 ·simp at hv
 ·simp only[Value.slice.injEq,Option.some.injEq,Addr.mk.injEq]at hv;obtain⟨⟨rfl, -⟩,rfl,rfl⟩:=hv;refine⟨iQ _, .inr ⟨g,cap,cur.setIfInBounds (i*4+3) (.slice x m c),by rw[List.length_set],h1,heap_setCell_same w g _ _ _ _ h2,by rw[List.length_set];exact h3,h4,by simpa using h5,?_⟩⟩;rw[List.length_set,Array.toList_setIfInBounds,List.take_set,h6,NV ss i x m c fs hi]
theorem dC.frozen(h:dC w base (.slice (some ⟨g,0,none⟩) n cap) ss)(i:Nat):w.frozen? ⟨g,i,none⟩=false:=lT h i
theorem dC.block(h:dC w base (.slice (some ⟨g,0,none⟩) n cap) ss):base<=g/\∃cur,w.heap[g]?=some (.cells cur 72):=rA h
structure kN(w:World)(base:Nat)(v:Value)(ss:List Sb)(k:Nat):Prop where
 row:dC w base v ss
 own:∀i,i<k->nV w base (.slice (aG ss i).x (aG ss i).n (aG ss i).c) (aG ss i).fs (aG ss i).fs.length
 apart:∀i j,i<k->j<k->i≠j->∀b,(Value.slice (aG ss i).x (aG ss i).n (aG ss i).c).ownBlock=some b->(Value.slice (aG ss j).x (aG ss j).n (aG ss j).c).ownBlock≠some b
def LJ(s t:Sb):Prop:=s.id=t.id/\s.a=t.a/\s.l=t.l/\s.n=t.n/\dX s.fs t.fs
def cO(ss ts:List Sb):Prop:=ss.length=ts.length/\∀i,i<ss.length->LJ (aG ss i) (aG ts i)
theorem LJ.refl(s:Sb):LJ s s:=⟨rfl,rfl,rfl,rfl,dX.refl _⟩
theorem cO.refl(ss:List Sb):cO ss ss:=⟨rfl,fun _ _=>LJ.refl _⟩
theorem kN.later(h:kN w base v ss k)(hb:Below w.heap.size w w'):kN w' base v ss k:=
 ⟨h.row.later hb,fun i hi=>(h.own i hi).later hb,h.apart⟩
theorem kN.low(h:kN w base v ss k)(hb:base'<=base):kN w base' v ss k:=
 ⟨h.row.low hb,fun i hi=>(h.own i hi).low hb,h.apart⟩
theorem nV.kept_of(h:nV w base v fs fs.length)(hg:w.grownBy w' (some g))(hb:w.heap[g]?=some (.cells cur t))(h1:t≠75)(h2:t≠3):nV w' base v fs fs.length:=
 h.kept hg (fun _ hk e=>by subst e;exact h.row.ne hb h1 hk) (fun i hi _ hk e=>by subst e;exact(h.own i hi).ne hb h2 hk)
theorem kN.step(h:kN W base (.slice (some ⟨g,0,none⟩) n cap) ss k)(hk:k<ss.length)(hb:Below W.heap.size W W1)(ho:nV W1 W.heap.size (.slice x' gs.length c') gs gs.length)(hwb:base<=W.heap.size):
  kN (W1.setCell ⟨g,k*4+3,none⟩ (.slice x' gs.length c')) base (.slice (some ⟨g,0,none⟩) n cap) (ss.set k (kD (aG ss k) x' gs.length c' gs)) (k+1):=by
 have hr:=h.row.later hb;obtain⟨hbg,cur,hg⟩:=hr.block;refine⟨hr.set k hk x' _ c' _,fun i hi=>?_,fun i j hi hj hij b hbi hbj=>?_⟩
 ·rw[nW hk];by_cases e:k=i
  ·rw[if_pos e];exact(ho.low hwb).kept_of (aN _ _ _ _) hg (by decide) (by decide)
  ·rw[if_neg e];exact((h.own i (by omega)).later hb).kept_of (aN _ _ _ _) hg (by decide) (by decide)
 ·rw[nW hk]at hbi hbj;by_cases e:k=i
  ·rw[if_pos e]at hbi;rw[if_neg (by omega)]at hbj;have h1:=ho.row.lt b hbi;have h2:=(h.own j (by omega)).row.lt b hbj;omega
  ·rw[if_neg e]at hbi;by_cases e2:k=j
   ·rw[if_pos e2]at hbj;have h1:=ho.row.lt b hbj;have h2:=(h.own i (by omega)).row.lt b hbi;omega
   ·rw[if_neg e2]at hbj;exact h.apart i j (by omega) (by omega) hij b hbi hbj
theorem nV.fcs(h:nV w base (.slice x n c) fs fs.length):oW w x n fs/\fs.length=n/\n<=c/\c<=9223372036854775807:=by
 obtain⟨x',c',hv,h1,h2, -,h4⟩:=h.row.mem;simp only[Value.slice.injEq]at hv;obtain⟨rfl,rfl,rfl⟩:=hv;refine⟨⟨rfl,h4,fun i hi=>?_⟩,rfl,h1,h2⟩;obtain⟨g1,g2,g3,g4⟩:=(h.own i hi).is;exact⟨g3,Nat.le_trans g3 g4,g1⟩
theorem kN.subs(h:kN w base v ss ss.length):∃x c,v= .slice x ss.length c/\SS w x ss.length ss/\ss.length<=c/\c<=9223372036854775807:=by
 obtain⟨x,c,hv,h1,h2, -,h4⟩:=h.row.mem;refine⟨x,c,hv,⟨rfl,h4,fun i hi=>?_⟩,h1,h2⟩;obtain⟨g1,g2,g3,g4⟩:=(h.own i hi).fcs;exact⟨g3,Nat.le_trans g3 g4,g1⟩
theorem bT.rs{rs:List Rg}(h:bT w base v rs):∃x c,v= .slice x rs.length c/\RS w x rs.length rs/\rs.length<=c/\c<=9223372036854775807:=by
 obtain⟨x,c,hv,h1,h2, -,h4⟩:=h.mem;exact⟨x,c,hv,⟨rfl,h4⟩,h1,h2⟩
theorem dX.trans{a b c:List Fc}(h1:dX a b)(h2:dX b c):dX a c:=
 ⟨h1.1.trans h2.1,fun i hi=>by
  obtain⟨p1,p2,p3⟩:=h1.2 i hi;obtain⟨q1,q2,q3⟩:=h2.2 i (by rw[<-h1.1];exact hi);exact⟨p1.trans q1,p2.trans q2,p3.trans q3⟩⟩
theorem cO.set(h:cO ss ts)(hk:k<ts.length)(hg:dX (aG ts k).fs gs)(hn:(aG ts k).fs.length=(aG ts k).n):cO ss (ts.set k (kD (aG ts k) x gs.length c gs)):=by
 refine⟨by rw[List.length_set];exact h.1,fun i hi=>?_⟩;have hs:=h.2 i hi;rw[nW hk];by_cases e:k=i
 ·subst e;rw[if_pos rfl];obtain⟨a1,a2,a3,a4,a5⟩:=hs;exact⟨a1,a2,a3,by rw[a4,<-hn];exact hg.1,a5.trans hg⟩
 ·rw[if_neg e];exact hs
abbrev eH(vid:Int)(vR vS:Value):Obj:= .cells #[.int .i64 vid,vR,vS] 51
theorem EB{t:Int}{v' u':Value}(h:V.heap[b]?=some (eH t v u)):(((V.setCell ⟨b,0,none⟩ (.int .i64 t')).setCell ⟨b,1,none⟩ v').setCell ⟨b,2,none⟩ u').heap[b]?=some (eH t' v' u'):=by
 have h1:=heap_setCell_same V b 0 _ 51 (.int .i64 t') h;have h2:=heap_setCell_same _ b 1 _ 51 v' h1;have h3:=heap_setCell_same _ b 2 _ 51 u' h2;simpa using h3
def ZL(vid:Int)(rs:List Rg)(ss:List Sb)(w:World)(e:Ending)(w':World):Prop:=
 ∃vR vS ts,e= .returned (.agg #[.int .i64 vid,vR,vS])/\bT w' w.heap.size vR rs/\cO ss ts/\kN w' w.heap.size vS ts ts.length/\Below w.heap.size w w'
theorem bT.put{rs:List Rg}(h:bT w base v rs)(hb:b<base):bT (w.setCell ⟨b,o,none⟩ u) base v rs:=
 h.kept (aN _ _ _ _) (fun k hk=>by have:=h.lt k hk;omega)
theorem kN.put(h:kN w base v ss ss.length)(hb:b<base):kN (w.setCell ⟨b,o,none⟩ u) base v ss ss.length:=
 ⟨h.row.kept (aN _ _ _ _) (fun k hk=>by have:=h.row.lt k hk;omega),fun i hi=>(h.own i hi).kept (aN _ _ _ _) (fun k hk=>by have:=(h.own i hi).row.lt k hk;omega) (fun j hj k hk=>by have:=((h.own i hi).own j hj).lt k hk;omega),h.apart⟩
theorem R1{rs:List Rg}(hb:Below (w0.alloc (eH 0 (.slice none 0 0) (.slice none 0 0))).heap.size (w0.alloc (eH 0 (.slice none 0 0) (.slice none 0 0))) w1)(hO:bT w1 (w0.alloc (eH 0 (.slice none 0 0) (.slice none 0 0))).heap.size v rs):Below w0.heap.size w0 w1/\w1.heap[w0.heap.size]?=some (eH 0 (.slice none 0 0) (.slice none 0 0))/\bT w1 w0.heap.size v rs:=
 ⟨(bl1 w0 _).trans (hb.mono (by simp)),aA hb (aB _ rfl),hO.low (by simp)⟩
theorem R2(hb:Below (w0.alloc (eH 0 (.slice none 0 0) (.slice none 0 0))).heap.size (w0.alloc (eH 0 (.slice none 0 0) (.slice none 0 0))) w1)(hO:dC w1 (w0.alloc (eH 0 (.slice none 0 0) (.slice none 0 0))).heap.size v ss):Below w0.heap.size w0 w1/\w1.heap[w0.heap.size]?=some (eH 0 (.slice none 0 0) (.slice none 0 0))/\dC w1 w0.heap.size v ss:=
 ⟨(bl1 w0 _).trans (hb.mono (by simp)),aA hb (aB _ rfl),hO.low (by simp)⟩
theorem R3{rs:List Rg}(hy:w2.heap[b]?=some (eH 0 (.slice none 0 0) (.slice none 0 0)))(hb:w0.heap.size<=b)(hO1:bT w2 w0.heap.size vR rs)(hO2:dC w2 w0.heap.size vS ss)(hB:Below w0.heap.size w0 w2):
  bT (((w2.setCell ⟨b,0,none⟩ (.int .i64 vid)).setCell ⟨b,1,none⟩ vR).setCell ⟨b,2,none⟩ vS) w0.heap.size vR rs/\dC (((w2.setCell ⟨b,0,none⟩ (.int .i64 vid)).setCell ⟨b,1,none⟩ vR).setCell ⟨b,2,none⟩ vS) w0.heap.size vS ss/\(((w2.setCell ⟨b,0,none⟩ (.int .i64 vid)).setCell ⟨b,1,none⟩ vR).setCell ⟨b,2,none⟩ vS).heap[b]?=some (eH vid vR vS)/\Below w0.heap.size w0 (((w2.setCell ⟨b,0,none⟩ (.int .i64 vid)).setCell ⟨b,1,none⟩ vR).setCell ⟨b,2,none⟩ vS):=by
 have n1:∀k,vR.ownBlock=some k->k≠b:=fun k hk e=>by subst e;exact hO1.ne hy (by decide) hk
 have n2:∀k,vS.ownBlock=some k->k≠b:=fun k hk e=>by subst e;exact hO2.ne hy (by decide) hk
 exact⟨((hO1.kept (aN _ _ _ _) n1).kept (aN _ _ _ _) n1).kept (aN _ _ _ _) n1,((hO2.kept (aN _ _ _ _) n2).kept (aN _ _ _ _) n2).kept (aN _ _ _ _) n2,EB hy,((hB.setCell hb _).setCell hb _).setCell hb _⟩
theorem fM(vid:Int)(rx:Option Addr)(rn rc:Nat)(rs:List Rg)(sx:Option Addr)(sn sc:Nat)(ss:List Sb)(w:World)(hv:Vp w rx rn rc rs sx sn sc ss)(hrn:rn<=64)(hsn:sn<=64)(hm:∀i,i<sn->(aG ss i).n<=64)(hm2:∀i,i<sn->∀j,j<(aG ss i).n->(fcAt (aG ss i).fs j).n<=64):
  Calls Tryz.prog 181 #[.agg #[.int .i64 vid, .slice rx rn rc, .slice sx sn sc]] w (ZL vid rs ss w):=by
 have hsl:Hid (ss.length=sn):=hv.subs.len;go_enter Tryz.func181,Tryz.ntmps181;go_upto_region 1 with fail
 obtain⟨w0,hw0⟩:∃w0,w0=(w.alloc (eH vid (.slice rx rn rc) (.slice sx sn sc))).alloc (eH 0 (.slice none 0 0) (.slice none 0 0)):=⟨_,rfl⟩;rw[<-hw0];have hB0:Below w.heap.size w w0:=by rw[hw0];exact bP w _ _
 have hb0:w0.heap[w.heap.size]?=some (eH vid (.slice rx rn rc) (.slice sx sn sc)):=by rw[hw0];exact aH _ (aB _ rfl)
 have hr0:w0.heap[w.heap.size+1]?=some (eH 0 (.slice none 0 0) (.slice none 0 0)):=by rw[hw0];exact aB _ (by simp)
 clear hw0;have hsz:w.heap.size+1<w0.heap.size:=(zG hr0);obtain⟨kb, -⟩:=aD hb0;have k0:w0.cell? ⟨w.heap.size,0,none⟩=some (.int .i64 vid):=kb 0;have k1:w0.cell? ⟨w.heap.size,1,none⟩=some (.slice rx rn rc):=kb 1;have k2:w0.cell? ⟨w.heap.size,2,none⟩=some (.slice sx sn sc):=kb 2;clear kb;have hv0:=hv.later hB0;have hclR:=fun W h=>JI rx rn rc rs W h (by omega);have hclS:=fun W h=>JJ sx sn sc ss W h (by omega);go_cut [3] (fun p wc=>∃nb vR vS,p= .pointer (some ⟨nb,0,none⟩)/\w0.heap.size<=nb/\bT wc w0.heap.size vR rs/\dC wc w0.heap.size vS ss/\wc.heap[nb]?=some (eH vid vR vS)/\Below w0.heap.size w0 wc)
 case first=>
  go_region_held3 (fun w'=>w'.cell? ⟨w.heap.size,0,none⟩=some (.int .i64 vid)/\w'.cell? ⟨w.heap.size,1,none⟩=some (.slice rx rn rc)/\w'.cell? ⟨w.heap.size,2,none⟩=some (.slice sx sn sc)) (first|(go_keep;done)|(exact⟨by assumption,by assumption,by assumption⟩)|(exact⟨aF (bl1 _ _) (by assumption),aF (bl1 _ _) (by assumption),aF (bl1 _ _) (by assumption)⟩)|(refine⟨?_,?_,?_⟩<;>(show World.cell? _ _=_;(repeat rw[bA (by omega)]);assumption))) (first|(go_at_call 230;refine(hclR (w0.alloc (eH 0 (.slice none 0 0) (.slice none 0 0))).drew (hv0.ranges.later (bl1 w0 _).drew)).mono ?_;rintro e w1 ⟨v1,rfl,hO1,hb1⟩;obtain⟨x1,c1,rfl, -⟩:=hO1.mem;obtain⟨hbb1,hx,hO1a⟩:=R1 (w0:=w0) ⟨hb1.os,hb1.tape,hb1.output,hb1.size,hb1.block⟩ hO1;have m0:=aF hbb1 k0;have m1:=aF hbb1 k1;have m2:=aF hbb1 k2;have hvs:=hv0.subs.later hbb1)|(go_at_call 230;refine(hclR _ (by first|exact hv0.ranges|exact hv0.ranges.later (zD).drew)).mono ?_;rintro e w1 ⟨v1,rfl,hO1,hb1⟩;obtain⟨x1,c1,rfl, -⟩:=hO1.mem;have hbb1:Below w0.heap.size w0 w1:=⟨hb1.os,hb1.tape,hb1.output,hb1.size,hb1.block⟩;have m0:=aF hbb1 k0;have m1:=aF hbb1 k1;have m2:=aF hbb1 k2;have hvs:=hv0.subs.later hbb1)|(go_at_call 231;refine(hclS (w1.alloc (eH 0 (.slice none 0 0) (.slice none 0 0))) (hvs.later (bl1 w1 _))).mono ?_;rintro e w2 ⟨v2,rfl,hO2,hb2⟩;obtain⟨x2,c2,rfl, -⟩:=hO2.mem;obtain⟨hb12,hy,hO2a⟩:=R2 (w0:=w1) hb2 hO2;have hbb2:=hbb1.trans (hb12.mono hbb1.size);have n0:=aF hb12 m0;have n1:=aF hb12 m1;have n2:=aF hb12 m2;have hO1':=bT.later hO1 hb12;have hz1:=hbb1.size;have hz2:=hb12.size;have q0:w2.cell? ⟨w1.heap.size,0,none⟩=some (.int .i64 0):=(aD hy).1 0;have q1:w2.cell? ⟨w1.heap.size,1,none⟩=some (.slice none 0 0):=(aD hy).1 1;have q2:w2.cell? ⟨w1.heap.size,2,none⟩=some (.slice none 0 0):=(aD hy).1 2;have f0:w2.frozen? ⟨w1.heap.size,0,none⟩=false:=(aD hy).2 0;have f1:w2.frozen? ⟨w1.heap.size,1,none⟩=false:=(aD hy).2 1;have f2:w2.frozen? ⟨w1.heap.size,2,none⟩=false:=(aD hy).2 2)|(go_at_call 231;refine(hclS w1 hvs).mono ?_;rintro e w2 ⟨v2,rfl,hO2,hb2⟩;obtain⟨x2,c2,rfl, -⟩:=hO2.mem;have hb12:Below w1.heap.size w1 w2:=hb2;have hbb2:=hbb1.trans (hb12.mono hbb1.size);have n0:=aF hb12 m0;have n1:=aF hb12 m1;have n2:=aF hb12 m2;have hO1':=bT.later hO1 hb12;have hz1:=hbb1.size;have hz2:=hb12.size;try(have hy:w2.heap[w0.heap.size]?=some (eH 0 (.slice none 0 0) (.slice none 0 0)):=aA hb12 hx;have q0:w2.cell? ⟨w0.heap.size,0,none⟩=some (.int .i64 0):=(aD hy).1 0;have q1:w2.cell? ⟨w0.heap.size,1,none⟩=some (.slice none 0 0):=(aD hy).1 1;have q2:w2.cell? ⟨w0.heap.size,2,none⟩=some (.slice none 0 0):=(aD hy).1 2;have f0:w2.frozen? ⟨w0.heap.size,0,none⟩=false:=(aD hy).2 0;have f1:w2.frozen? ⟨w0.heap.size,1,none⟩=false:=(aD hy).2 1;have f2:w2.frozen? ⟨w0.heap.size,2,none⟩=false:=(aD hy).2 2))|fail)
  all_goals go_wp2
  all_goals go_meet
  case rel=>exact⟨_,_,_,rfl,Nat.le_trans hz1 hz2,bT.later hO1' (bl1 _ _),(hO2.low hz1).later (bl1 _ _),aB _ rfl,Below.alloc hbb2 hbb2.size _⟩
  case rel=>exact⟨_,_,_,rfl,hz1,R3 hy hz1 hO1' (hO2a.low hz1) hbb2⟩
  case rel=>exact⟨_,_,_,rfl,zE,R3 hy (zE) (hO1a.later hb12) (hO2.low hz1) hbb2⟩
 case rest=>
  obtain⟨nb,vR,vS,rfl,hnb,hOR,hOS,hbx,hBc⟩:=hcut
  have hk0:kN wc w0.heap.size vS ss 0:=⟨hOS,fun i hi=>by omega,fun i j hi=>by omega⟩
  obtain⟨xr,cr,rfl, -⟩:=hOR.mem
  obtain⟨xv,cv,rfl, -⟩:=hOS.mem
  have e1:=aO hbx 2 rfl
  go_wp2
  clear e1
  go_loopw [17] (fun i wr=>∃(q:Nat) (ts:List Sb),q<=ss.length/\i= .int .i64 q/\cO ss ts/\(∀i,q<=i->aG ts i=aG ss i)/\kN wr w0.heap.size (.slice xv ss.length cv) ts q/\bT wr w0.heap.size (.slice xr rs.length cr) rs/\wr.heap[nb]?=some (eH vid (.slice xr rs.length cr) (.slice xv ss.length cv))/\Below w0.heap.size w0 wr) (fun i _=>ss.length- (intOf i).toNat)
  case atStart=>exact⟨0,ss,by omega,rfl,cO.refl _,fun _ _=>rfl,hk0,hOR,hbx,hBc⟩
  case round=>
   obtain⟨q,ts,hq,rfl,hs,htl,hQ,hR,hbr,hBr⟩:=hrel
   obtain⟨e0,e1,e2⟩:=bZ hbr rfl rfl rfl
   by_cases hlt:q<ss.length
   ·have hlq:q<ts.length:=by rw[<-hs.1];exact hlt
    have hlt':=hlt;have hqs:q<sn:=by rw[<-hsl.out];exact hlt
    obtain⟨x2,c2,he2, -, -, -,hm'⟩:=hQ.row.mem;simp only[Value.slice.injEq]at he2;obtain⟨rfl, -,rfl⟩:=he2;obtain⟨b2,o2,he3, -, -, -,c8⟩:=hm' q hlq;rcases hQ.row.2 with ⟨hv', -⟩|⟨g,cap,cur,hv',hg1,hg2, -⟩
    ·rw[he3]at hv';simp at hv'
    simp only[Value.slice.injEq]at hv';obtain⟨hx3, -,rfl⟩:=hv';rw[hx3]at he3;simp only[Option.some.injEq,Addr.mk.injEq]at he3;obtain⟨rfl,rfl, -⟩:=he3;subst hx3;obtain⟨hnc, -,hF⟩:=(hv0.subs.later hBr).faces q hqs;have hm64:=hm q hqs;have hm264:=hm2 q hqs;rw[<-htl q (zE)]at hnc hF hm64 hm264;have htl':Hid (∀i,q<=i->aG ts i=aG ss i):=htl;clear htl;have hcl:=fun W h=>yS (aG ts q).x (aG ts q).n (aG ts q).c (aG ts q).fs W h hm64 hm264;go_wp2_with fail;have c8':wr.cell? ⟨g,q*4+3,none⟩=some (.slice (aG ts q).x (aG ts q).n (aG ts q).c):=by simpa using c8
    have hne:nb≠g:=fun e=>by rw[e]at hbr;rw[hbr]at hg2;simp at hg2
    go_region_with (first|(go_at_call 232;refine(hcl _ (by first|exact hF|exact hF.later (zD).drew)).mono ?_;rintro e w1 ⟨v1,gs,rfl,hsg,hO1,hb1⟩;obtain⟨x1,c1,rfl, -⟩:=hO1.row.mem;have hb2:Below wr.heap.size wr w1:=⟨hb1.os,hb1.tape,hb1.output,hb1.size,hb1.block⟩;have d1:=aF hb2 e2;have d8:=aF hb2 c8';have df:w1.frozen? ⟨g,q*4+3,none⟩=false:=(hQ.row.later hb2).frozen _)|fail)
    all_goals have hst:=hQ.step (x':=x1) (c':=c1) (gs:=gs) hlq hb2 hO1 hBr.size
    all_goals have hh:(w1.setCell ⟨g,q*4+3,none⟩ (.slice x1 gs.length c1)).heap[nb]?=some (eH vid (.slice xr rs.length cr) (.slice (some ⟨g,0,none⟩) ss.length cv)):=(zB hne).trans (aA hb2 hbr)
    all_goals have hB3:=(hBr.trans (hb2.mono hBr.size)).setCell (p:=⟨g,q*4+3,none⟩) hg1 (.slice x1 gs.length c1)
    all_goals have hRn:bT (w1.setCell ⟨g,q*4+3,none⟩ (.slice x1 gs.length c1)) w0.heap.size (.slice xr rs.length cr) rs:=(hR.later hb2).kept (aN _ _ _ _) (fun k hk e=>by subst e;exact hR.ne hg2 (by decide) hk)
    all_goals have hss:∀i,q+1<=i->aG (ts.set q (kD (aG ts q) x1 gs.length c1 gs)) i=aG ss i:=fun i hi=>by rw[nW hlq,if_neg (by omega)];exact htl'.out i (by omega)
    all_goals have hsame:=hs.set (x:=x1) (c:=c1) hlq hsg hF.len
    all_goals clear d1 d8 df
    all_goals go_wp2
    all_goals go_roundw
    all_goals first|exact⟨q+1,_,hlt',by go_num,hsame,hss,hst,hRn,hh,hB3⟩|(simp[intOf];omega)
   ·obtain rfl:q=ss.length:=by omega
    have hrr:wr.heap[w.heap.size+1]?=some (eH 0 (.slice none 0 0) (.slice none 0 0)):=(hBr.block _ hsz).trans hr0;obtain⟨r0,r1,r2⟩:=bZ hrr rfl rfl rfl;obtain⟨z0,z1,z2⟩:=fB hrr;go_wp2;refine bodyPost_ret (v:= .agg #[.int .i64 vid, .slice xr rs.length cr, .slice xv ss.length cv]) (by simp[results,Tryz.results181,go_sem,r0,r1,r2]) rfl ?_;have hQ2:kN wr w0.heap.size (.slice xv ss.length cv) ts ts.length:=by rw[<-hs.1];exact hQ
    exact⟨_,_,ts,rfl,(((hR.put hsz).put hsz).put hsz).low hB0.size,hs,(((hQ2.put hsz).put hsz).put hsz).low hB0.size,(((hB0.trans (hBr.mono hB0.size)).setCell (by simp) _).setCell (by simp) _).setCell (by simp) _⟩
def cG(n:Nat)(f:Nat->Bool):Int:=match(List.range n).find? f with |some i=>i|none=> -1
theorem NW(hi:i<n)(h:f i=true)(hno:∀j,j<i->f j=false):cG n f=i:=by
 unfold cG;have:(List.range n).find? f=some i:=by
  rw[List.find?_range_eq_some];exact⟨h,by simpa using hi,fun j hj=>by simp[hno j hj]⟩
 rw[this]
theorem R4(hno:∀j,j<n->f j=false):cG n f= -1:=by
 unfold cG;have:(List.range n).find? f=none:=by
  rw[List.find?_eq_none];intro j hj;simp[hno j (by simpa using hj)]
 rw[this]
theorem fstAt_cases(n:Nat)(f:Nat->Bool):(∃i:Nat,i<n/\f i=true/\(∀j,j<i->f j=false)/\cG n f=i)\/((∀j,j<n->f j=false)/\cG n f= -1):=by
 cases h:(List.range n).find? f with
 |none=>
  refine .inr ⟨fun j hj=>?_,by unfold cG;rw[h]⟩
  have:=List.find?_eq_none.1 h j (by simpa using hj)
  simpa using this
 |some i=>
  obtain⟨h1,h2,h3⟩:=List.find?_range_eq_some.1 h
  exact .inl ⟨i,by simpa using h2,h1,fun j hj=>by simpa using h3 j hj,by unfold cG;rw[h]⟩
theorem yT(h:(∃i:Nat,i<n/\f i=true/\(∀j,j<i->f j=false)/\r=i)\/((∀j,j<n->f j=false)/\r= -1)):r=cG n f:=by
 rcases h with ⟨i,hi,hf,hno,rfl⟩|⟨hno,rfl⟩
 ·exact(NW hi hf hno).symm
 ·exact(R4 hno).symm
theorem BM(id:Int)(p:Sb)(b:Nat)(w:World)(h0:w.cell? ⟨b,0,none⟩=some (.int .i64 id)):
  Calls Tryz.prog 276 #[.agg #[.int .i64 p.id, .int .i64 p.a, .int .i64 p.l, .slice p.x p.n p.c], .pointer (some ⟨b,0,none⟩)] w fun e w'=>e= .returned (.bool (p.id==id))/\Below w.heap.size w w':=by
 have k0:∀q,(w.alloc q).cell? ⟨b,0,none⟩=some (.int .i64 id):=fun q=>cell_later (bl1 w q) h0;go_enter Tryz.func276,Tryz.ntmps276;go_wp2;go_ret;exact⟨rfl,bl1 w _⟩
theorem yU(args:Array Value)(W:World):(callFunc 276 args).run Tryz.prog W= .ok (.enter 276 args) W:=by simp[go_sem]
theorem sD(vid id:Int)(rx:Option Addr)(rn rc:Nat)(sx:Option Addr)(sn sc:Nat)(ss:List Sb)(w:World)(hp:SS w sx sn ss)(hn:sn<=1048576):
  Calls Tryz.prog 245 #[.agg #[.int .i64 vid, .slice rx rn rc, .slice sx sn sc], .int .i64 id] w fun e w'=>e= .returned (.int .i64 (cG sn (fun i=>(aG ss i).id==id)))/\Below w.heap.size w w':=by
 go_enter Tryz.func245,Tryz.ntmps245;go_wp2_with fail;refine(mS 276 #[.pointer (some ⟨w.heap.size+1,0,none⟩)] sx sn sc ss (fun i=>(aG ss i).id==id) _ (hp.later (bP w _ _)) hn (fun i _ W hW=>BM id (aG ss i) (w.heap.size+1) W (cell_later hW (by simp))) yU).mono ?_;rintro e w1 ⟨⟨r,rfl,hr⟩,hb1⟩;have hrv:=yT hr;subst hrv;clear hr;go_wp2;go_ret;exact⟨rfl,(bP w _ _).trans (hb1.mono (by simp;omega))⟩
theorem GZ(vid id:Int)(rx:Option Addr)(rn rc:Nat)(sx:Option Addr)(sn sc:Nat)(ss:List Sb)(t:Int)(h:cG sn (fun i=>(aG ss i).id==id)=t)(w:World)(hp:SS w sx sn ss)(hn:sn<=1048576):
  Calls Tryz.prog 245 #[.agg #[.int .i64 vid, .slice rx rn rc, .slice sx sn sc], .int .i64 id] w fun e w'=>e= .returned (.int .i64 t)/\Below w.heap.size w w':=by
 subst h;exact sD vid id rx rn rc sx sn sc ss w hp hn
theorem yV(id:Int)(p:Fc)(b:Nat)(w:World)(h0:w.cell? ⟨b,0,none⟩=some (.int .i64 id)):
  Calls Tryz.prog 297 #[.agg #[.int .i64 p.id, .slice p.x p.n p.c], .pointer (some ⟨b,0,none⟩)] w fun e w'=>e= .returned (.bool (p.id==id))/\Below w.heap.size w w':=by
 have k0:∀q,(w.alloc q).cell? ⟨b,0,none⟩=some (.int .i64 id):=fun q=>cell_later (bl1 w q) h0;go_enter Tryz.func297,Tryz.ntmps297;go_wp2;go_ret;exact⟨rfl,bl1 w _⟩
theorem wL(args:Array Value)(W:World):(callFunc 297 args).run Tryz.prog W= .ok (.enter 297 args) W:=by simp[go_sem]
theorem BN(s:Sb)(id:Int)(w:World)(hp:oW w s.x s.n s.fs)(hn:s.n<=1048576):
  Calls Tryz.prog 279 #[.agg #[.int .i64 s.id, .int .i64 s.a, .int .i64 s.l, .slice s.x s.n s.c], .int .i64 id] w fun e w'=>e= .returned (.int .i64 (cG s.n (fun i=>(fcAt s.fs i).id==id)))/\Below w.heap.size w w':=by
 go_enter Tryz.func279,Tryz.ntmps279;go_wp2_with fail;refine(mT 297 #[.pointer (some ⟨w.heap.size+1,0,none⟩)] s.x s.n s.c s.fs (fun i=>(fcAt s.fs i).id==id) _ (hp.later (bP w _ _)) hn (fun i _ W hW=>yV id (fcAt s.fs i) (w.heap.size+1) W (cell_later hW (by simp))) wL).mono ?_;rintro e w1 ⟨⟨r,rfl,hr⟩,hb1⟩;have hrv:=yT hr;subst hrv;clear hr;go_wp2;go_ret;exact⟨rfl,(bP w _ _).trans (hb1.mono (by simp;omega))⟩
theorem bT.putBox{rs:List Rg}(h:bT w base v rs)(hb:w.heap[b]?=some (.cells cs t))(h1:t≠59):bT (w.setCell ⟨b,o,none⟩ u) base v rs:=
 h.kept (aN _ _ _ _) (fun k hk e=>by subst e;exact h.ne hb h1 hk)
theorem kN.putBox(h:kN w base v ss ss.length)(hb:w.heap[b]?=some (.cells cs t))(h1:t≠72)(h2:t≠75)(h3:t≠3):kN (w.setCell ⟨b,o,none⟩ u) base v ss ss.length:=
 ⟨h.row.kept (aN _ _ _ _) (fun k hk e=>by subst e;exact h.row.ne hb h1 hk),fun i hi=>(h.own i hi).kept_of (aN _ _ _ _) hb h2 h3,h.apart⟩
def X8(e:Rg)(qs rs:List Rg):Prop:=∃i,i<=qs.length/\(∀j,j<i->¬e.a<(rgAt qs j).a)/\(i<qs.length->e.a<(rgAt qs i).a)/\rs=qs.take i++[e]++qs.drop i
def fN(vid:Int)(rn:Nat)(rs:List Rg)(sn:Nat)(ss:List Sb)(r:Rg):Int:=
 if bN vid rn rs sn ss≠0 then bN vid rn rs sn ss else if E5 r=false then 1 else if anyAt rn (JM rs r.a r.l)=true then 6 else if rn=4 then 2 else 0
structure TG(w W:World)(vid:Int)(vR vS:Value)(r:Rg):Prop where
 hb:W.heap[w.heap.size]?=some (eH vid vR vS)
 hp:W.heap[w.heap.size+1]?=some (.cells #[.int .i64 r.a, .int .i64 r.l, .int .i64 r.p] 59)
 hs:W.heap[w.heap.size+2]?=some (eH 0 (.slice none 0 0) (.slice none 0 0))
 below:Below w.heap.size w W
theorem TG.later{W':World}{r:Rg}(h:TG w W vid vR vS r)(hb:Below W.heap.size W W'):TG w W' vid vR vS r:=
 ⟨aA hb h.hb,aA hb h.hp,aA hb h.hs,h.below.trans (hb.mono h.below.size)⟩
theorem jK{rs:List Rg}(h:bN vid rn rs sn ss=0):rn<=4/\sn<=6/\(∀i,i<sn->(aG ss i).n<=8)/\∀i,i<sn->∀j,j<(aG ss i).n->(fcAt (aG ss i).fs j).n<=4:=by
 unfold bN at h
 cases hm:bU rn sn ss
 ·exact few hm
 ·rw[hm]at h;simp at h
theorem wM(g:Nat)(cap:Array Value)(x:Option Addr)(n c:Nat)(ps:List Rg)(f:Nat->Bool)(w:World)(hp:RS w x n ps)(hn:n<=9223372036854775807)(hF:xY g cap n ps f w)
 (hg:∀args W,(callFunc g args).run Tryz.prog W= .ok (.enter g args) W):
  Calls Tryz.prog 172 #[.slice x n c, .func (.func g) #[] cap] w fun e w'=>(∃r:Int,e= .returned (.int .i64 r)/\((∃i:Nat,i<n/\f i=true/\(∀j,j<i->f j=false)/\r=i)\/((∀j,j<n->f j=false)/\r= -1)))/\Below w.heap.size w w':=(qA.2.2.1 g cap x n c _ f w hp.idx (by omega) hF hg).1
end Go.Proofs.YtkgeoeglidnnnaaGreatDoor
