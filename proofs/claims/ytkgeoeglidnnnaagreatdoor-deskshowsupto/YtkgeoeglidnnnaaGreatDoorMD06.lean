/- A part of the proof. -/
import Derived.Test.YtkgeoeglidnnnaaGreatDoorMD05
set_option maxRecDepth 100000
set_option maxHeartbeats 20000000
namespace Go.Proofs.YtkgeoeglidnnnaaGreatDoor
variable {w w' : World} {t l a : Int} {x : Option Addr} {n c i base g base' b j k : Nat} {ps qs : List Po} {p : Po} {v : Value} {es rs : List Rg} {cs : Array Value} {fr : Nat × Nat} {ad : Addr} {ss : List Sb} {f : Nat → Bool} {L ns : List Int} {fs : List Fc}
open Go.RowKit Go.Shelf
structure CB(w W:World)(t:Int)(x:Option Addr)(n c:Nat):Prop where
 hb:W.heap[w.heap.size]?=some (lP t (.slice x n c))
 below:Below w.heap.size w W
theorem CB.later{W W':World}(h:CB w W t x n c)(hb:Below W.heap.size W W'):CB w W' t x n c:=⟨aA hb h.hb,h.below.trans (hb.mono h.below.size)⟩
theorem kB(mn mx us co a l:Int)(t:Bool)(h:dB mn mx us co l=t)(w:World):
  Calls Tryz.prog 34 #[.agg #[.int .i64 mn, .int .i64 mx, .int .i64 us, .int .i64 co], .agg #[.int .i64 a, .int .i64 l]] w fun e w'=>e= .returned (.bool t)/\Below w.heap.size w w':=by
 subst h;exact DH mn mx us co a l w
theorem CG(a l:Int)(x:Option Addr)(n c:Nat)(ps:List (Int×Int))(E:Int)(h:eI a l n ps=E)(w:World)(hp:n<=32->PS w x n ps):
  Calls Tryz.prog 32 #[.agg #[.int .i64 a, .int .i64 l, .slice x n c]] w fun e w'=>e= .returned (.int .i64 E)/\Below w.heap.size w w':=by
 subst h;exact IP a l x n c ps w hp
theorem CH(t:Int)(x:Option Addr)(n c:Nat)(ps:List Po)(p:Po)(T:Bool)(h:lY ps (n+1) p=T)(w:World)(hp:kS w x n ps)(hn:n<=64):
  Calls Tryz.prog 35 #[.agg #[.int .i64 t, .slice x n c],IZ p] w fun e w'=>e= .returned (.bool T)/\Below w.heap.size w w':=by
 subst h;exact JB t x n c ps p w hp hn
theorem DY(t:Int)(p:Po)(x:Option Addr)(n c:Nat)(ps:List Po)(e:Le)(T:Bool)(h:lO t ps p.id e=T)(w:World)(hp:kS w x n ps)(hn:n<=64)(t0:0<=t)(t1:t<=1073741824):
  Calls Tryz.prog 36 #[.agg #[.int .i64 t, .slice x n c],IZ p,LA e] w fun r w'=>r= .returned (.bool T)/\Below w.heap.size w w':=by
 subst h;exact BB t p x n c ps e w hp hn t0 t1
theorem CI(a l:Int)(n:Nat)(ps:List (Int×Int)):eI a l n ps=0\/eI a l n ps=1\/eI a l n ps=2:=by
 unfold eI;split
 ·exact .inr (.inr rfl)
 ·split
  ·exact .inl rfl
  ·exact .inr (.inl rfl)
theorem BC(t:Int)(x:Option Addr)(n c:Nat)(ps:List Po)(w:World)(hk:Bk w x n c ps):
  Calls Tryz.prog 12 #[.agg #[.int .i64 t, .slice x n c]] w fun e w'=>e= .returned (.int .i64 (aX t ps))/\Below w.heap.size w w':=by
 have hpl:Hid (ps.length=n):=hk.ps.len;have hF:Hid (kH ps):=hk.full;go_enter Tryz.func12,Tryz.ntmps12;go_upto_region 1 with fail
 obtain⟨w0,hw0⟩:∃w0,w0=w.alloc (lP t (.slice x n c)):=⟨_,rfl⟩;rw[show w.alloc (.cells #[.int .i64 t, .slice x n c] 24)=w0 from hw0.symm];have hC0:CB w w0 t x n c:=by rw[hw0];exact⟨aB _ rfl,bl1 _ _⟩
 clear hw0;obtain⟨b0,b1⟩:=aZ hC0.hb rfl rfl;by_cases h8:8<n
 ·have h8':(n:Int)>8:=by omega
  have hE:Hid (aX t ps=2):=if_pos (by rw[hpl.out];exact h8);go_wp2;go_ret;exact⟨aP hE.out.symm,hC0.below⟩
 have h8':¬(n:Int)>8:=by omega
 have hn8:n<=8:=by omega
 have hrows:Hid (aX t ps=0↔bV t 0 1073741824=true/\∀j,j<ps.length->JC ps j/\JD t ps j):=RD hF.out (by rw[hpl.out];exact hn8);have h01:Hid (aX t ps=0\/aX t ps=1):=ZE (by rw[hpl.out];exact hn8);clear h8
 cases hwt:bV t 0 1073741824 with
 |false=>
  have hE:Hid (aX t ps=1):=by
   rcases h01.out with h|h
   ·have:=(hrows.out.1 h).1;rw[hwt]at this
    cases this
   ·exact h
  go_wp2_with fail
  refine(within_at t 0 1073741824 false hwt _).mono ?_
  rintro e w1 ⟨rfl,rfl⟩
  go_wp2
  go_ret
  exact⟨aP hE.out.symm,hC0.below⟩
 |true=>
  have hbad1:Hid (∀j,j<n->¬JC ps j->aX t ps=1):=fun j hj hr=>by
   rcases h01.out with h|h
   ·exact absurd ((hrows.out.1 h).2 j (by rw[hpl.out];exact hj)).1 hr
   ·exact h
  have hbad2:Hid (∀j,j<n->¬JD t ps j->aX t ps=1):=fun j hj hr=>by
   rcases h01.out with h|h
   ·exact absurd ((hrows.out.1 h).2 j (by rw[hpl.out];exact hj)).2 hr
   ·exact h
  have hgood:Hid ((∀j,j<n->JC ps j)->(∀j,j<n->JD t ps j)->aX t ps=0):=fun g1 g2=>hrows.out.2 ⟨hwt,fun j hj=>by rw[hpl.out]at hj;exact⟨g1 j hj,g2 j hj⟩⟩
  clear hrows h01
  have ht:0<=t/\t<=1073741824:=by unfold bV at hwt;simpa using hwt
  go_wp2_with fail
  refine(within_at t 0 1073741824 true hwt _).mono ?_
  rintro e w1 ⟨rfl,rfl⟩
  clear b0 b1 hwt
  go_wp2
  go_loopw [3] (fun i wr=>∃k:Nat,i= .int .i64 k/\k<=n/\CB w wr t x n c/\∀j,j<k->JC ps j) (fun i _=>n- (intOf i).toNat)
  case atStart=>exact⟨0,rfl,by omega,hC0,fun j hj=>by omega⟩
  case round=>
   obtain⟨k,rfl,hkn,hC,hr1⟩:=hrel
   have hr1':Hid (∀j,j<k->JC ps j):=hr1
   clear hr1 hC0
   have b1:=aO hC.hb 1 rfl
   by_cases hlt:k<n
   ·have hkw:=hk.later hC.below;obtain⟨b,o,rfl,c0,c1,c2,c3,c4,c5,c6,c7,c8⟩:=hkw.ps.cells k hlt;obtain⟨hlc,hlm,hLS⟩:=hkw.ps.leases k hlt;have hk0:(0:Int)<=k:=by omega
    have hkn2:(k:Int)<n:=by omega
    have hlth:Hid (k<n):=hlt;clear hlt;go_upto_region 9 with fail
    obtain⟨w2,hw2⟩:∃w2,w2=wr.alloc (oL (poAt ps k)):=⟨_,rfl⟩;rw[show wr.alloc (.cells #[.int .i64 (poAt ps k).id, .int .i64 (poAt ps k).up, .int .i64 (poAt ps k).a, .int .i64 (poAt ps k).l, .int .i64 (poAt ps k).mn, .int .i64 (poAt ps k).mx, .int .i64 (poAt ps k).us, .int .i64 (poAt ps k).co, .slice (poAt ps k).x (poAt ps k).n (poAt ps k).c] 64)=w2 from hw2.symm];have hB2:Below wr.heap.size wr w2:=by rw[hw2];exact bl1 _ _
    have hv2:w2.heap[wr.heap.size]?=some (oL (poAt ps k)):=by rw[hw2];exact aB _ rfl
    have hC2:=hC.later hB2;have hLS2:=hLS.later hB2;have hk2:=hkw.later hB2;clear hw2 hB2 b1 c0 c1 c2 c3 c4 c5 c6 c7 c8 hLS hkw hC;generalize wr.heap.size=pb at hv2⊢;have g1:=Ws.here (aO hC2.hb 1 rfl);have q0:=Ws.here (aO hv2 0 rfl);have q1:=Ws.here (aO hv2 1 rfl);have q2:=Ws.here (aO hv2 2 rfl);have q3:=Ws.here (aO hv2 3 rfl);have q4:=Ws.here (aO hv2 4 rfl);have q5:=Ws.here (aO hv2 5 rfl);have q6:=Ws.here (aO hv2 6 rfl);have q7:=Ws.here (aO hv2 7 rfl);have q8:=Ws.here (aO hv2 8 rfl)
    cases hid:bV (poAt ps k).id 1 65536
    ·have hE:Hid (aX t ps=1):=hbad1.out k hlth.out fun h=>by
      have:=h.1;rw[hid]at this
      cases this
     refine aE w2.heap.size (by kernel_rfl) (by kernel_rfl) ?_;repeat(go_big_quiet_step ((go_at_call 31;exact Calls.in_ws_same (within_at _ _ _ _ hid _))))
     refine wpQuiet_nil ?_;rintro _ ⟨u,rfl⟩;have hu:=hC2.later u.property;generalize u.val=wu at hu⊢;clear u g1 q0 q1 q2 q3 q4 q5 q6 q7 q8;go_wp2;go_ret;exact⟨aP hE.out.symm,hu.below⟩
    ·cases k with
     |zero=>
      have hrise:Hid (0=0\/(poAt ps (0- 1)).id<(poAt ps 0).id):= .inl rfl
      obtain⟨E,hch⟩:∃E,eI (poAt ps 0).a (poAt ps 0).l (poAt ps 0).n (lp (poAt ps 0).ls)=E:=⟨_,rfl⟩
      have hch':Hid (eI (poAt ps 0).a (poAt ps 0).l (poAt ps 0).n (lp (poAt ps 0).ls)=E):=hch
      have hcr:=fun(W:World) (x':Option Addr) (c':Nat) (hp:PS W x' (poAt ps 0).n (lp (poAt ps 0).ls))=>CG (poAt ps 0).a (poAt ps 0).l x' (poAt ps 0).n c' (lp (poAt ps 0).ls) E hch W (fun _=>hp)
      clear hch
      refine pK w2.heap.size 22 24 (by kernel_rfl) (by kernel_rfl) ?_
      simp only[List.take_succ_cons,List.take_zero,List.drop_succ_cons,List.drop_zero]
      repeat(go_big_quiet_step ((go_at_call 31;exact Calls.in_ws_same (within_at _ _ _ _ hid _))))
      refine wpQuiet_nil ?_
      intro uu
      have hB3:=uu.property
      generalize uu.val=w3 at hB3⊢
      clear uu g1 q0 q1 q2 q3 q4 q5 q6 q7 q8
      go_wp2_with fail
      refine(rD (poAt ps 0) w3 (hLS2.later hB3) hlm).mono ?_
      rintro e w4 ⟨x',c',rfl,hB4,hPS⟩
      go_wp2_with fail
      refine(hcr w4 x' c' hPS).mono ?_
      rintro e w5 ⟨rfl,hB5⟩
      have hB25:Below w2.heap.size w2 w5:=(hB3.trans (hB4.mono hB3.size)).trans (hB5.mono (Nat.le_trans hB3.size hB4.size))
      have hC5:=hC2.later hB25
      have hv5:=aA hB25 hv2
      clear hB3 hB4 hB5 hPS hcr hv2 hC2 hLS2
      go_wp2_with fail
      refine rM ?_
      have q2:=Ws.here (aO hv5 2 rfl)
      have q3:=Ws.here (aO hv5 3 rfl)
      have q4:=Ws.here (aO hv5 4 rfl)
      have q5:=Ws.here (aO hv5 5 rfl)
      have q6:=Ws.here (aO hv5 6 rfl)
      have q7:=Ws.here (aO hv5 7 rfl)
      by_cases hE0:E=0
      ·subst hE0
       cases hru:dB (poAt ps 0).mn (poAt ps 0).mx (poAt ps 0).us (poAt ps 0).co (poAt ps 0).l
       ·have hE:Hid (aX t ps=1):=hbad1.out 0 hlth.out fun h=>by
         have:=h.2.2.2;rw[hru]at this
         cases this
        refine iY w5.heap.size 24 (by kernel_rfl) rfl rfl (by kernel_rfl) ?_;simp only[List.drop_succ_cons,List.drop_zero];repeat(go_big_quiet_step ((go_at_call 34;exact Calls.in_ws (zE) (kB _ _ _ _ _ _ _ hru _))))
        refine wpQuiet_nil ?_;rintro _ ⟨u,rfl⟩;have hu:=hC5.later u.property;generalize u.val=wu at hu⊢;clear u q2 q3 q4 q5 q6 q7;go_wp2;go_ret;exact⟨aP hE.out.symm,hu.below⟩
       ·refine iY w5.heap.size 24 (by kernel_rfl) rfl rfl (by kernel_rfl) ?_;simp only[List.drop_succ_cons,List.drop_zero];repeat(go_big_quiet_step ((go_at_call 34;exact Calls.in_ws (zE) (kB _ _ _ _ _ _ _ hru _))))
        refine wpQuiet_nil ?_;rintro _ ⟨u,rfl⟩;have hu:=hC5.later u.property;generalize u.val=wu at hu⊢;clear u q2 q3 q4 q5 q6 q7;go_wp2;go_roundw
        case rel=>exact⟨1,by go_num,hlth.out,hu,fun j hj=>by
          obtain rfl:j=0:=by omega
          exact⟨hid, .inl rfl,hch'.out,hru⟩⟩
        case measure=>simp[intOf];omega
      ·have hE12:E=1\/E=2:=by
        rcases CI (poAt ps 0).a (poAt ps 0).l (poAt ps 0).n (lp (poAt ps 0).ls)with h|h|h
        ·exact absurd (hch'.out.symm.trans h) hE0
        ·exact .inl (hch'.out.symm.trans h)
        ·exact .inr (hch'.out.symm.trans h)
       have hE:Hid (aX t ps=1):=hbad1.out 0 hlth.out fun h=>hE0 (hch'.out.symm.trans h.2.2.1);clear hE0 hch';rcases hE12 with rfl|rfl
       all_goals refine iY w5.heap.size 24 (by kernel_rfl) rfl rfl (by kernel_rfl) ?_
       all_goals simp only[List.drop_succ_cons,List.drop_zero]
       all_goals repeat(go_big_quiet_step (fail))
       all_goals refine wpQuiet_nil ?_
       all_goals rintro _ ⟨u,rfl⟩
       all_goals have hu:=hC5.later u.property
       all_goals generalize u.val=wu at hu⊢
       all_goals clear u q2 q3 q4 q5 q6 q7
       all_goals go_wp2
       all_goals go_ret
       all_goals exact⟨aP hE.out.symm,hu.below⟩
     |succ k'=>
      obtain⟨b2,o2,hbo,c2', -⟩:=hk2.ps.cells k' (by omega)
      simp only[Option.some.injEq,Addr.mk.injEq,and_true]at hbo
      obtain⟨rfl,rfl⟩:=hbo
      have r0:=Ws.here c2'
      clear c2'
      by_cases hle:(poAt ps (k'+1)).id<=(poAt ps k').id
      ·have hE:Hid (aX t ps=1):=hbad1.out (k'+1) hlth.out fun h=>by
        rcases h.2.1 with h|h
        ·omega
        ·rw[Nat.add_sub_cancel]at h;omega
       refine aE w2.heap.size (by kernel_rfl) (by kernel_rfl) ?_;repeat(go_big_quiet_step ((go_at_call 31;exact Calls.in_ws_same (within_at _ _ _ _ hid _))))
       refine wpQuiet_nil ?_;rintro _ ⟨u,rfl⟩;have hu:=hC2.later u.property;generalize u.val=wu at hu⊢;clear u g1 q0 q1 q2 q3 q4 q5 q6 q7 q8 r0;go_wp2;go_ret;exact⟨aP hE.out.symm,hu.below⟩
      have hd:decide ((poAt ps (k'+1)).id<=(poAt ps k').id)=false:=by simpa using hle
      have hrise:Hid (k'+1=0\/(poAt ps (k'+1- 1)).id<(poAt ps (k'+1)).id):= .inr (by rw[Nat.add_sub_cancel];omega)
      obtain⟨E,hch⟩:∃E,eI (poAt ps (k'+1)).a (poAt ps (k'+1)).l (poAt ps (k'+1)).n (lp (poAt ps (k'+1)).ls)=E:=⟨_,rfl⟩
      have hch':Hid (eI (poAt ps (k'+1)).a (poAt ps (k'+1)).l (poAt ps (k'+1)).n (lp (poAt ps (k'+1)).ls)=E):=hch
      have hcr:=fun(W:World) (x':Option Addr) (c':Nat) (hp:PS W x' (poAt ps (k'+1)).n (lp (poAt ps (k'+1)).ls))=>CG (poAt ps (k'+1)).a (poAt ps (k'+1)).l x' (poAt ps (k'+1)).n c' (lp (poAt ps (k'+1)).ls) E hch W (fun _=>hp)
      clear hch
      refine pK w2.heap.size 22 24 (by kernel_rfl) (by kernel_rfl) ?_
      simp only[List.take_succ_cons,List.take_zero,List.drop_succ_cons,List.drop_zero]
      repeat(go_big_quiet_step ((go_at_call 31;exact Calls.in_ws_same (within_at _ _ _ _ hid _))))
      refine wpQuiet_nil ?_
      intro uu
      have hB3:=uu.property
      generalize uu.val=w3 at hB3⊢
      clear uu g1 q0 q1 q2 q3 q4 q5 q6 q7 q8 r0
      go_wp2_with fail
      refine(rD (poAt ps (k'+1)) w3 (hLS2.later hB3) hlm).mono ?_
      rintro e w4 ⟨x',c',rfl,hB4,hPS⟩
      go_wp2_with fail
      refine(hcr w4 x' c' hPS).mono ?_
      rintro e w5 ⟨rfl,hB5⟩
      have hB25:Below w2.heap.size w2 w5:=(hB3.trans (hB4.mono hB3.size)).trans (hB5.mono (Nat.le_trans hB3.size hB4.size))
      have hC5:=hC2.later hB25
      have hv5:=aA hB25 hv2
      clear hB3 hB4 hB5 hPS hcr hv2 hC2 hLS2
      go_wp2_with fail
      refine rM ?_
      have q2:=Ws.here (aO hv5 2 rfl)
      have q3:=Ws.here (aO hv5 3 rfl)
      have q4:=Ws.here (aO hv5 4 rfl)
      have q5:=Ws.here (aO hv5 5 rfl)
      have q6:=Ws.here (aO hv5 6 rfl)
      have q7:=Ws.here (aO hv5 7 rfl)
      by_cases hE0:E=0
      ·subst hE0
       cases hru:dB (poAt ps (k'+1)).mn (poAt ps (k'+1)).mx (poAt ps (k'+1)).us (poAt ps (k'+1)).co (poAt ps (k'+1)).l
       ·have hE:Hid (aX t ps=1):=hbad1.out (k'+1) hlth.out fun h=>by
         have:=h.2.2.2;rw[hru]at this
         cases this
        refine iY w5.heap.size 24 (by kernel_rfl) rfl rfl (by kernel_rfl) ?_;simp only[List.drop_succ_cons,List.drop_zero];repeat(go_big_quiet_step ((go_at_call 34;exact Calls.in_ws (zE) (kB _ _ _ _ _ _ _ hru _))))
        refine wpQuiet_nil ?_;rintro _ ⟨u,rfl⟩;have hu:=hC5.later u.property;generalize u.val=wu at hu⊢;clear u q2 q3 q4 q5 q6 q7;go_wp2;go_ret;exact⟨aP hE.out.symm,hu.below⟩
       ·refine iY w5.heap.size 24 (by kernel_rfl) rfl rfl (by kernel_rfl) ?_;simp only[List.drop_succ_cons,List.drop_zero];repeat(go_big_quiet_step ((go_at_call 34;exact Calls.in_ws (zE) (kB _ _ _ _ _ _ _ hru _))))
        refine wpQuiet_nil ?_;rintro _ ⟨u,rfl⟩;have hu:=hC5.later u.property;generalize u.val=wu at hu⊢;clear u q2 q3 q4 q5 q6 q7;go_wp2;go_roundw
        case rel=>exact⟨k'+1+1,by go_num,hlth.out,hu,fun j hj=>by
          by_cases hj2:j<k'+1
          ·exact hr1'.out j hj2
          ·obtain rfl:j=k'+1:=by omega
           exact⟨hid,hrise.out,hch'.out,hru⟩⟩
        case measure=>simp[intOf];omega
      ·have hE12:E=1\/E=2:=by
        rcases CI (poAt ps (k'+1)).a (poAt ps (k'+1)).l (poAt ps (k'+1)).n (lp (poAt ps (k'+1)).ls)with h|h|h
        ·exact absurd (hch'.out.symm.trans h) hE0
        ·exact .inl (hch'.out.symm.trans h)
        ·exact .inr (hch'.out.symm.trans h)
       have hE:Hid (aX t ps=1):=hbad1.out (k'+1) hlth.out fun h=>hE0 (hch'.out.symm.trans h.2.2.1);clear hE0 hch';rcases hE12 with rfl|rfl
       all_goals refine iY w5.heap.size 24 (by kernel_rfl) rfl rfl (by kernel_rfl) ?_
       all_goals simp only[List.drop_succ_cons,List.drop_zero]
       all_goals repeat(go_big_quiet_step (fail))
       all_goals refine wpQuiet_nil ?_
       all_goals rintro _ ⟨u,rfl⟩
       all_goals have hu:=hC5.later u.property
       all_goals generalize u.val=wu at hu⊢
       all_goals clear u q2 q3 q4 q5 q6 q7
       all_goals go_wp2
       all_goals go_ret
       all_goals exact⟨aP hE.out.symm,hu.below⟩
   ·have hall1:Hid (∀j,j<n->JC ps j):=fun j hj=>hr1'.out j (by omega);have hnk:¬(k:Int)<n:=by omega
    clear hr1' hbad1 hlt;go_wp2;go_loopw [5] (fun i wr=>∃k:Nat,i= .int .i64 k/\k<=n/\CB w wr t x n c/\∀j,j<k->JD t ps j) (fun i _=>n- (intOf i).toNat)
    case atStart=>exact⟨0,rfl,by omega,hC,fun j hj=>by omega⟩
    case round=>
     clear hC hnk b1 hkn
     obtain⟨k,rfl,hkn,hC,hr2⟩:=hrel
     have hr2':Hid (∀j,j<k->JD t ps j):=hr2
     clear hr2
     have b1:=aO hC.hb 1 rfl
     by_cases hlt:k<n
     ·have hkw:=hk.later hC.below;obtain⟨b,o,rfl,c0,c1,c2,c3,c4,c5,c6,c7,c8⟩:=hkw.ps.cells k hlt;obtain⟨hlc,hlm,hLS⟩:=hkw.ps.leases k hlt;have hk0:(0:Int)<=k:=by omega
      have hkn2:(k:Int)<n:=by omega
      have hlth:Hid (k<n):=hlt;clear hlt;go_upto_region 15 with fail
      obtain⟨w2,hw2⟩:∃w2,w2=wr.alloc (oL (poAt ps k)):=⟨_,rfl⟩;rw[show wr.alloc (.cells #[.int .i64 (poAt ps k).id, .int .i64 (poAt ps k).up, .int .i64 (poAt ps k).a, .int .i64 (poAt ps k).l, .int .i64 (poAt ps k).mn, .int .i64 (poAt ps k).mx, .int .i64 (poAt ps k).us, .int .i64 (poAt ps k).co, .slice (poAt ps k).x (poAt ps k).n (poAt ps k).c] 64)=w2 from hw2.symm];have hB2:Below wr.heap.size wr w2:=by rw[hw2];exact bl1 _ _
      have hv2:w2.heap[wr.heap.size]?=some (oL (poAt ps k)):=by rw[hw2];exact aB _ rfl
      have hC2:=hC.later hB2;have hLS2:=hLS.later hB2;have hk2:=hkw.later hB2;clear hw2 hB2 b1 c0 c1 c2 c3 c4 c5 c6 c7 c8 hLS hkw hC;generalize wr.heap.size=pb at hv2⊢;obtain⟨b0,b1⟩:=aZ hC2.hb rfl rfl;obtain⟨q0,q1,q2,q3,q4,q5,q6,q7,q8⟩:=bx9 hv2 rfl rfl rfl rfl rfl rfl rfl rfl rfl
      cases hup:lY ps (n+1) (poAt ps k)
      ·have hE:Hid (aX t ps=1):=hbad2.out k hlth.out fun h=>by
        have:=h.1;rw[hpl.out,hup]at this
        cases this
       go_wp2_with fail;refine(CH t (some ⟨b,o,none⟩) n c ps (poAt ps k) false hup w2 hk2.ps (by omega)).mono ?_;rintro e w3 ⟨rfl,hB3⟩;go_wp2;go_ret;exact⟨aP hE.out.symm,(hC2.later hB3).below⟩
      go_wp2_with fail;refine(CH t (some ⟨b,o,none⟩) n c ps (poAt ps k) true hup w2 hk2.ps (by omega)).mono ?_;rintro e w3 ⟨rfl,hB3⟩;have hup':Hid (lY ps (n+1) (poAt ps k)=true):=hup;have hC3:=hC2.later hB3;have hv3:=aA hB3 hv2;have hLS3:=hLS2.later hB3;have hk3:=hk2.later hB3;clear hup hB3 b0 b1 q0 q1 q2 q3 q4 q5 q6 q7 q8 hC2 hv2 hLS2 hk2;go_wp2;go_loopw [7] (fun i wr=>∃j:Nat,i= .int .i64 j/\j<=(poAt ps k).n/\Below w3.heap.size w3 wr/\∀q,q<j->lO t ps (poAt ps k).id (leAt (poAt ps k).ls q)=true) (fun i _=>(poAt ps k).n- (intOf i).toNat)
      case atStart=>exact⟨0,rfl,by omega,zD,fun j hj=>by omega⟩
      case round=>
       obtain⟨j,rfl,hjn,hB4,hle⟩:=hrel
       have hle':Hid (∀q,q<j->lO t ps (poAt ps k).id (leAt (poAt ps k).ls q)=true):=hle
       clear hle
       have hC4:=hC3.later hB4
       have hv4:=aA hB4 hv3
       have hk4:=hk3.later hB4
       have q8:=aO hv4 8 rfl
       by_cases hltj:j<(poAt ps k).n
       ·obtain⟨b2,o2,hx2,e0,e1,e2,e3,e4⟩:=(hLS3.later hB4).cells j hltj;have hjn2:(j:Int)<(poAt ps k).n:=by omega
        have hj0:(0:Int)<=j:=by omega
        have hltjh:Hid (j<(poAt ps k).n):=hltj;clear hltj;go_upto_region 20 with fail
        have hlf:=fun(T:Bool) (h:lO t ps (poAt ps k).id (leAt (poAt ps k).ls j)=T) (W:World) (hW:Bk W (some ⟨b,o,none⟩) n c ps)=>DY t (poAt ps k) (some ⟨b,o,none⟩) n c ps (leAt (poAt ps k).ls j) T h W hW.ps (by omega) ht.1 ht.2;rw[show IZ (poAt ps k)= .agg #[.int .i64 (poAt ps k).id, .int .i64 (poAt ps k).up, .int .i64 (poAt ps k).a, .int .i64 (poAt ps k).l, .int .i64 (poAt ps k).mn, .int .i64 (poAt ps k).mx, .int .i64 (poAt ps k).us, .int .i64 (poAt ps k).co, .slice (poAt ps k).x (poAt ps k).n (poAt ps k).c]from rfl]at hlf;have q8':=q8;rw[hx2]at q8' hlf;have g0:=Ws.here (aO hC4.hb 0 rfl);have g1:=Ws.here (aO hC4.hb 1 rfl);have k0:=Ws.here (aO hv4 0 rfl);have k1:=Ws.here (aO hv4 1 rfl);have k2:=Ws.here (aO hv4 2 rfl);have k3:=Ws.here (aO hv4 3 rfl);have k4:=Ws.here (aO hv4 4 rfl);have k5:=Ws.here (aO hv4 5 rfl);have k6:=Ws.here (aO hv4 6 rfl);have k7:=Ws.here (aO hv4 7 rfl);have k8:=Ws.here q8';have l0:=Ws.here e0;have l1:=Ws.here e1;have l2:=Ws.here e2;have l3:=Ws.here e3;have l4:=Ws.here e4;clear q8 q8' e0 e1 e2 e3 e4
        cases hlb:lO t ps (poAt ps k).id (leAt (poAt ps k).ls j);all_goals refine aE wr.heap.size (by kernel_rfl) (by kernel_rfl) ?_
        all_goals repeat(go_big_quiet_step ((go_at_call 36;exact Calls.in_ws (zE) (hlf _ hlb _ (hk4.later (Ws.property _))))))
        all_goals refine wpQuiet_nil ?_
        all_goals rintro _ ⟨u,rfl⟩
        all_goals have hu:=u.property
        all_goals generalize u.val=wu at hu⊢
        all_goals clear u g0 g1 k0 k1 k2 k3 k4 k5 k6 k7 k8 l0 l1 l2 l3 l4 hlf
        all_goals go_wp2
        ·have hE:aX t ps=1:=hbad2.out k hlth.out fun h=>by
          have:=h.2.1 j hltjh.out;rw[hlb]at this
          cases this
         go_ret;exact⟨aP hE.symm,(hC4.later hu).below⟩
        ·go_roundw
         case rel=>exact⟨j+1,by go_num,hltjh.out,hB4.trans (hu.mono hB4.size),fun q hq=>by
          by_cases hq2:q<j
          ·exact hle'.out q hq2
          ·obtain rfl:q=j:=by omega
           exact hlb⟩
         case measure=>have:=hltjh.out;simp[intOf];omega
       ·have hall:Hid (∀q,q<(poAt ps k).n->lO t ps (poAt ps k).id (leAt (poAt ps k).ls q)=true):=fun q hq=>hle'.out q (by omega);have hnj:¬(j:Int)<(poAt ps k).n:=by omega
        clear hle' hltj hC3 hv3 hk3 hLS3;go_wp2;go_loopw [8] (fun i wr2=>∃m:Nat,i= .int .i64 m/\m<=k/\Below wr.heap.size wr wr2/\∀q,q<m->((poAt ps k).up=0/\(poAt ps q).up=0)->eD (poAt ps k).a (poAt ps k).l (poAt ps q).a (poAt ps q).l=false) (fun i _=>k- (intOf i).toNat)
        case atStart=>exact⟨0,rfl,by omega,zD,fun j hj=>by omega⟩
        case round=>
         clear q8 hnj hjn
         obtain⟨m,rfl,hmk,hB5,hmt⟩:=hrel
         have hmt':Hid (∀q,q<m->((poAt ps k).up=0/\(poAt ps q).up=0)->eD (poAt ps k).a (poAt ps k).l (poAt ps q).a (poAt ps q).l=false):=hmt
         clear hmt
         have hC5:=hC4.later hB5
         have hv5:=aA hB5 hv4
         have hk5:=hk4.later hB5
         by_cases hltm:m<k
         ·obtain⟨b2,o2,hbo,d0,d1,d2,d3, -⟩:=hk5.ps.cells m (by have:=hlth.out;omega);simp only[Option.some.injEq,Addr.mk.injEq,and_true]at hbo;obtain⟨rfl,rfl⟩:=hbo;have hmn2:(m:Int)<n:=by have:=hlth.out;omega
          have hmk2:(m:Int)<k:=by omega
          have hm0:(0:Int)<=m:=by omega
          have hltmh:Hid (m<k):=hltm;clear hltm d0;go_upto_region 25 with fail
          have g1:=Ws.here (aO hC5.hb 1 rfl);have k1:=Ws.here (aO hv5 1 rfl);have k2:=Ws.here (aO hv5 2 rfl);have k3:=Ws.here (aO hv5 3 rfl);have l1:=Ws.here d1;have l2:=Ws.here d2;have l3:=Ws.here d3;clear d1 d2 d3
          cases hu1:decide ((poAt ps k).up=0)
          ·have hz:¬(poAt ps k).up=0:=by simpa using hu1
           have hzb:((poAt ps k).up==0)=false:=by simpa using hu1
           refine aE wr.heap.size (by kernel_rfl) (by kernel_rfl) ?_;repeat(go_big_quiet_step (fail))
           refine wpQuiet_nil ?_;rintro _ ⟨u,rfl⟩;have hu:=u.property;generalize u.val=wu at hu⊢;clear u g1 k1 k2 k3 l1 l2 l3;go_wp2;go_roundw
           case rel=>exact⟨m+1,by go_num,hltmh.out,hB5.trans (hu.mono hB5.size),fun q hq hqu=>absurd hqu.1 hz⟩
           case measure=>have:=hltmh.out;simp[intOf];omega
          ·have hz:(poAt ps k).up=0:=by simpa using hu1
           have hzb:((poAt ps k).up==0)=true:=by simpa using hu1
           have hz':Hid ((poAt ps k).up=0):=hz;clear hz
           cases hu2:decide ((poAt ps m).up=0)
           ·have hy:¬(poAt ps m).up=0:=by simpa using hu2
            have hyb:((poAt ps m).up==0)=false:=by simpa using hu2
            refine aE wr.heap.size (by kernel_rfl) (by kernel_rfl) ?_;repeat(go_big_quiet_step (fail))
            refine wpQuiet_nil ?_;rintro _ ⟨u,rfl⟩;have hu:=u.property;generalize u.val=wu at hu⊢;clear u g1 k1 k2 k3 l1 l2 l3;go_wp2;go_roundw
            case rel=>exact⟨m+1,by go_num,hltmh.out,hB5.trans (hu.mono hB5.size),fun q hq hqu=>by
             by_cases hq2:q<m
             ·exact hmt'.out q hq2 hqu
             ·obtain rfl:q=m:=by omega
              exact absurd hqu.2 hy⟩
            case measure=>have:=hltmh.out;simp[intOf];omega
           ·have hy':Hid ((poAt ps m).up=0):=by unfold Hid;simpa using hu2
            have hyb:((poAt ps m).up==0)=true:=by simpa using hu2
            cases hM:eD (poAt ps k).a (poAt ps k).l (poAt ps m).a (poAt ps m).l;all_goals refine aE wr.heap.size (by kernel_rfl) (by kernel_rfl) ?_
            all_goals repeat(go_big_quiet_step ((go_at_call 37;exact Calls.in_ws (zE) (K0 _ _ _ _ _ hM _))))
            all_goals refine wpQuiet_nil ?_
            all_goals rintro _ ⟨u,rfl⟩
            all_goals have hu:=u.property
            all_goals generalize u.val=wu at hu⊢
            all_goals clear u g1 k1 k2 k3 l1 l2 l3
            all_goals go_wp2
            ·go_roundw
             case rel=>exact⟨m+1,by go_num,hltmh.out,hB5.trans (hu.mono hB5.size),fun q hq hqu=>by
              by_cases hq2:q<m
              ·exact hmt'.out q hq2 hqu
              ·obtain rfl:q=m:=by omega
               exact hM⟩
             case measure=>have:=hltmh.out;simp[intOf];omega
            ·have hE:aX t ps=1:=hbad2.out k hlth.out fun h=>by
              have:=h.2.2 m hltmh.out ⟨hz'.out,hy'.out⟩;rw[hM]at this
              cases this
             go_ret;exact⟨aP hE.symm,(hC5.later hu).below⟩
         ·have hnm:¬(m:Int)<k:=by omega
          have hfin:JD t ps k:=⟨by rw[hpl.out];exact hup'.out,hall.out,fun q hq=>hmt'.out q (by omega)⟩;go_wp2;go_roundw
          case rel=>exact⟨k+1,by go_num,hlth.out,hC5,fun q hq=>by
           by_cases hq2:q<k
           ·exact hr2'.out q hq2
           ·obtain rfl:q=k:=by omega
            exact hfin⟩
          case measure=>have:=hlth.out;simp[intOf];omega
     ·have hnk:¬(k:Int)<n:=by omega
      have hE:Hid (aX t ps=0):=hgood.out hall1.out (fun j hj=>hr2'.out j (by omega));go_wp2;go_ret;exact⟨aP hE.out.symm,hC.below⟩
def LeR(t:Int)(ps:List Po)(id:Int)(e:Le):Prop:=
 (e.kd=1/\bV e.ow 1 65536=true/\e.un=0)\/(e.kd=2/\e.un=0/\∃q∈ps,q.id=e.ow/\q.up=id/\q.a=e.a/\q.l=e.l)\/(e.kd=3/\e.ow=0/\t<e.un/\e.un<=t+1024)
structure RB(t:Int)(ps:List Po):Prop where
 few:ps.length<=8
 t0:0<=t
 t1:t<=1073741824
 idw:∀p∈ps,bV p.id 1 65536=true
 rise:ps.Pairwise fun p q=>p.id<q.id
 tops:ps.Pairwise fun p q=>p.up=0->q.up=0->eD p.a p.l q.a q.l=false
 n32:∀p∈ps,p.ls.length<=32
 root:∀p∈ps,rt p.a p.l=true
 used:∀p∈ps,MJ (lp p.ls) p.a p.l
 rule:∀p∈ps,dB p.mn p.mx p.us p.co p.l=true
 ups:∀p∈ps,∃f,lY ps f p=true
 les:∀p∈ps,∀e∈p.ls,LeR t ps p.id e
theorem cZ(h:i<ps.length):poAt ps i∈ps:=by rw[bJ h];exact List.getElem_mem h
theorem rN(h:p∈ps):∃i,i<ps.length/\poAt ps i=p:=by
 obtain⟨i,hi,rfl⟩:=List.mem_iff_getElem.1 h;exact⟨i,hi,bJ hi⟩
theorem ZF(h:ps.Pairwise fun p q=>p.id<q.id){q:Po}(hq:q∈ps):∃i:Nat,i<ps.length/\aS ps q.id=i/\poAt ps i=q:=by
 obtain⟨i,hi,e⟩:=rN hq;refine⟨i,hi,kT hi (by rw[e]) (fun j hj e2=>?_),e⟩;rw[List.pairwise_iff_getElem]at h;have:=h j i (by omega) hi hj;rw[<-bJ (show j<ps.length by omega),<-bJ hi,e,e2]at this;omega
theorem kH.mem(h:kH ps){p:Po}(hp:p∈ps):p.ls.length=p.n:=by
 obtain⟨i,hi,rfl⟩:=rN hp;exact h i hi
theorem RF:kV ps.length ps=true↔(ps.Pairwise fun p q=>p.id<q.id)/\∀p∈ps,bV p.id 1 65536=true:=by
 constructor
 ·intro h;refine⟨?_,fun p hp=>?_⟩
  ·rw[List.pairwise_iff_getElem];intro i j hi hj hij;have:=Q9 h i (j- i- 1) (by omega);rw[show i+(j- i- 1)+1=j by omega,bJ hi,bJ hj]at this;exact this
  ·obtain⟨i,hi,rfl⟩:=rN hp;unfold kV at h;rw[zH]at h
   cases e:bV (poAt ps i).id 1 65536
   ·rw[aW (f:=fun i=>!bV (poAt ps i).id 1 65536) hi (by simp[e])]at h;exact absurd h.2 (by decide)
   ·rfl
 ·rintro⟨h1,h2⟩;unfold kV iG;rw[zH,List.all_eq_true];refine⟨fun i hi=>?_,?_⟩
  ·have hi':i<ps.length:=by simpa using hi
   unfold jE
   cases i with
   |zero=>rfl
   |succ i=>
    rw[List.pairwise_iff_getElem]at h1
    have:=h1 i (i+1) (by omega) hi' (by omega)
    rw[<-bJ (show i<ps.length by omega),<-bJ hi']at this
    simpa using this
  ·rw[dD (fun i hi=>by rw[h2 _ (cZ hi)];rfl)];rfl
theorem M8:fX ps=true↔ps.Pairwise fun p q=>p.up=0->q.up=0->eD p.a p.l q.a q.l=false:=by
 unfold fX;rw[List.all_eq_true,List.pairwise_iff_getElem];constructor
 ·intro h i j hi hj hij u1 u2;have h1:=rL.1 (h j (by simpa using hj)) i hij;rw[bJ hi,bJ hj]at h1;rw[nB];exact h1 ⟨u2,u1⟩
 ·intro h j hj;have hj':j<ps.length:=by simpa using hj
  refine rL.2 (fun i hij ⟨u2,u1⟩=>?_);have h1:=h i j (by omega) hj' hij;rw[<-bJ (show i<ps.length by omega),<-bJ hj']at h1;rw[nB];exact h1 u1 u2
theorem VI(h:ps.Pairwise fun p q=>p.id<q.id){id:Int}{e:Le}:lO t ps id e=true↔LeR t ps id e:=by
 unfold lO LeR;by_cases c1:e.kd=1
 ·rw[if_pos c1];simp[c1]
 ·rw[if_neg c1];by_cases c2:e.kd=2
  ·rw[if_pos c2];constructor
   ·intro g;by_cases c3:aS ps e.ow<0
    ·rw[if_pos c3]at g;cases g
    ·rw[if_neg c3]at g;obtain⟨i,hi,hat,he⟩:=bW c3;rw[hat,Int.toNat_natCast]at g;unfold U6 at g;simp only[zH,decide_eq_true_eq,beq_iff_eq]at g;exact .inr (.inl ⟨c2,g.2,_,cZ hi,he,g.1.1,g.1.2.1,g.1.2.2⟩)
   ·rintro(g|⟨-,g,q,hq,k1,k2,k3,k4⟩|g)
    ·exact absurd g.1 c1
    ·obtain⟨i,hi,hat,rfl⟩:=ZF h hq;rw[k1]at hat;rw[if_neg (by omega),hat,Int.toNat_natCast];unfold U6;simp[k2,k3,k4,g]
    ·omega
  ·rw[if_neg c2];by_cases c3:e.kd=3
   ·rw[if_pos c3];simp[c3]
   ·rw[if_neg c3];simp[c1,c2,c3]
theorem vC(hF:kH ps)(h:aX t ps=0):RB t ps:=by
 obtain⟨h8,⟨ht0,ht1⟩,hi,ht,hpo⟩:=qD h;obtain⟨hr,hw⟩:=RF.1 hi;have hat:∀p∈ps,jX t ps ps.length p=true:=fun p hp=>by
  obtain⟨i,hi,rfl⟩:=rN hp;exact hpo i hi
 refine⟨h8,ht0,ht1,hw,hr,M8.1 ht,fun p hp=>?_,fun p hp=>?_,fun p hp=>?_,fun p hp=>(fG (hat p hp)).2.1,fun p hp=>⟨_,(fG (hat p hp)).2.2.1⟩,fun p hp e he=>?_⟩
 ·rw[hF.mem hp];exact(iB (fG (hat p hp)).1).1
 ·exact(iB (fG (hat p hp)).1).2.1
 ·exact KX (iB (fG (hat p hp)).1).2.2
 ·exact(VI hr).1 ((wU (hF.mem hp)).1 (fG (hat p hp)).2.2.2 e he)
theorem RG(hF:kH ps)(h:eC ps qs)(hc:aX t ps=0):aX t qs=0/\kH qs:=by
 have hH:qE ps qs:=⟨h.1,fun i hi=>(h.2 i hi).head⟩;have hls:∀k,k<ps.length->(poAt qs k).ls=(poAt ps k).ls/\(poAt qs k).n=(poAt ps k).n:=fun k hk=>⟨(h.2 k hk).2.2.2.2.2.2.2.2.2.symm,(h.2 k hk).2.2.2.2.2.2.2.2.1.symm⟩;have hFq:kH qs:=fun k hk=>by
  have hk2:k<ps.length:=by rw[h.1];exact hk
  rw[(hls k hk2).1,(hls k hk2).2];exact hF k hk2
 obtain⟨-,⟨ht0,ht1⟩, -, -,hpo⟩:=qD hc;refine⟨M5 hc ht0 ht1 hH hF hFq (fun k hk=>?_) (fun k hk=>?_) (fun k hk e he h2=>?_) (fun k hk e he=>?_),hFq⟩
 ·rw[(hls k hk).2];exact(F7 hc k hk).1
 ·rw[(hls k hk).1];exact Q7 hc k hk
 ·rw[(hls k hk).1];exact he
 ·rw[(hls k hk).1]at he;exact(wU (hF k hk)).1 (fG (hpo k hk)).2.2.2 e he
open Go.RowKit
def xX(g:Nat)(cap:Array Value)(n:Nat)(ps:List Sb)(f:Nat->Bool)(w:World):Prop:=
 ∀i,i<n->∀W,Below w.heap.size w W->Calls Tryz.prog g (#[.agg #[.int .i64 (aG ps i).id, .int .i64 (aG ps i).a, .int .i64 (aG ps i).l, .slice (aG ps i).x (aG ps i).n (aG ps i).c]]++cap) W fun e W'=>e= .returned (.bool (f i))/\Below W.heap.size W W'
theorem mS(g:Nat)(cap:Array Value)(x:Option Addr)(n c:Nat)(ps:List Sb)(f:Nat->Bool)(w:World)(hp:SS w x n ps)(hn:n<=1048576)(hF:xX g cap n ps f w)
 (hg:∀args W,(callFunc g args).run Tryz.prog W= .ok (.enter g args) W):
  Calls Tryz.prog 212 #[.slice x n c, .func (.func g) #[] cap] w fun e w'=>(∃r:Int,e= .returned (.int .i64 r)/\((∃i:Nat,i<n/\f i=true/\(∀j,j<i->f j=false)/\r=i)\/((∀j,j<n->f j=false)/\r= -1)))/\Below w.heap.size w w':=(qA.2.2.2.1 g cap x n c _ f w hp.idx (by omega) hF hg).1
theorem eU(g:Nat)(cap:Array Value)(x:Option Addr)(n c:Nat)(ps:List Sb)(f:Nat->Bool)(w:World)(hp:SS w x n ps)(hn:n<=1048576)(hF:xX g cap n ps f w)
 (hg:∀args W,(callFunc g args).run Tryz.prog W= .ok (.enter g args) W):
  Calls Tryz.prog 161 #[.slice x n c, .func (.func g) #[] cap] w fun e w'=>e= .returned (.bool (anyAt n f))/\Below w.heap.size w w':=(qA.2.2.2.1 g cap x n c _ f w hp.idx (by omega) hF hg).2
def JE(g:Nat)(cap:Array Value)(n:Nat)(ps:List Fc)(f:Nat->Bool)(w:World):Prop:=
 ∀i,i<n->∀W,Below w.heap.size w W->Calls Tryz.prog g (#[.agg #[.int .i64 (fcAt ps i).id, .slice (fcAt ps i).x (fcAt ps i).n (fcAt ps i).c]]++cap) W fun e W'=>e= .returned (.bool (f i))/\Below W.heap.size W W'
theorem mT(g:Nat)(cap:Array Value)(x:Option Addr)(n c:Nat)(ps:List Fc)(f:Nat->Bool)(w:World)(hp:oW w x n ps)(hn:n<=1048576)(hF:JE g cap n ps f w)
 (hg:∀args W,(callFunc g args).run Tryz.prog W= .ok (.enter g args) W):
  Calls Tryz.prog 257 #[.slice x n c, .func (.func g) #[] cap] w fun e w'=>(∃r:Int,e= .returned (.int .i64 r)/\((∃i:Nat,i<n/\f i=true/\(∀j,j<i->f j=false)/\r=i)\/((∀j,j<n->f j=false)/\r= -1)))/\Below w.heap.size w w':=(qA.2.2.2.2.1 g cap x n c _ f w hp.idx (by omega) hF hg).1
theorem qF(g:Nat)(cap:Array Value)(x:Option Addr)(n c:Nat)(ps:List Fc)(f:Nat->Bool)(w:World)(hp:oW w x n ps)(hn:n<=1048576)(hF:JE g cap n ps f w)
 (hg:∀args W,(callFunc g args).run Tryz.prog W= .ok (.enter g args) W):
  Calls Tryz.prog 213 #[.slice x n c, .func (.func g) #[] cap] w fun e w'=>e= .returned (.bool (anyAt n f))/\Below w.heap.size w w':=(qA.2.2.2.2.1 g cap x n c _ f w hp.idx (by omega) hF hg).2
def xY(g:Nat)(cap:Array Value)(n:Nat)(ps:List Rg)(f:Nat->Bool)(w:World):Prop:=
 ∀i,i<n->∀W,Below w.heap.size w W->Calls Tryz.prog g (#[.agg #[.int .i64 (rgAt ps i).a, .int .i64 (rgAt ps i).l, .int .i64 (rgAt ps i).p]]++cap) W fun e W'=>e= .returned (.bool (f i))/\Below W.heap.size W W'
theorem wD(g:Nat)(cap:Array Value)(x:Option Addr)(n c:Nat)(ps:List Rg)(f:Nat->Bool)(w:World)(hp:RS w x n ps)(hn:n<=1048576)(hF:xY g cap n ps f w)
 (hg:∀args W,(callFunc g args).run Tryz.prog W= .ok (.enter g args) W):
  Calls Tryz.prog 172 #[.slice x n c, .func (.func g) #[] cap] w fun e w'=>(∃r:Int,e= .returned (.int .i64 r)/\((∃i:Nat,i<n/\f i=true/\(∀j,j<i->f j=false)/\r=i)\/((∀j,j<n->f j=false)/\r= -1)))/\Below w.heap.size w w':=(qA.2.2.1 g cap x n c _ f w hp.idx (by omega) hF hg).1
theorem dI(g:Nat)(cap:Array Value)(x:Option Addr)(n c:Nat)(ps:List Rg)(f:Nat->Bool)(w:World)(hp:RS w x n ps)(hn:n<=1048576)(hF:xY g cap n ps f w)
 (hg:∀args W,(callFunc g args).run Tryz.prog W= .ok (.enter g args) W):
  Calls Tryz.prog 131 #[.slice x n c, .func (.func g) #[] cap] w fun e w'=>e= .returned (.bool (anyAt n f))/\Below w.heap.size w w':=(qA.2.2.1 g cap x n c _ f w hp.idx (by omega) hF hg).2
def RH(g:Nat)(cap:Array Value)(n:Nat)(ps:List Int)(f:Nat->Bool)(w:World):Prop:=
 ∀i,i<n->∀W,Below w.heap.size w W->Calls Tryz.prog g (#[.int .i64 (aU ps i)]++cap) W fun e W'=>e= .returned (.bool (f i))/\Below W.heap.size W W'
theorem qG(g:Nat)(cap:Array Value)(x:Option Addr)(n c:Nat)(ps:List Int)(f:Nat->Bool)(w:World)(hp:IS w x n ps)(hn:n<=1048576)(hF:RH g cap n ps f w)
 (hg:∀args W,(callFunc g args).run Tryz.prog W= .ok (.enter g args) W):
  Calls Tryz.prog 259 #[.slice x n c, .func (.func g) #[] cap] w fun e w'=>e= .returned (.bool (anyAt n f))/\Below w.heap.size w w':=(qA.2.2.2.2.2.1 g cap x n c _ f w hp.idx (by omega) hF hg).2
def cR(e:Rg):List Value:=[.int .i64 e.a, .int .i64 e.l, .int .i64 e.p]
def flatR(es:List Rg):List Value:=es.flatMap cR
theorem JF(e:Rg):(cR e).length=3:=rfl
theorem tJ:∀es:List Rg,(flatR es).length=es.length*3:=lS JF
theorem CJ(es fs:List Rg):flatR (es++fs)=flatR es++flatR fs:=by simp[flatR]
theorem RI:∀(es:List Rg) (i j:Nat),i<es.length->j<3->(flatR es)[i*3+j]?=(cR (rgAt es i))[j]?:=qZ JF QD
theorem oN(es:List Rg):∀u∈flatR es,u.oneCell'=true:=fun u hu=>by
 obtain⟨e, -,hu⟩:=List.mem_flatMap.1 hu;simp only[cR,List.mem_cons,List.not_mem_nil,or_false]at hu;rcases hu with rfl|rfl|rfl<;>rfl
def bT(w:World)(base:Nat)(v:Value)(es:List Rg):Prop:=w.ownsRow base 59 3 v es.length (flatR es)
theorem bT.later(h:bT w base v es)(hb:Below w.heap.size w w'):bT w' base v es:=cW h hb
theorem bT.kept(h:bT w base v es)(hg:w.grownBy w' (some g))(hne:∀k,v.ownBlock=some k->k≠g):bT w' base v es:=fD h hg hne
theorem bT.low(h:bT w base v es)(hb:base'<=base):bT w base' v es:=iE h hb
theorem bT.lt(h:bT w base v es):∀k,v.ownBlock=some k->base<=k/\k<w.heap.size:=World.ownsRow.lt h
theorem bT.ne{t:TypeId}(h:bT w base v es)(hb:w.heap[b]?=some (.cells cs t fr))(ht:t≠59):v.ownBlock≠some b:=jC h hb ht
theorem ZG:Ty 59 48 3 (.agg #[.int .i64 0, .int .i64 0, .int .i64 0]) 24:=qY (by kernel_rfl) (by kernel_rfl) rfl (oN [QD]) (by decide) (by decide)
theorem RS.flat_cells(h:RS w (some ad) n es):∀j u,(flatR es)[j]?=some u->w.cell? (ad.add j)=some u:=
 jB (by decide) JF QD h.len fun i hi=>by
  obtain⟨b,o,hx,d0,d1,d2⟩:=h.cells i hi;exact⟨b,o,hx,by rintro(_|_|_|q) u hu<;>first|(cases hu;assumption)|simp[cR]at hu⟩
theorem RS.rw(h:RS w x n es):Rw w x n 3 (flatR es):=
 ⟨by rw[tJ,h.len],fun h0 e=>(by obtain⟨b,o,hx, -⟩:=h.cells 0 h0;rw[e]at hx;cases hx),oN es,fun ad hx=>by subst hx;exact h.flat_cells⟩
theorem bT.mem(h:bT w base v es):∃x c,v= .slice x es.length c/\es.length<=c/\c<=9223372036854775807/\(x=none->es.length=0/\c=0)/\∀i,i<es.length->∃b o,x=some ⟨b,o,none⟩/\w.cell? ⟨b,o+i*3,none⟩=some (.int .i64 (rgAt es i).a)/\w.cell? ⟨b,o+i*3+1,none⟩=some (.int .i64 (rgAt es i).l)/\w.cell? ⟨b,o+i*3+2,none⟩=some (.int .i64 (rgAt es i).p):=by
 obtain⟨x,c,hv,h1,h2,h3,h4⟩:=jU h;refine⟨x,c,hv,h1,h2,h3,fun i hi=>?_⟩;obtain⟨b,o,hx,e⟩:=h4 i hi;have e:=fun j u hj hu=>e j u hj ((RI es i j hi hj).trans hu);exact⟨b,o,hx,e 0 _ (by decide) rfl,e 1 _ (by decide) rfl,e 2 _ (by decide) rfl⟩
def cS(e:Sb):List Value:=[.int .i64 e.id, .int .i64 e.a, .int .i64 e.l, .slice e.x e.n e.c]
def flatS(es:List Sb):List Value:=es.flatMap cS
theorem JG(e:Sb):(cS e).length=4:=rfl
theorem iQ:∀es:List Sb,(flatS es).length=es.length*4:=lS JG
theorem M9(es fs:List Sb):flatS (es++fs)=flatS es++flatS fs:=by simp[flatS]
theorem rO:∀(es:List Sb) (i j:Nat),i<es.length->j<4->(flatS es)[i*4+j]?=(cS (aG es i))[j]?:=qZ JG U2
theorem tK(es:List Sb):∀u∈flatS es,u.oneCell'=true:=fun u hu=>by
 obtain⟨e, -,hu⟩:=List.mem_flatMap.1 hu;simp only[cS,List.mem_cons,List.not_mem_nil,or_false]at hu;rcases hu with rfl|rfl|rfl|rfl<;>rfl
def dC(w:World)(base:Nat)(v:Value)(es:List Sb):Prop:=w.ownsRow base 72 4 v es.length (flatS es)
theorem dC.later{es:List Sb}(h:dC w base v es)(hb:Below w.heap.size w w'):dC w' base v es:=cW h hb
theorem dC.kept{es:List Sb}(h:dC w base v es)(hg:w.grownBy w' (some g))(hne:∀k,v.ownBlock=some k->k≠g):dC w' base v es:=fD h hg hne
theorem dC.low{es:List Sb}(h:dC w base v es)(hb:base'<=base):dC w base' v es:=iE h hb
theorem dC.lt{es:List Sb}(h:dC w base v es):∀k,v.ownBlock=some k->base<=k/\k<w.heap.size:=World.ownsRow.lt h
theorem dC.ne{es:List Sb}{t:TypeId}(h:dC w base v es)(hb:w.heap[b]?=some (.cells cs t fr))(ht:t≠72):v.ownBlock≠some b:=jC h hb ht
theorem aCg:Ty 72 49 4 (.agg #[.int .i64 0, .int .i64 0, .int .i64 0, .slice none 0 0]) 48:=qY (by kernel_rfl) (by kernel_rfl) rfl (tK [U2]) (by decide) (by decide)
theorem SS.flat_cells{es:List Sb}(h:SS w (some ad) n es):∀j u,(flatS es)[j]?=some u->w.cell? (ad.add j)=some u:=
 jB (by decide) JG U2 h.len fun i hi=>by
  obtain⟨b,o,hx,d0,d1,d2,d3⟩:=h.cells i hi;exact⟨b,o,hx,by rintro(_|_|_|_|q) u hu<;>first|(cases hu;assumption)|simp[cS]at hu⟩
theorem SS.rw{es:List Sb}(h:SS w x n es):Rw w x n 4 (flatS es):=
 ⟨by rw[iQ,h.len],fun h0 e=>(by obtain⟨b,o,hx, -⟩:=h.cells 0 h0;rw[e]at hx;cases hx),tK es,fun ad hx=>by subst hx;exact h.flat_cells⟩
theorem dC.mem{es:List Sb}(h:dC w base v es):∃x c,v= .slice x es.length c/\es.length<=c/\c<=9223372036854775807/\(x=none->es.length=0/\c=0)/\∀i,i<es.length->∃b o,x=some ⟨b,o,none⟩/\w.cell? ⟨b,o+i*4,none⟩=some (.int .i64 (aG es i).id)/\w.cell? ⟨b,o+i*4+1,none⟩=some (.int .i64 (aG es i).a)/\w.cell? ⟨b,o+i*4+2,none⟩=some (.int .i64 (aG es i).l)/\w.cell? ⟨b,o+i*4+3,none⟩=some (.slice (aG es i).x (aG es i).n (aG es i).c):=by
 obtain⟨x,c,hv,h1,h2,h3,h4⟩:=jU h;refine⟨x,c,hv,h1,h2,h3,fun i hi=>?_⟩;obtain⟨b,o,hx,e⟩:=h4 i hi;have e:=fun j u hj hu=>e j u hj ((rO es i j hi hj).trans hu);exact⟨b,o,hx,e 0 _ (by decide) rfl,e 1 _ (by decide) rfl,e 2 _ (by decide) rfl,e 3 _ (by decide) rfl⟩
def cF(e:Fc):List Value:=[.int .i64 e.id, .slice e.x e.n e.c]
def flatF(es:List Fc):List Value:=es.flatMap cF
theorem JH(e:Fc):(cF e).length=2:=rfl
theorem iR:∀es:List Fc,(flatF es).length=es.length*2:=lS JH
theorem NA(es fs:List Fc):flatF (es++fs)=flatF es++flatF fs:=by simp[flatF]
theorem rP:∀(es:List Fc) (i j:Nat),i<es.length->j<2->(flatF es)[i*2+j]?=(cF (fcAt es i))[j]?:=qZ JH U1
theorem tL(es:List Fc):∀u∈flatF es,u.oneCell'=true:=fun u hu=>by
 obtain⟨e, -,hu⟩:=List.mem_flatMap.1 hu;simp only[cF,List.mem_cons,List.not_mem_nil,or_false]at hu;rcases hu with rfl|rfl<;>rfl
def fU(w:World)(base:Nat)(v:Value)(es:List Fc):Prop:=w.ownsRow base 75 2 v es.length (flatF es)
theorem fU.later{es:List Fc}(h:fU w base v es)(hb:Below w.heap.size w w'):fU w' base v es:=cW h hb
theorem fU.kept{es:List Fc}(h:fU w base v es)(hg:w.grownBy w' (some g))(hne:∀k,v.ownBlock=some k->k≠g):fU w' base v es:=fD h hg hne
theorem fU.low{es:List Fc}(h:fU w base v es)(hb:base'<=base):fU w base' v es:=iE h hb
theorem fU.lt{es:List Fc}(h:fU w base v es):∀k,v.ownBlock=some k->base<=k/\k<w.heap.size:=World.ownsRow.lt h
theorem fU.ne{es:List Fc}{t:TypeId}(h:fU w base v es)(hb:w.heap[b]?=some (.cells cs t fr))(ht:t≠75):v.ownBlock≠some b:=jC h hb ht
theorem aCh:Ty 75 70 2 (.agg #[.int .i64 0, .slice none 0 0]) 32:=qY (by kernel_rfl) (by kernel_rfl) rfl (tL [U1]) (by decide) (by decide)
theorem oW.flat_cells{es:List Fc}(h:oW w (some ad) n es):∀j u,(flatF es)[j]?=some u->w.cell? (ad.add j)=some u:=
 jB (by decide) JH U1 h.len fun i hi=>by
  obtain⟨b,o,hx,d0,d1⟩:=h.cells i hi;exact⟨b,o,hx,by rintro(_|_|q) u hu<;>first|(cases hu;assumption)|simp[cF]at hu⟩
theorem oW.rw{es:List Fc}(h:oW w x n es):Rw w x n 2 (flatF es):=
 ⟨by rw[iR,h.len],fun h0 e=>(by obtain⟨b,o,hx, -⟩:=h.cells 0 h0;rw[e]at hx;cases hx),tL es,fun ad hx=>by subst hx;exact h.flat_cells⟩
theorem fU.mem{es:List Fc}(h:fU w base v es):∃x c,v= .slice x es.length c/\es.length<=c/\c<=9223372036854775807/\(x=none->es.length=0/\c=0)/\∀i,i<es.length->∃b o,x=some ⟨b,o,none⟩/\w.cell? ⟨b,o+i*2,none⟩=some (.int .i64 (fcAt es i).id)/\w.cell? ⟨b,o+i*2+1,none⟩=some (.slice (fcAt es i).x (fcAt es i).n (fcAt es i).c):=by
 obtain⟨x,c,hv,h1,h2,h3,h4⟩:=jU h;refine⟨x,c,hv,h1,h2,h3,fun i hi=>?_⟩;obtain⟨b,o,hx,e⟩:=h4 i hi;have e:=fun j u hj hu=>e j u hj ((rP es i j hi hj).trans hu);exact⟨b,o,hx,e 0 _ (by decide) rfl,e 1 _ (by decide) rfl⟩
theorem JI(x:Option Addr)(n c:Nat)(es:List Rg)(w:World)(hl:RS w x n es)(hn:n<=1048576):
  Calls Tryz.prog 230 #[.slice x n c] w fun e w'=>∃v,e= .returned v/\bT w' w.heap.size v es/\Below w.heap.size w w':=by
 obtain rfl:=hl.len;exact nJ.2.2.1 _ _ ZG x _ c _ w hl.rw hn
theorem JJ(x:Option Addr)(n c:Nat)(es:List Sb)(w:World)(hl:SS w x n es)(hn:n<=1048576):
  Calls Tryz.prog 231 #[.slice x n c] w fun e w'=>∃v,e= .returned v/\dC w' w.heap.size v es/\Below w.heap.size w w':=by
 obtain rfl:=hl.len;exact nJ.2.2.2.1 _ _ aCg x _ c _ w hl.rw hn
theorem JK(x:Option Addr)(n c:Nat)(es:List Fc)(w:World)(hl:oW w x n es)(hn:n<=1048576):
  Calls Tryz.prog 265 #[.slice x n c] w fun e w'=>∃v,e= .returned v/\fU w' w.heap.size v es/\Below w.heap.size w w':=by
 obtain rfl:=hl.len;exact nJ.2.2.2.2.1 _ _ aCh x _ c _ w hl.rw hn
theorem vD(p r:Rg)(v:Int)(hv:FC p.a r.a v)(bb kk:Nat)(w:World)(hby:w.cell? ⟨bb,0,none⟩=some (.func (.func 166) #[] #[])):
  Calls Tryz.prog 216 #[.agg #[.int .i64 p.a, .int .i64 p.l, .int .i64 p.p], .agg #[.int .i64 r.a, .int .i64 r.l, .int .i64 r.p], .slice (some ⟨bb,0,none⟩) 1 kk] w fun e w'=>e= .returned (.int .i64 v)/\Below w.heap.size w w':=MU.2.2.1 bys.2.2.1 p r v hv bb kk w hby
def RJ(e:Rg)(n:Nat)(ps:List Rg)(w:World)(r:Ending)(w':World):Prop:=
 ∃v,r= .returned v/\Below w.heap.size w w'/\∃i,i<=n/\(∀j,j<i->¬e.a<(rgAt ps j).a)/\(i<n->e.a<(rgAt ps i).a)/\bT w' w.heap.size v (ps.take i++[e]++ps.drop i)
theorem RK(e:Rg)(x:Option Addr)(n c:Nat)(ps:List Rg)(bf k:Nat)(w:World)(hp:RS w x n ps)(hn:n<=32)(hnc:n<=c)(hc63:c<=9223372036854775807)(hx:(x=none/\c=0)\/∃b o,x=some ⟨b,o,none⟩)
 (hby:w.cell? ⟨bf,0,none⟩=some (.func (.func 166) #[] #[])):
  Calls Tryz.prog 275 #[.slice x n c, .agg #[.int .i64 e.a, .int .i64 e.l, .int .i64 e.p], .slice (some ⟨bf,0,none⟩) 1 k] w (RJ e n ps w):=by
 have hB2:=bP w (.cells #[.int .i64 e.a, .int .i64 e.l, .int .i64 e.p] 59) (.cells #[.slice (some ⟨bf,0,none⟩) 1 k] 274);refine(IV.2.2.1 _ _ ZG e x n c bf 1 k (flatR ps) (fun i=>decide (e.a<(rgAt ps i).a)) w hp.rw (oN [e]) hn hnc hc63 hx (wD _ _ x n c ps _ _ (hp.later hB2) (by omega) (fun i hi W hW=>?_) jW.2.2.1.2)).mono ?_
 ·obtain⟨v,hv,hd⟩:=sY e.a (rgAt ps i).a;exact(jW.2.2.1.1 e (rgAt ps i) v w.heap.size (w.heap.size+1) bf 1 k W (fun i=>(hW.cell (p:=⟨w.heap.size,i,none⟩) (by show w.heap.size<_;simp;omega)).trans (by simp)) (cell_later hW (by simp)) fun W9 h9=>vD e _ v hv bf k W9 (cell_later h9 (cell_later hW (cell_later hB2 hby)))).mono fun _ _ h=>⟨h.1.trans (congrArg (fun t=>Ending.returned (.bool t)) hd.symm),h.2⟩
 ·rintro r w1 ⟨v,rfl,hb,i,hi,hlow,hup,ho⟩;exact⟨v,rfl,hb,i,hi,fun j hj=>of_decide_eq_false (hlow j hj),fun h=>of_decide_eq_true (hup h),lU flatR tJ CJ hp.len hi ho⟩
theorem vE(p r:Sb)(v:Int)(hv:FC p.id r.id v)(bb kk:Nat)(w:World)(hby:w.cell? ⟨bb,0,none⟩=some (.func (.func 171) #[] #[])):
  Calls Tryz.prog 224 #[.agg #[.int .i64 p.id, .int .i64 p.a, .int .i64 p.l, .slice p.x p.n p.c], .agg #[.int .i64 r.id, .int .i64 r.a, .int .i64 r.l, .slice r.x r.n r.c], .slice (some ⟨bb,0,none⟩) 1 kk] w fun e w'=>e= .returned (.int .i64 v)/\Below w.heap.size w w':=MU.2.2.2.1 bys.2.2.2.1 p r v hv bb kk w hby
def RL(e:Sb)(n:Nat)(ps:List Sb)(w:World)(r:Ending)(w':World):Prop:=
 ∃v,r= .returned v/\Below w.heap.size w w'/\∃i,i<=n/\(∀j,j<i->¬e.id<(aG ps j).id)/\(i<n->e.id<(aG ps i).id)/\dC w' w.heap.size v (ps.take i++[e]++ps.drop i)
theorem RM(e:Sb)(x:Option Addr)(n c:Nat)(ps:List Sb)(bf k:Nat)(w:World)(hp:SS w x n ps)(hn:n<=32)(hnc:n<=c)(hc63:c<=9223372036854775807)(hx:(x=none/\c=0)\/∃b o,x=some ⟨b,o,none⟩)
 (hby:w.cell? ⟨bf,0,none⟩=some (.func (.func 171) #[] #[])):
  Calls Tryz.prog 246 #[.slice x n c, .agg #[.int .i64 e.id, .int .i64 e.a, .int .i64 e.l, .slice e.x e.n e.c], .slice (some ⟨bf,0,none⟩) 1 k] w (RL e n ps w):=by
 have hB2:=bP w (.cells #[.int .i64 e.id, .int .i64 e.a, .int .i64 e.l, .slice e.x e.n e.c] 72) (.cells #[.slice (some ⟨bf,0,none⟩) 1 k] 281);refine(IV.2.2.2.1 _ _ aCg e x n c bf 1 k (flatS ps) (fun i=>decide (e.id<(aG ps i).id)) w hp.rw (tK [e]) hn hnc hc63 hx (mS _ _ x n c ps _ _ (hp.later hB2) (by omega) (fun i hi W hW=>?_) jW.2.2.2.1.2)).mono ?_
 ·obtain⟨v,hv,hd⟩:=sY e.id (aG ps i).id;exact(jW.2.2.2.1.1 e (aG ps i) v w.heap.size (w.heap.size+1) bf 1 k W (fun i=>(hW.cell (p:=⟨w.heap.size,i,none⟩) (by show w.heap.size<_;simp;omega)).trans (by simp)) (cell_later hW (by simp)) fun W9 h9=>vE e _ v hv bf k W9 (cell_later h9 (cell_later hW (cell_later hB2 hby)))).mono fun _ _ h=>⟨h.1.trans (congrArg (fun t=>Ending.returned (.bool t)) hd.symm),h.2⟩
 ·rintro r w1 ⟨v,rfl,hb,i,hi,hlow,hup,ho⟩;exact⟨v,rfl,hb,i,hi,fun j hj=>of_decide_eq_false (hlow j hj),fun h=>of_decide_eq_true (hup h),lU flatS iQ M9 hp.len hi ho⟩
theorem vF(p r:Fc)(v:Int)(hv:FC p.id r.id v)(bb kk:Nat)(w:World)(hby:w.cell? ⟨bb,0,none⟩=some (.func (.func 221) #[] #[])):
  Calls Tryz.prog 262 #[.agg #[.int .i64 p.id, .slice p.x p.n p.c], .agg #[.int .i64 r.id, .slice r.x r.n r.c], .slice (some ⟨bb,0,none⟩) 1 kk] w fun e w'=>e= .returned (.int .i64 v)/\Below w.heap.size w w':=MU.2.2.2.2.1 bys.2.2.2.2.1 p r v hv bb kk w hby
def RN(e:Fc)(n:Nat)(ps:List Fc)(w:World)(r:Ending)(w':World):Prop:=
 ∃v,r= .returned v/\Below w.heap.size w w'/\∃i,i<=n/\(∀j,j<i->¬e.id<(fcAt ps j).id)/\(i<n->e.id<(fcAt ps i).id)/\fU w' w.heap.size v (ps.take i++[e]++ps.drop i)
theorem RO(e:Fc)(x:Option Addr)(n c:Nat)(ps:List Fc)(bf k:Nat)(w:World)(hp:oW w x n ps)(hn:n<=32)(hnc:n<=c)(hc63:c<=9223372036854775807)(hx:(x=none/\c=0)\/∃b o,x=some ⟨b,o,none⟩)
 (hby:w.cell? ⟨bf,0,none⟩=some (.func (.func 221) #[] #[])):
  Calls Tryz.prog 249 #[.slice x n c, .agg #[.int .i64 e.id, .slice e.x e.n e.c], .slice (some ⟨bf,0,none⟩) 1 k] w (RN e n ps w):=by
 have hB2:=bP w (.cells #[.int .i64 e.id, .slice e.x e.n e.c] 75) (.cells #[.slice (some ⟨bf,0,none⟩) 1 k] 313);refine(IV.2.2.2.2.1 _ _ aCh e x n c bf 1 k (flatF ps) (fun i=>decide (e.id<(fcAt ps i).id)) w hp.rw (tL [e]) hn hnc hc63 hx (mT _ _ x n c ps _ _ (hp.later hB2) (by omega) (fun i hi W hW=>?_) jW.2.2.2.2.1.2)).mono ?_
 ·obtain⟨v,hv,hd⟩:=sY e.id (fcAt ps i).id;exact(jW.2.2.2.2.1.1 e (fcAt ps i) v w.heap.size (w.heap.size+1) bf 1 k W (fun i=>(hW.cell (p:=⟨w.heap.size,i,none⟩) (by show w.heap.size<_;simp;omega)).trans (by simp)) (cell_later hW (by simp)) fun W9 h9=>vF e _ v hv bf k W9 (cell_later h9 (cell_later hW (cell_later hB2 hby)))).mono fun _ _ h=>⟨h.1.trans (congrArg (fun t=>Ending.returned (.bool t)) hd.symm),h.2⟩
 ·rintro r w1 ⟨v,rfl,hb,i,hi,hlow,hup,ho⟩;exact⟨v,rfl,hb,i,hi,fun j hj=>of_decide_eq_false (hlow j hj),fun h=>of_decide_eq_true (hup h),lU flatF iR NA hp.len hi ho⟩
theorem bT.drew(h:bT w base v es):bT w.drew base v es:=h.later (zD).drew
theorem GL(base g k cap i j:Nat)(es:List Rg)(w:World)(hO:bT w base (.slice (some ⟨g,0,none⟩) (k+1) cap) es)(hn:es.length=k+1)(hi:i<=k)(hj:j=i+1)(hn64:k<=64)(hnc:k+1<=cap)(hcm:cap<=9223372036854775807):
  Calls Tryz.prog 244 #[.slice (some ⟨g,0,none⟩) (k+1) cap, .int .i64 i, .int .i64 j] w fun e w'=>e= .returned (.slice (some ⟨g,0,none⟩) k cap)/\bT w' base (.slice (some ⟨g,0,none⟩) k cap) (es.take i++es.drop j)/\w.grownBy w' (some g):=
 (K5.2.2.1 _ _ ZG base g k cap i j (flatR es) w (by unfold bT at hO;rw[hn]at hO;exact hO) (oN es) hi hj hn64 hnc hcm).mono fun e w1 h=>⟨h.1,K4 flatR tJ CJ hn (by omega) hj h.2.1,h.2.2⟩
def rQ(ps:List Rg)(i:Nat):Bool:=i==0||decide ((rgAt ps (i- 1)).a<(rgAt ps i).a)
def xZ(ps:List Rg):Bool:=(List.range ps.length).all (rQ ps)
theorem NB(x:Option Addr)(n c:Nat)(ps:List Rg)(bb kk:Nat)(w:World)(hp:RS w x n ps)(hn:n<=64)(hby:w.cell? ⟨bb,0,none⟩=some (.func (.func 166) #[] #[])):
  Calls Tryz.prog 165 #[.slice x n c, .slice (some ⟨bb,0,none⟩) 1 kk] w fun e w'=>e= .returned (.bool (xZ ps))/\Below w.heap.size w w':=by
 refine(B7.2.1 (rgAt ps) (fun i=>decide ((rgAt ps i).a<(rgAt ps (i+1)).a)) x n c bb 1 kk w hn (fun i hi=>?_) (fun i hi=>?_)).mono ?_
 ·obtain⟨b,o,hx,d0,d1,d2⟩:=hp.cells i hi;exact⟨b,o,hx,by rintro(_|_|_|q) hq<;>first|assumption|omega⟩
 ·obtain⟨v,hv,hd⟩:=sZ ((rgAt ps i).a) ((rgAt ps (i+1)).a);exact⟨v,hd,fun W hW=>vD _ _ v hv bb kk W (cell_later hW hby)⟩
 ·rintro e w1 ⟨t,rfl,hb,h⟩;exact⟨congrArg (fun t=>Ending.returned (.bool t)) ((oK (R:=rQ ps) rfl (fun _=>rfl) h).trans (by rw[<-hp.len];rfl)),hb⟩
def oO(ps:List Sb)(i:Nat):Bool:=i==0||decide ((aG ps (i- 1)).id<(aG ps i).id)
def nO(ps:List Sb):Bool:=(List.range ps.length).all (oO ps)
theorem NC(x:Option Addr)(n c:Nat)(ps:List Sb)(bb kk:Nat)(w:World)(hp:SS w x n ps)(hn:n<=64)(hby:w.cell? ⟨bb,0,none⟩=some (.func (.func 171) #[] #[])):
  Calls Tryz.prog 170 #[.slice x n c, .slice (some ⟨bb,0,none⟩) 1 kk] w fun e w'=>e= .returned (.bool (nO ps))/\Below w.heap.size w w':=by
 refine(B7.2.2.1 (aG ps) (fun i=>decide ((aG ps i).id<(aG ps (i+1)).id)) x n c bb 1 kk w hn (fun i hi=>?_) (fun i hi=>?_)).mono ?_
 ·obtain⟨b,o,hx,d0,d1,d2,d3⟩:=hp.cells i hi;exact⟨b,o,hx,by rintro(_|_|_|_|q) hq<;>first|assumption|omega⟩
 ·obtain⟨v,hv,hd⟩:=sZ ((aG ps i).id) ((aG ps (i+1)).id);exact⟨v,hd,fun W hW=>vE _ _ v hv bb kk W (cell_later hW hby)⟩
 ·rintro e w1 ⟨t,rfl,hb,h⟩;exact⟨congrArg (fun t=>Ending.returned (.bool t)) ((oK (R:=oO ps) rfl (fun _=>rfl) h).trans (by rw[<-hp.len];rfl)),hb⟩
def rR(ps:List Fc)(i:Nat):Bool:=i==0||decide ((fcAt ps (i- 1)).id<(fcAt ps i).id)
def nP(ps:List Fc):Bool:=(List.range ps.length).all (rR ps)
theorem ND(x:Option Addr)(n c:Nat)(ps:List Fc)(bb kk:Nat)(w:World)(hp:oW w x n ps)(hn:n<=64)(hby:w.cell? ⟨bb,0,none⟩=some (.func (.func 221) #[] #[])):
  Calls Tryz.prog 220 #[.slice x n c, .slice (some ⟨bb,0,none⟩) 1 kk] w fun e w'=>e= .returned (.bool (nP ps))/\Below w.heap.size w w':=by
 refine(B7.2.2.2.1 (fcAt ps) (fun i=>decide ((fcAt ps i).id<(fcAt ps (i+1)).id)) x n c bb 1 kk w hn (fun i hi=>?_) (fun i hi=>?_)).mono ?_
 ·obtain⟨b,o,hx,d0,d1⟩:=hp.cells i hi;exact⟨b,o,hx,by rintro(_|_|q) hq<;>first|assumption|omega⟩
 ·obtain⟨v,hv,hd⟩:=sZ ((fcAt ps i).id) ((fcAt ps (i+1)).id);exact⟨v,hd,fun W hW=>vF _ _ v hv bb kk W (cell_later hW hby)⟩
 ·rintro e w1 ⟨t,rfl,hb,h⟩;exact⟨congrArg (fun t=>Ending.returned (.bool t)) ((oK (R:=rR ps) rfl (fun _=>rfl) h).trans (by rw[<-hp.len];rfl)),hb⟩
theorem JL(a:Int)(w:World):
  Calls Tryz.prog 253 #[.int .i64 a] w fun e w'=>e= .returned (.int .i64 a)/\Below w.heap.size w w':=by
 go_enter Tryz.func253,Tryz.ntmps253;go_wp2;go_ret;exact⟨rfl,zD⟩
theorem GN(args:Array Value)(W:World):(callFunc 253 args).run Tryz.prog W= .ok (.enter 253 args) W:=by simp[go_sem]
theorem GO(p r v:Int)(hv:FC p r v)(bb kk:Nat)(w:World)(hby:w.cell? ⟨bb,0,none⟩=some (.func (.func 253) #[] #[])):
  Calls Tryz.prog 285 #[.int .i64 p, .int .i64 r, .slice (some ⟨bb,0,none⟩) 1 kk] w fun e w'=>e= .returned (.int .i64 v)/\Below w.heap.size w w':=by
 have hcall:=GN;go_enter Tryz.func285,Tryz.ntmps285;go_wp2;go_loopw [12] (fun i wr=>∃j:Nat,(j=0\/(j=1/\v=0))/\i= .int .i64 j/\Below w.heap.size w wr) (fun i _=>1- (intOf i).toNat)
 case atStart=>exact⟨0, .inl rfl,rfl,zD⟩
 case round=>
  obtain⟨j,hj,rfl,hB⟩:=hrel
  rcases hj with rfl|⟨rfl,hv0⟩
  ·have hz:=hB.size;have e9:wr.cell? ⟨bb,0,none⟩=some (.func (.func 253) #[] #[]):=cell_later hB hby;go_upto_region 4 with fail
   clear e9;first|refine aE wr.heap.size (by kernel_rfl) (by kernel_rfl) ?_|refine qT wr.heap.size ?_
   repeat(go_big_quiet_step (first|(go_at_call 253;exact Calls.in_ws (zE) (JL _ _))|(go_at_call 153;exact Calls.in_ws_same (xI _ _ _ hv _))))
   refine wpQuiet_nil ?_;rintro _ ⟨u,rfl⟩;have hu:=hB.trans (u.property.mono hz);generalize u.val=wu at hu⊢;clear u;rcases hv with ⟨h,rfl⟩|⟨h,rfl⟩|⟨h,rfl⟩
   ·go_wp2;go_ret;exact⟨rfl,hu⟩
   ·go_wp2;go_roundw
    case rel=>exact⟨1, .inr ⟨rfl,trivial⟩,by go_num,hu⟩
    case measure=>simp[intOf]
   ·go_wp2;go_ret;exact⟨rfl,hu⟩
  ·subst hv0;go_wp2;go_ret;exact⟨rfl,hB⟩
def oP(ps:List Int)(i:Nat):Bool:=i==0||decide ((aU ps (i- 1))<(aU ps i))
def kI(ps:List Int):Bool:=(List.range ps.length).all (oP ps)
theorem NE(x:Option Addr)(n c:Nat)(ps:List Int)(bb kk:Nat)(w:World)(hp:IS w x n ps)(hn:n<=64)(hby:w.cell? ⟨bb,0,none⟩=some (.func (.func 253) #[] #[])):
  Calls Tryz.prog 258 #[.slice x n c, .slice (some ⟨bb,0,none⟩) 1 kk] w fun e w'=>e= .returned (.bool (kI ps))/\Below w.heap.size w w':=by
 refine(B7.2.2.2.2.1 (aU ps) (fun i=>decide (aU ps i<aU ps (i+1))) x n c bb 1 kk w hn (fun i hi=>?_) (fun i hi=>?_)).mono ?_
 ·obtain⟨b,o,hx,d0⟩:=hp.cells i hi;exact⟨b,o,hx,fun q hq=>by obtain rfl:q=0:=(by omega);rw[Nat.mul_one];exact d0⟩
 ·obtain⟨v,hv,hd⟩:=sZ (aU ps i) (aU ps (i+1));exact⟨v,hd,fun W hW=>GO _ _ v hv bb kk W (cell_later hW hby)⟩
 ·rintro e w1 ⟨t,rfl,hb,h⟩;exact⟨congrArg (fun t=>Ending.returned (.bool t)) ((oK (R:=oP ps) rfl (fun _=>rfl) h).trans (by rw[<-hp.len];rfl)),hb⟩
theorem RP(a l:Int)(t:Int)(h:chk a l=t)(w:World):Calls Tryz.prog 119 #[.agg #[.int .i64 a, .int .i64 l]] w fun e w'=>e= .returned (.int .i64 t)/\Below w.heap.size w w':=by
 subst h;exact check_any a l w
def E5(r:Rg):Bool:=rt r.a r.l&&bV r.p 1 65536
theorem yA(r:Rg)(w:World):
  Calls Tryz.prog 163 #[.agg #[.int .i64 r.a, .int .i64 r.l, .int .i64 r.p]] w fun e w'=>e= .returned (.bool (E5 r))/\Below w.heap.size w w':=by
 have hc:=check_any r.a r.l;by_cases h:chk r.a r.l=0
 ·have hr:E5 r=bV r.p 1 65536:=by unfold E5 rt;rw[h];simp
  rw[hr];go_enter Tryz.func163,Tryz.ntmps163;go_wp2_with fail;refine(RP _ _ _ h _).mono ?_;rintro e w1 ⟨rfl,hb1⟩;have c2:w1.cell? ⟨w.heap.size,2,none⟩=some (.int .i64 r.p):=cell_later hb1 (by simp);go_wp2_with (go_at_call 79;refine(isId_any _ _).mono ?_;rintro e w2 ⟨rfl,rfl⟩);go_ret;exact⟨rfl,(bl1 w _).trans (hb1.mono (by simp))⟩
 ·have hr:E5 r=false:=by unfold E5 rt;simp[h]
  have h2:(chk r.a r.l==0)=false:=by simpa using h
  rw[hr];go_enter Tryz.func163,Tryz.ntmps163;go_wp2_with (go_at_call 119;refine(check_any _ _ _).mono ?_;rintro e w1 ⟨rfl,hb1⟩);go_ret;exact⟨rfl,(bl1 w _).trans (hb1.mono (by simp))⟩
theorem gK(r:Rg)(t:Bool)(h:E5 r=t)(w:World):
  Calls Tryz.prog 163 #[.agg #[.int .i64 r.a, .int .i64 r.l, .int .i64 r.p]] w fun e w'=>e= .returned (.bool t)/\Below w.heap.size w w':=by
 subst h;exact yA r w
def JM(rs:List Rg)(c m:Int)(i:Nat):Bool:=eD (rgAt rs i).a (rgAt rs i).l c m
theorem wE(c m:Int)(p:Rg)(b:Nat)(w:World)(h0:w.cell? ⟨b,0,none⟩=some (.int .i64 c))(h1:w.cell? ⟨b,1,none⟩=some (.int .i64 m)):
  Calls Tryz.prog 215 #[.agg #[.int .i64 p.a, .int .i64 p.l, .int .i64 p.p], .pointer (some ⟨b,0,none⟩)] w fun e w'=>e= .returned (.bool (eD p.a p.l c m))/\Below w.heap.size w w':=by
 have k0:∀q,(w.alloc q).cell? ⟨b,0,none⟩=some (.int .i64 c):=fun q=>cell_later (bl1 w q) h0;have k1:∀q,(w.alloc q).cell? ⟨b,1,none⟩=some (.int .i64 m):=fun q=>cell_later (bl1 w q) h1;go_enter Tryz.func215,Tryz.ntmps215;go_wp2_with (go_at_call 118;refine(meets_any _ _ _ _ _).mono ?_;rintro e w1 ⟨rfl,hb1⟩);go_ret;exact⟨rfl,(bl1 w _).trans (hb1.mono (by simp))⟩
theorem tM(args:Array Value)(W:World):(callFunc 215 args).run Tryz.prog W= .ok (.enter 215 args) W:=by simp[go_sem]
theorem BD(c m:Int)(b n:Nat)(rs:List Rg)(w:World)(h0:w.cell? ⟨b,0,none⟩=some (.int .i64 c))(h1:w.cell? ⟨b,1,none⟩=some (.int .i64 m)):
  xY 215 #[.pointer (some ⟨b,0,none⟩)] n rs (JM rs c m) w:=fun i _ W hW=>wE c m (rgAt rs i) b W (cell_later hW h0) (cell_later hW h1)
theorem nQ(c m:Int)(x:Option Addr)(n k:Nat)(rs:List Rg)(w:World)(hp:RS w x n rs)(hn:n<=64):
  Calls Tryz.prog 164 #[.slice x n k, .agg #[.int .i64 c, .int .i64 m]] w fun e w'=>e= .returned (.bool (anyAt n (JM rs c m)))/\Below w.heap.size w w':=by
 go_enter Tryz.func164,Tryz.ntmps164;go_wp2_with fail;refine(dI 215 _ x n k rs _ _ (hp.later (bl1 w _)) (by omega) (BD c m w.heap.size n rs _ (by simp) (by simp)) tM).mono ?_;rintro e w1 ⟨rfl,hb1⟩;go_wp2;go_ret;exact⟨rfl,(bl1 w _).trans (hb1.mono (by simp))⟩
def AX(ss:List Sb)(c m:Int)(i:Nat):Bool:=eD (aG ss i).a (aG ss i).l c m
theorem BE(c m:Int)(p:Sb)(b:Nat)(w:World)(h0:w.cell? ⟨b,0,none⟩=some (.int .i64 c))(h1:w.cell? ⟨b,1,none⟩=some (.int .i64 m)):
  Calls Tryz.prog 218 #[.agg #[.int .i64 p.id, .int .i64 p.a, .int .i64 p.l, .slice p.x p.n p.c], .pointer (some ⟨b,0,none⟩)] w fun e w'=>e= .returned (.bool (eD p.a p.l c m))/\Below w.heap.size w w':=by
 have k0:∀q,(w.alloc q).cell? ⟨b,0,none⟩=some (.int .i64 c):=fun q=>cell_later (bl1 w q) h0;have k1:∀q,(w.alloc q).cell? ⟨b,1,none⟩=some (.int .i64 m):=fun q=>cell_later (bl1 w q) h1;go_enter Tryz.func218,Tryz.ntmps218;go_wp2_with (go_at_call 118;refine(meets_any _ _ _ _ _).mono ?_;rintro e w1 ⟨rfl,hb1⟩);go_ret;exact⟨rfl,(bl1 w _).trans (hb1.mono (by simp))⟩
theorem yB(args:Array Value)(W:World):(callFunc 218 args).run Tryz.prog W= .ok (.enter 218 args) W:=by simp[go_sem]
theorem GP(c m:Int)(b n:Nat)(ss:List Sb)(w:World)(h0:w.cell? ⟨b,0,none⟩=some (.int .i64 c))(h1:w.cell? ⟨b,1,none⟩=some (.int .i64 m)):
  xX 218 #[.pointer (some ⟨b,0,none⟩)] n ss (AX ss c m) w:=fun i _ W hW=>BE c m (aG ss i) b W (cell_later hW h0) (cell_later hW h1)
theorem rS(c m:Int)(x:Option Addr)(n k:Nat)(ss:List Sb)(w:World)(hp:SS w x n ss)(hn:n<=64):
  Calls Tryz.prog 168 #[.slice x n k, .agg #[.int .i64 c, .int .i64 m]] w fun e w'=>e= .returned (.bool (anyAt n (AX ss c m)))/\Below w.heap.size w w':=by
 go_enter Tryz.func168,Tryz.ntmps168;go_wp2_with fail;refine(eU 218 _ x n k ss _ _ (hp.later (bl1 w _)) (by omega) (GP c m w.heap.size n ss _ (by simp) (by simp)) yB).mono ?_;rintro e w1 ⟨rfl,hb1⟩;go_wp2;go_ret;exact⟨rfl,(bl1 w _).trans (hb1.mono (by simp))⟩
def PR(rs:List Rg)(c m:Int)(i:Nat):Bool:=jQ c m (rgAt rs i).a (rgAt rs i).l
def oY(n:Nat)(rs:List Rg)(id c m:Int):Bool:=bV id 1 65536&&anyAt n (PR rs c m)
theorem BF(c m:Int)(p:Rg)(b:Nat)(w:World)(h0:w.cell? ⟨b,0,none⟩=some (.int .i64 c))(h1:w.cell? ⟨b,1,none⟩=some (.int .i64 m)):
  Calls Tryz.prog 217 #[.agg #[.int .i64 p.a, .int .i64 p.l, .int .i64 p.p], .pointer (some ⟨b,0,none⟩)] w fun e w'=>e= .returned (.bool (jQ c m p.a p.l))/\Below w.heap.size w w':=by
 have k0:∀q,(w.alloc q).cell? ⟨b,0,none⟩=some (.int .i64 c):=fun q=>cell_later (bl1 w q) h0;have k1:∀q,(w.alloc q).cell? ⟨b,1,none⟩=some (.int .i64 m):=fun q=>cell_later (bl1 w q) h1;go_enter Tryz.func217,Tryz.ntmps217;go_wp2_with (go_at_call 154;refine(inside_any _ _ _ _ _).mono ?_;rintro e w1 ⟨rfl,hb1⟩);go_ret;exact⟨rfl,(bl1 w _).trans (hb1.mono (by simp))⟩
theorem yC(args:Array Value)(W:World):(callFunc 217 args).run Tryz.prog W= .ok (.enter 217 args) W:=by simp[go_sem]
theorem GQ(c m:Int)(b n:Nat)(rs:List Rg)(w:World)(h0:w.cell? ⟨b,0,none⟩=some (.int .i64 c))(h1:w.cell? ⟨b,1,none⟩=some (.int .i64 m)):
  xY 217 #[.pointer (some ⟨b,0,none⟩)] n rs (PR rs c m) w:=fun i _ W hW=>BF c m (rgAt rs i) b W (cell_later hW h0) (cell_later hW h1)
theorem DZ(vid id c m:Int)(rx sx:Option Addr)(rn rc sn sc:Nat)(rs:List Rg)(w:World)(hp:RS w rx rn rs)(hn:rn<=64):
  Calls Tryz.prog 167 #[.agg #[.int .i64 vid, .slice rx rn rc, .slice sx sn sc], .int .i64 id, .agg #[.int .i64 c, .int .i64 m]] w fun e w'=>e= .returned (.bool (oY rn rs id c m))/\Below w.heap.size w w':=by
 unfold oY
 cases hw:bV id 1 65536
 ·go_enter Tryz.func167,Tryz.ntmps167;go_wp2_with (go_at_call 79;refine(isId_is _ _ hw _).mono ?_;rintro e w1 ⟨rfl,rfl⟩);go_ret;exact⟨rfl,bP w _ _⟩
 ·go_enter Tryz.func167,Tryz.ntmps167;go_wp2_with fail;refine(isId_is _ _ hw _).mono ?_;rintro e w1 ⟨rfl,rfl⟩;go_wp2_with fail;refine(dI 217 _ rx rn rc rs _ _ (hp.later (bP w _ _)) (by omega) (GQ c m (w.heap.size+1) rn rs _ (by simp) (by simp)) yC).mono ?_;rintro e w1 ⟨rfl,hb1⟩;go_wp2;go_ret;exact⟨by simp,(bP w _ _).trans (hb1.mono (by simp;omega))⟩
theorem kC(vid id c m:Int)(rx sx:Option Addr)(rn rc sn sc:Nat)(rs:List Rg)(t:Bool)(h:oY rn rs id c m=t)(w:World)(hp:RS w rx rn rs)(hn:rn<=64):
  Calls Tryz.prog 167 #[.agg #[.int .i64 vid, .slice rx rn rc, .slice sx sn sc], .int .i64 id, .agg #[.int .i64 c, .int .i64 m]] w fun e w'=>e= .returned (.bool t)/\Below w.heap.size w w':=by
 subst h;exact DZ vid id c m rx sx rn rc sn sc rs w hp hn
theorem rT(f:Fc)(w:World)(hf:f.n<=9223372036854775807):
  Calls Tryz.prog 214 #[.agg #[.int .i64 f.id, .slice f.x f.n f.c]] w fun e w'=>e= .returned (.bool (decide (4<f.n)))/\Below w.heap.size w w':=by
 by_cases h:4<f.n;all_goals go_enter Tryz.func214,Tryz.ntmps214
 all_goals go_wp2
 all_goals go_ret
 all_goals exact⟨aI (by simp[h];try omega),bl1 w _⟩
theorem qH(args:Array Value)(W:World):(callFunc 214 args).run Tryz.prog W= .ok (.enter 214 args) W:=by simp[go_sem]
def dE(s:Sb):Bool:=decide (8<s.n)||anyAt s.n fun i=>decide (4<(fcAt s.fs i).n)
theorem tN(s:Sb)(w:World)(hs:s.n<=9223372036854775807)(hp:oW w s.x s.n s.fs):
  Calls Tryz.prog 162 #[.agg #[.int .i64 s.id, .int .i64 s.a, .int .i64 s.l, .slice s.x s.n s.c]] w fun e w'=>e= .returned (.bool (dE s))/\Below w.heap.size w w':=by
 by_cases h:8<s.n
 ·have hr:dE s=true:=by unfold dE;simp[h]
  have hd:(decide ((s.n:Int)>8))=true:=by simp;omega
  rw[hr];go_enter Tryz.func162,Tryz.ntmps162;go_wp2;go_ret;exact⟨rfl,bl1 w _⟩
 ·have hr:dE s=anyAt s.n fun i=>decide (4<(fcAt s.fs i).n):=by unfold dE;simp[h]
  have hd:(decide ((s.n:Int)>8))=false:=by simp;omega
  rw[hr];have hF:∀W,JE 214 #[] s.n s.fs (fun i=>decide (4<(fcAt s.fs i).n)) W:=fun W i hi V _=>rT (fcAt s.fs i) V (hp.addrs i hi).2.1;go_enter Tryz.func162,Tryz.ntmps162;go_wp2_with fail;refine(qF 214 #[] s.x s.n s.c s.fs _ _ (hp.later (bl1 w _)) (by omega) (hF _) qH).mono ?_;rintro e w1 ⟨rfl,hb1⟩;go_wp2;go_ret;exact⟨rfl,(bl1 w _).trans (hb1.mono (by simp))⟩
theorem rU(args:Array Value)(W:World):(callFunc 162 args).run Tryz.prog W= .ok (.enter 162 args) W:=by simp[go_sem]
def bU(rn sn:Nat)(ss:List Sb):Bool:=decide (4<rn)||decide (6<sn)||anyAt sn fun i=>dE (aG ss i)
theorem GR(vid:Int)(rx sx:Option Addr)(rn rc sn sc:Nat)(ss:List Sb)(w:World)(hr63:rn<=9223372036854775807)(hp:SS w sx sn ss)(hs:sn<=9223372036854775807):
  Calls Tryz.prog 125 #[.agg #[.int .i64 vid, .slice rx rn rc, .slice sx sn sc]] w fun e w'=>e= .returned (.bool (bU rn sn ss))/\Below w.heap.size w w':=by
 by_cases h:4<rn
 ·have hr:bU rn sn ss=true:=by unfold bU;simp[h]
  have hd:(decide ((rn:Int)>4))=true:=by simp;omega
  rw[hr];go_enter Tryz.func125,Tryz.ntmps125;go_wp2;go_ret;exact⟨rfl,bl1 w _⟩
 ·have hd:(decide ((rn:Int)>4))=false:=by simp;omega
  by_cases h2:6<sn
  ·have hr:bU rn sn ss=true:=by unfold bU;simp[h2]
   have hd2:(decide ((sn:Int)>6))=true:=by simp;omega
   rw[hr];go_enter Tryz.func125,Tryz.ntmps125;go_wp2;go_ret;exact⟨rfl,bl1 w _⟩
  ·have hd2:(decide ((sn:Int)>6))=false:=by simp;omega
   have hr:bU rn sn ss=anyAt sn fun i=>dE (aG ss i):=by unfold bU;simp[h,h2]
   have hF:xX 162 #[] sn ss (fun i=>dE (aG ss i)) w:=fun i hi V hV=>tN (aG ss i) V (hp.faces i hi).2.1 ((hp.faces i hi).2.2.later hV);rw[hr];have hF2:∀q,xX 162 #[] sn ss (fun i=>dE (aG ss i)) (w.alloc q):=fun q i hi V hV=>hF i hi V ((bl1 w q).trans (hV.mono (by simp)));go_enter Tryz.func125,Tryz.ntmps125;go_wp2_with fail;refine(eU 162 #[] sx sn sc ss _ _ (hp.later (bl1 w _)) (by omega) (hF2 _) rU).mono ?_;rintro e w1 ⟨rfl,hb1⟩;go_wp2;go_ret;exact⟨rfl,(bl1 w _).trans (hb1.mono (by simp))⟩
def mC(a l x:Int):Bool:=decide (a<x)&&decide (x<a+sp l- 1)
theorem rV(h0:0<=l)(h1:l<=16):1<=sp l/\sp l<=65536:=by
 have h:l=0\/l=1\/l=2\/l=3\/l=4\/l=5\/l=6\/l=7\/l=8\/l=9\/l=10\/l=11\/l=12\/l=13\/l=14\/l=15\/l=16:=by omega
 rcases h with rfl|rfl|rfl|rfl|rfl|rfl|rfl|rfl|rfl|rfl|rfl|rfl|rfl|rfl|rfl|rfl|rfl<;>decide
theorem VJ(a l:Int)(h:rt a l=true)(w:World):
  Calls Tryz.prog 288 #[.agg #[.int .i64 a, .int .i64 l]] w fun e w'=>e= .returned (.int .i64 (sp l))/\Below w.heap.size w w':=by
 have:=P0 a l w;rw[h]at this;exact this
theorem usable_any(a l x:Int)(w:World)(h:rt a l=true):
  Calls Tryz.prog 261 #[.agg #[.int .i64 a, .int .i64 l], .int .i64 x] w fun e w'=>e= .returned (.bool (mC a l x))/\Below w.heap.size w w':=by
 obtain⟨h0,h1,h2,h3, -⟩:=bC h;obtain⟨s0,s1⟩:=rV h0 h1;unfold mC;go_enter Tryz.func261,Tryz.ntmps261;have g0:=Ws.here (w:=w.alloc (.cells #[.int .i64 a, .int .i64 l] 53)) (b:=w.heap.size) (o:=0) (v:= .int .i64 a) (by simp);have g1:=Ws.here (w:=w.alloc (.cells #[.int .i64 a, .int .i64 l] 53)) (b:=w.heap.size) (o:=1) (v:= .int .i64 l) (by simp);go_upto_region 1 with fail
 have hB:=bl1 w (.cells #[.int .i64 a, .int .i64 l] 53);generalize w.alloc (.cells #[.int .i64 a, .int .i64 l] 53)=w1 at*
 cases hlt:decide (a<x);all_goals refine aE w1.heap.size (by kernel_rfl) (by kernel_rfl) ?_
 all_goals repeat(go_big_quiet_step ((go_at_call 288;exact Calls.in_ws (zE) (VJ _ _ h _))))
 all_goals refine wpQuiet_nil ?_
 all_goals rintro _ ⟨u,rfl⟩
 all_goals have hu:=hB.trans (u.property.mono hB.size)
 all_goals generalize u.val=wu at hu⊢
 all_goals clear u g0 g1
 all_goals go_wp2
 all_goals go_ret
 ·exact⟨aI (by rw[hlt];rfl),hu⟩
 ·exact⟨aI (by rw[hlt];simp),hu⟩
theorem CK(h:j<i):rgAt (rs.take i) j=rgAt rs j:=by
 unfold rgAt;rw[zF,zF,List.getElem?_take_of_lt h]
theorem tO(h:j<i):aG (ss.take i) j=aG ss j:=by
 unfold aG;rw[zF,zF,List.getElem?_take_of_lt h]
theorem RS.take(h:RS w x n rs)(hi:i<=n):RS w x i (rs.take i) where
 len:=by rw[List.length_take,h.len];omega
 cells:=fun j hj=>by rw[CK hj];exact h.cells j (by omega)
theorem SS.take(h:SS w x n ss)(hi:i<=n):SS w x i (ss.take i) where
 len:=by rw[List.length_take,h.len];omega
 cells:=fun j hj=>by rw[tO hj];exact h.cells j (by omega)
 faces:=fun j hj=>by rw[tO hj];exact h.faces j (by omega)
theorem dJ(hk:k<n)(h:f k=false):(List.range n).all f=false:=by
 rw[List.all_eq_false];exact⟨k,by simpa using hk,by simp[h]⟩
theorem fI(h:∀j,j<n->f j=true):(List.range n).all f=true:=by
 rw[List.all_eq_true];intro j hj;exact h j (by simpa using hj)
theorem BG(rs:List Rg)(i:Nat)(x:Option Addr)(n k:Nat)(w:World)(t:Bool)(hp:RS w x n rs)(hi:i<=n)(hn:n<=64)(c m:Int)(h:anyAt i (JM rs c m)=t):
  Calls Tryz.prog 164 #[.slice x i k, .agg #[.int .i64 c, .int .i64 m]] w fun e w'=>e= .returned (.bool t)/\Below w.heap.size w w':=by
 have hm:=nQ c m x i k (rs.take i) w (hp.take hi) (by omega);rw[tB (f:=JM (rs.take i) c m) (g:=JM rs c m) (fun j hj=>by unfold JM;rw[CK hj]),h]at hm;exact hm
theorem vG(ss:List Sb)(i:Nat)(x:Option Addr)(n k:Nat)(w:World)(t:Bool)(hp:SS w x n ss)(hi:i<=n)(hn:n<=64)(c m:Int)(h:anyAt i (AX ss c m)=t):
  Calls Tryz.prog 168 #[.slice x i k, .agg #[.int .i64 c, .int .i64 m]] w fun e w'=>e= .returned (.bool t)/\Below w.heap.size w w':=by
 have hm:=rS c m x i k (ss.take i) w (hp.take hi) (by omega);rw[tB (f:=AX (ss.take i) c m) (g:=AX ss c m) (fun j hj=>by unfold AX;rw[tO hj]),h]at hm;exact hm
abbrev AY(p:Rg):Obj:= .cells #[.int .i64 p.a, .int .i64 p.l, .int .i64 p.p] 59
def vH(rs:List Rg)(i:Nat):Bool:=E5 (rgAt rs i)&&!anyAt i (JM rs (rgAt rs i).a (rgAt rs i).l)
def yD(n:Nat)(rs:List Rg):Bool:=(List.range n).all (vH rs)&&xZ rs
theorem wF(x:Option Addr)(n c:Nat)(rs:List Rg)(w:World)(hp:RS w x n rs)(hn:n<=64)(hnc:n<=c)(hc63:c<=9223372036854775807):
  Calls Tryz.prog 126 #[.slice x n c] w fun e w'=>e= .returned (.bool (yD n rs))/\Below w.heap.size w w':=by
 have hbd:Hid (yD n rs=((List.range n).all (vH rs)&&xZ rs)):=rfl;go_enter Tryz.func126,Tryz.ntmps126;go_wp2;go_loopw [7] (fun i wr=>∃k:Nat,k<=n/\i= .int .i64 k/\Below w.heap.size w wr/\(∀j,j<k->vH rs j=true)) (fun i _=>n- (intOf i).toNat)
 case atStart=>exact⟨0,by omega,rfl,zD,fun j hj=>by omega⟩
 case round=>
  obtain⟨k,hk,rfl,hB,hok⟩:=hrel
  by_cases hlt:k<n
  ·have hpr:=hp.later hB;obtain⟨b,o,rfl,c0,c1,c2⟩:=hpr.cells k hlt;have hlt':=hlt;have hta:Hid (vH rs k=(E5 (rgAt rs k)&&!anyAt k (JM rs (rgAt rs k).a (rgAt rs k).l))):=rfl;go_upto_region 4 with fail
   obtain⟨w2,hw2⟩:∃w2,w2=wr.alloc (AY (rgAt rs k)):=⟨_,rfl⟩;rw[<-hw2];have h02:Below wr.heap.size wr w2:=by rw[hw2];exact bl1 wr _
   have hbox:w2.heap[wr.heap.size]?=some (AY (rgAt rs k)):=by rw[hw2];exact aB _ rfl
   clear hw2 c0 c1 c2;have hp2:=hpr.later h02;obtain⟨hcl, -⟩:=aD hbox;have g0:=Ws.here (v:= .int .i64 (rgAt rs k).a) (hcl 0);have g1:=Ws.here (v:= .int .i64 (rgAt rs k).l) (hcl 1);have g2:=Ws.here (v:= .int .i64 (rgAt rs k).p) (hcl 2);clear hcl
   cases hu:E5 (rgAt rs k)
   ·refine aE w2.heap.size (by kernel_rfl) (by kernel_rfl) ?_;repeat(go_big_quiet_step ((go_at_call 163;exact Calls.in_ws (zE) (gK _ _ hu _))))
    refine wpQuiet_nil ?_;rintro _ ⟨u,rfl⟩;have hB2:=hB.trans (h02.mono hB.size);have hu2:=hB2.trans (u.property.mono hB2.size);generalize u.val=wu at hu2⊢;clear u g0 g1 g2;go_wp2;go_ret;exact⟨aI (by rw[hbd.out,dJ hlt' (by rw[hta.out,hu];rfl)];rfl),hu2⟩
   ·cases ha:anyAt k (JM rs (rgAt rs k).a (rgAt rs k).l);all_goals refine aE w2.heap.size (by kernel_rfl) (by kernel_rfl) ?_
    all_goals repeat(go_big_quiet_step (first|(go_at_call 163;exact Calls.in_ws (zE) (gK _ _ hu _))|(go_at_call 164;exact Calls.in_ws (zE) (BG rs k _ n _ _ _ (hp2.later (Ws.property _)) (by omega) hn _ _ ha))))
    all_goals refine wpQuiet_nil ?_
    all_goals rintro _ ⟨u,rfl⟩
    all_goals have hB2:=hB.trans (h02.mono hB.size)
    all_goals have hu2:=hB2.trans (u.property.mono hB2.size)
    all_goals generalize u.val=wu at hu2⊢
    all_goals clear u g0 g1 g2
    ·go_wp2;go_roundw
     case rel=>exact⟨k+1,hlt',by go_num,hu2,fun j hj=>by
      by_cases hj2:j<k
      ·exact hok j hj2
      ·obtain rfl:j=k:=by omega
       rw[hta.out,hu,ha];rfl⟩
     case measure=>simp[intOf];omega
    ·go_wp2;go_ret;exact⟨aI (by rw[hbd.out,dJ hlt' (by rw[hta.out,hu,ha];rfl)];rfl),hu2⟩
  ·obtain rfl:k=n:=by omega
   go_wp2_with fail;refine(NB x k c rs wr.heap.size 1 _ ((hp.later hB).later (bl1 wr _)) hn (by simp)).mono ?_;rintro e w1 ⟨rfl,hb1⟩;go_wp2;go_ret;exact⟨aI (by rw[hbd.out,fI hok];rfl),hB.trans (((bl1 wr _).trans (hb1.mono (by simp))).mono hB.size)⟩
theorem rangesRight_is(x:Option Addr)(n c:Nat)(rs:List Rg)(t:Bool)(h:yD n rs=t)(w:World)(hp:RS w x n rs)(hn:n<=64)(hnc:n<=c)(hc63:c<=9223372036854775807):
  Calls Tryz.prog 126 #[.slice x n c] w fun e w'=>e= .returned (.bool t)/\Below w.heap.size w w':=by
 subst h;exact wF x n c rs w hp hn hnc hc63
def PT(a l:Int)(n:Nat)(ns:List Int):Bool:=kI ns&&!anyAt n fun i=>!mC a l (aU ns i)
theorem wG(a l x:Int)(b:Nat)(w:World)(hr:rt a l=true)(h0:w.cell? ⟨b,0,none⟩=some (.int .i64 a))(h1:w.cell? ⟨b,1,none⟩=some (.int .i64 l)):
  Calls Tryz.prog 260 #[.int .i64 x, .pointer (some ⟨b,0,none⟩)] w fun e w'=>e= .returned (.bool (!mC a l x))/\Below w.heap.size w w':=by
 go_enter Tryz.func260,Tryz.ntmps260;go_wp2_with (go_at_call 261;refine(usable_any _ _ _ _ hr).mono ?_;rintro e w1 ⟨rfl,hb1⟩);go_ret;exact⟨rfl,hb1⟩
theorem tP(args:Array Value)(W:World):(callFunc 260 args).run Tryz.prog W= .ok (.enter 260 args) W:=by simp[go_sem]
theorem BH(a l:Int)(hr:rt a l=true)(b n:Nat)(ns:List Int)(w:World)(h0:w.cell? ⟨b,0,none⟩=some (.int .i64 a))(h1:w.cell? ⟨b,1,none⟩=some (.int .i64 l)):
  RH 260 #[.pointer (some ⟨b,0,none⟩)] n ns (fun i=>!mC a l (aU ns i)) w:=fun i _ W hW=>wG a l (aU ns i) b W hr (cell_later hW h0) (cell_later hW h1)
theorem yE(a l:Int)(x:Option Addr)(n c:Nat)(ns:List Int)(w:World)(hr:rt a l=true)(hp:IS w x n ns)(hn:n<=64):
  Calls Tryz.prog 219 #[.agg #[.int .i64 a, .int .i64 l], .slice x n c] w fun e w'=>e= .returned (.bool (PT a l n ns))/\Below w.heap.size w w':=by
 have hbd:Hid (PT a l n ns=(kI ns&&!anyAt n fun i=>!mC a l (aU ns i))):=rfl;go_enter Tryz.func219,Tryz.ntmps219;go_wp2_with fail;refine(NE x n c ns (w.heap.size+1) 1 _ (hp.later (bP w _ _)) hn (by simp)).mono ?_;rintro e w1 ⟨rfl,hb1⟩;have hB:=(bP w _ _).trans (hb1.mono (by simp;omega));have c0:w1.cell? ⟨w.heap.size,0,none⟩=some (.int .i64 a):=cell_later hb1 (by simp);have c1:w1.cell? ⟨w.heap.size,1,none⟩=some (.int .i64 l):=cell_later hb1 (by simp);clear hb1
 cases hri:kI ns
 ·go_wp2;go_ret;exact⟨aI (by rw[hbd.out,hri];rfl),hB⟩
 ·go_wp2_with fail;refine(qG 260 _ x n c ns _ _ (hp.later hB) (by omega) (BH a l hr w.heap.size n ns _ c0 c1) tP).mono ?_;rintro e w2 ⟨rfl,hb2⟩;go_wp2;go_ret;exact⟨aI (by rw[hbd.out,hri];simp),hB.trans (hb2.mono hB.size)⟩
theorem pM(a l:Int)(x:Option Addr)(n c:Nat)(ns:List Int)(t:Bool)(h:PT a l n ns=t)(w:World)(hr:rt a l=true)(hp:IS w x n ns)(hn:n<=64):
  Calls Tryz.prog 219 #[.agg #[.int .i64 a, .int .i64 l], .slice x n c] w fun e w'=>e= .returned (.bool t)/\Below w.heap.size w w':=by
 subst h;exact yE a l x n c ns w hr hp hn
open Go.RowKit Go.Shelf Go.Maps
theorem key_law:Keyed Tryz.prog 3:=int_keyed under_int
theorem zero_int(w:World):(zeroValue 3).run Tryz.prog w= .ok (.int .i64 0) w:=by kernel_rfl
theorem under_uses:Tryz.prog.underlying 279=some (.map 3 3):=by kernel_rfl
structure jH(D:DataW Unit)(L:List Int):Prop where
 isMap:IsMap D
 at_:∀a:Int,D.atKey (.int .i64 a) (.lit (.int .i64 0))= .lit (.int .i64 (L.count a))
 has_:∀a:Int,has D (.int .i64 a)=decide (a∈L)
theorem jH.empty:jH (.map []) []:=⟨isMap_empty,fun _=>rfl,fun _=>rfl⟩
theorem jH.put{D:DataW Unit}(h:jH D L)(a:Int):jH (D.put (.int .i64 a) (.lit (.int .i64 ((L.count a:Nat)+1)))) (L++[a]) where
 isMap:=h.isMap.put _ _
 at_:=fun b=>by
  by_cases e:b=a
  ·subst e;rw[atKey_put_same h.isMap (by trivial),List.count_append];simp
  ·rw[atKey_put_other (by intro e2;exact e (by cases e2;rfl)),h.at_ b,List.count_append];simp[Ne.symm e]
 has_:=fun b=>by
  by_cases e:b=a
  ·subst e;rw[has_put_same h.isMap (by trivial)];simp
  ·rw[has_put_other (by intro e2;exact e (by cases e2;rfl)),h.has_ b];simp[e]
def aT(fs:List Fc):List Int:=fs.flatMap (·.ns)
theorem RQ(h:i<fs.length):fcAt fs i=fs[i]:=by simp[fcAt,List.getD_eq_getElem?_getD,h]
theorem qI(h:k<fs.length):aT (fs.take (k+1))=aT (fs.take k)++(fcAt fs k).ns:=by
 unfold aT;rw[List.take_add_one,List.getElem?_eq_getElem h,RQ h,Option.toList_some,List.flatMap_append];simp only[List.flatMap_cons,List.flatMap_nil,List.append_nil]
theorem eL(h:i<ns.length):aU ns i=ns[i]:=by simp[aU,List.getD_eq_getElem?_getD,h]
theorem VK(h:k<ns.length):ns.take (k+1)=ns.take k++[aU ns k]:=by
 rw[List.take_add_one,List.getElem?_eq_getElem h,eL h,Option.toList_some]
theorem fJ(h0:0<=a)(h1:a<=1000000):(Lit.int .i64 a).wf=true:=by
 have e1:IntKind.i64.min= -9223372036854775808:=by decide
 have e2:IntKind.i64.max=9223372036854775807:=by decide
 simp only[Lit.wf,e1,e2,zH,decide_eq_true_eq];omega
abbrev NF(p:Sb):Obj:= .cells #[.int .i64 p.id, .int .i64 p.a, .int .i64 p.l, .slice p.x p.n p.c] 72
abbrev fcO(p:Fc):Obj:= .cells #[.int .i64 p.id, .slice p.x p.n p.c] 75
theorem yF(id a l:Int)(x:Option Addr)(n c:Nat)(fs:List Fc)(w:World)(hp:oW w x n fs)(hn:n<=64)(hm:∀i,i<n->(fcAt fs i).n<=64)
 (hr:∀i,i<n->∀j,j<(fcAt fs i).n->0<=aU (fcAt fs i).ns j/\aU (fcAt fs i).ns j<=1000000):
  Calls Tryz.prog 222 #[.agg #[.int .i64 id, .int .i64 a, .int .i64 l, .slice x n c]] w fun e w'=>∃bm D,e= .returned (.map (some bm))/\w.heap.size<=bm/\w'.ownsMap Tryz.prog 3 (plainElem Tryz.prog 3) bm (aT fs).length D/\jH D (aT fs)/\Below w.heap.size w w':=by
 have hmm:= @run_makeMap Tryz.prog;have hfl:Hid (fs.length=n):=hp.len;go_enter Tryz.func222,Tryz.ntmps222;go_wp2;go_loopw [12] (fun i wr=>∃(k:Nat) (D:DataW Unit),k<=n/\i= .int .i64 k/\Below w.heap.size w wr/\wr.ownsMap Tryz.prog 3 (plainElem Tryz.prog 3) (w.heap.size+1) (aT (fs.take k)).length D/\jH D (aT (fs.take k))/\(aT (fs.take k)).length<=k*64) (fun i _=>n- (intOf i).toNat)
 case atStart=>
  refine⟨0, .map [],by omega,rfl,?_,?_,?_,?_⟩
  ·exact bP w _ _
  ·have:=World.ownsMap_made (H:=Unit) (w.alloc (.cells #[.int .i64 id, .int .i64 a, .int .i64 l, .slice x n c] 72)) Tryz.prog 3 (plainElem Tryz.prog 3);simpa[aT]using this
  ·exact jH.empty
  ·simp[aT]
 case round=>
  obtain⟨k,D,hk,rfl,hB,hO,hC,hL⟩:=hrel
  by_cases hlt:k<n
  ·have hlt':Hid (k<n):=hlt;have hpr:=hp.later hB;obtain⟨b,o,rfl,c0,c1⟩:=hpr.cells k hlt;have hI:=(hp.addrs k hlt).2.2;have hm1:=hm k hlt;have hr1:=hr k hlt;have hsz:=hB.size;have hst:Hid (aT (fs.take (k+1))=aT (fs.take k)++(fcAt fs k).ns):=qI (by rw[hfl.out];exact hlt);generalize hf:fcAt fs k=f at*;obtain⟨fid,fx,fn,fc,ns⟩:=f;simp only at*;clear hf;go_wp2;obtain⟨wo,rfl⟩:∃wo,wo=wr:=⟨_,rfl⟩;go_loopw [19] (fun i wr=>∃(q:Nat) (D:DataW Unit),q<=fn/\i= .int .i64 q/\Below w.heap.size w wr/\wr.ownsMap Tryz.prog 3 (plainElem Tryz.prog 3) (w.heap.size+1) (aT (fs.take k)++ns.take q).length D/\jH D (aT (fs.take k)++ns.take q)) (fun i _=>fn- (intOf i).toNat)
   case atStart=>exact⟨0,D,by omega,rfl,hB.trans ((bl1 wo _).mono hsz),by simpa using hO.alloc _,by simpa using hC⟩
   case round=>
    obtain⟨q,D2,hq,rfl,hB2,hO2,hC2⟩:=hrel
    by_cases hq2:q<fn
    ·have hq':Hid (q<fn):=hq2;have hL2:Hid ((aT (fs.take k)++ns.take q).length<=k*64+q):=by
      show _<=_;rw[List.length_append,List.length_take];omega
     have hst2:Hid (aT (fs.take k)++ns.take (q+1)=(aT (fs.take k)++ns.take q)++[aU ns q]):=by
      show _=_;rw[VK (by rw[hI.len];exact hq2),List.append_assoc]
     obtain⟨b2,o2,rfl,d0⟩:=(hI.later hB2).cells q hq2;have hkey:keyOf Tryz.prog 3 (.int .i64 (aU ns q))=some (.int .i64 (aU ns q)):=keyOf_int_mk under_int (fJ (hr1 q hq2).1 (hr1 q hq2).2);generalize hLd:aT (fs.take k)++ns.take q=L at*;have hat:=hC2.at_ (aU ns q);have hcl:Hid (L.count (aU ns q)<=L.length):=List.count_le_length;have hmx:L.length<maxLen:=by have:=hL2.out;unfold maxLen;omega
     go_wp2_with (first
      |(at_lookup;refine wpList_lookup_own_int _ rfl _ _ 279 rfl 3 3 .i64 key_law under_uses under_int (zero_int _) (w.heap.size+1) _ _ rfl hO2 _ _ rfl hkey ?_;intro cc hat2 hwc;obtain rfl:cc=(L.count (aU ns q):Nat):=(by rw[hat]at hat2;cases hat2;rfl))
      |(at_mapUpdate;refine wpList_mapUpdate_own _ rfl _ _ _ 279 rfl 3 3 key_law under_uses _ (w.heap.size+1) _ _ rfl hO2 hmx _ _ _ rfl rfl hkey _ [] (plainElem_int under_int (wrap64_wf _)) ?_;intro w1 hown1 hgrow1)
      |go_in)
     have hP:=hC2.put (aU ns q);have hwr:wrap64 ((L.count (aU ns q):Nat)+1)=(L.count (aU ns q):Nat)+1:=by
      have:=hcl.out;have:=hL2.out;unfold wrap64;omega
     go_roundw
     case rel=>
      refine⟨q+1,D2.put (.int .i64 (aU ns q)) (.lit (.int .i64 ((L.count (aU ns q):Nat)+1))),hq'.out,by go_num,hB2.grown hgrow1 hB2.size (fun j hj=>by cases hj;omega),?_,?_⟩
      ·rw[hst2.out,List.length_append];rw[hwr]at hown1;exact hown1
      ·rw[hst2.out];exact hP
     case measure=>simp[intOf];have:=hq'.out;omega
    ·obtain rfl:q=fn:=by omega
     have e:ns.take q=ns:=by rw[<-hI.len,List.take_length]
     rw[e,<-hst.out]at hO2 hC2;go_wp2;go_roundw
     case rel=>exact⟨k+1,D2,hlt'.out,by go_num,hB2,hO2,hC2,by rw[hst.out,List.length_append,hI.len];omega⟩
     case measure=>simp[intOf];have:=hlt'.out;omega
  ·obtain rfl:k=n:=by omega
   have e:fs.take k=fs:=by rw[<-hfl.out,List.take_length]
   rw[e]at hO hC;go_wp2;go_ret;exact⟨_,D,rfl,by omega,hO,hC,hB⟩
theorem nR:∀L:List Int,(∀a,L.count a<=1)↔L.Nodup
 |[]=>by simp
 |x::L=>by
  rw[List.nodup_cons,<-nR L];constructor
  ·intro h;have h1:=h x;rw[List.count_cons_self]at h1;refine⟨fun hm=>?_,fun a=>?_⟩
   ·have:=List.count_pos_iff.2 hm;omega
   ·have:=h a;rw[List.count_cons]at this;omega
  ·rintro⟨h1,h2⟩ a;by_cases e:a=x
   ·subst e;rw[List.count_cons_self,List.count_eq_zero.2 h1];omega
   ·rw[List.count_cons_of_ne (Ne.symm e)];exact h2 a
def D6(L:List Int):Bool:=!decide L.Nodup
theorem VL(h:1<L.count a):D6 L=true:=by
 unfold D6;rw[decide_eq_false]
 ·rfl
 ·intro hn;have:=(nR L).2 hn a;omega
theorem ZH(h:∀a,L.count a<=1):D6 L=false:=by
 unfold D6;rw[decide_eq_true ((nR L).1 h)];rfl
theorem twice_any(bm m:Nat)(D:DataW Unit)(L:List Int)(w:World)(hO:w.ownsMap Tryz.prog 3 (plainElem Tryz.prog 3) bm m D)(hC:jH D L):
  Calls Tryz.prog 223 #[.map (some bm)] w fun e w'=>e= .returned (.bool (D6 L))/\Below w.heap.size w w':=by
 have hDb:Hid (jH D L):=hC;go_enter Tryz.func223,Tryz.ntmps223;go_wp2_with (first|(at_range;refine wpList_range_own _ rfl _ 279 rfl 3 3 key_law under_uses _ bm m D rfl hO ?_;intro w0 hrg0 hg0 hs0)|go_in)
 go_frame;go_loopw [] (fun wr=>∃left cnt,wr.ranges Tryz.prog 3 (plainElem Tryz.prog 3) bm w.heap.size m D left cnt/\Below w.heap.size w wr/\(∀a:Int,has D (.int .i64 a)=true->left (.int .i64 a)=true\/L.count a<=1)) (fun wr=>wr.rangeLeft bm w.heap.size)
 case atStart=>exact⟨_,_,hrg0,(zD).grown hg0 (zE) (fun j hj=>by cases hj),fun a h=> .inl h⟩
 case round=>
  obtain⟨left,cnt,hrg,hB,hall⟩:=hrel
  go_wp2_with (first
   |(at_next;refine wpList_next_ranges_ii _ rfl _ rfl 3 3 .i64 .i64 key_law under_int under_int bm w.heap.size m _ _ _ rfl hrg ?_ ?_)
   |go_in)
  ·intro hc0 hl0;go_wp2;go_ret;exact⟨aI (ZH fun a=>by
    by_cases hm:a∈L
    ·rcases hall a (by rw[hDb.out.has_ a];simpa using hm)with h|h
     ·rw[hl0]at h;cases h
     ·exact h
    ·rw[List.count_eq_zero.2 hm];omega).symm,hB⟩
  ·intro x c w1 cnt1 hwx hwc hlx hat hrg1 hlt hg1 hs1 hen;have hcx:c=(L.count x:Nat):=by
    have:=hat (.lit (.int .i64 0));rw[hDb.out.at_ x]at this
    cases this;rfl
   have hB1:Below w.heap.size w w1:=hB.grown hg1 hB.size (fun j hj=>by cases hj;omega);by_cases hgt:c>1
   ·go_wp2;go_ret;exact⟨aI (VL (a:=x) (by omega)).symm,hB1⟩
   ·go_wp2;go_roundw
    case rel=>exact⟨_,cnt1,hrg1,hB1,fun a ha=>by
     by_cases e:a=x
     ·subst e;exact .inr (by omega)
     ·rcases hall a ha with h|h
      ·refine .inl ?_;rw[h,sameKey_ne (by intro e2;exact e (by cases e2;rfl))];rfl
      ·exact .inr h⟩
    case measure=>rw[hrg1.left_eq,hrg.left_eq];omega
def mU(a l:Int)(fs:List Fc)(i:Nat):Bool:=bV (fcAt fs i).id 1 65536&&decide (0<(fcAt fs i).n)&&PT a l (fcAt fs i).n (fcAt fs i).ns
def oZ(a l:Int)(n:Nat)(fs:List Fc):Bool:=(List.range n).all (mU a l fs)&&nP fs&&!D6 (aT fs)
theorem yG{x:Int}(hr:rt a l=true)(h:mC a l x=true):0<=x/\x<=1000000:=by
 obtain⟨h0,h1,h2,h3, -⟩:=bC hr;obtain⟨s0,s1⟩:=rV h0 h1;unfold mC at h;simp only[zH,decide_eq_true_eq]at h;omega
theorem X2(h:PT a l n ns=true):∀j,j<n->mC a l (aU ns j)=true:=by
 intro j hj;unfold PT at h;rw[zH]at h
 cases hu:mC a l (aU ns j)
 ·have:=aW (f:=fun i=>!mC a l (aU ns i)) hj (by rw[hu];rfl);rw[this]at h;exact absurd h.2 (by simp)
 ·rfl
theorem yH(id a l:Int)(x:Option Addr)(n c:Nat)(fs:List Fc)(w:World)(hr:rt a l=true)(hp:oW w x n fs)(hn:n<=8)(hm:∀i,i<n->(fcAt fs i).n<=4):
  Calls Tryz.prog 169 #[.agg #[.int .i64 id, .int .i64 a, .int .i64 l, .slice x n c]] w fun e w'=>e= .returned (.bool (oZ a l n fs))/\Below w.heap.size w w':=by
 have hbd:Hid (oZ a l n fs=((List.range n).all (mU a l fs)&&nP fs&&!D6 (aT fs))):=rfl;go_enter Tryz.func169,Tryz.ntmps169;go_upto_region 1 with fail
 obtain⟨w2,hw2⟩:∃w2,w2=w.alloc (.cells #[.int .i64 id, .int .i64 a, .int .i64 l, .slice x n c] 72):=⟨_,rfl⟩;rw[<-hw2];have h02:Below w.heap.size w w2:=by rw[hw2];exact bl1 w _
 have hbox:w2.heap[w.heap.size]?=some (.cells #[.int .i64 id, .int .i64 a, .int .i64 l, .slice x n c] 72):=by rw[hw2];exact aB _ rfl
 clear hw2;have hp2:=hp.later h02;obtain⟨hcl, -⟩:=aD hbox;have q0:w2.cell? ⟨w.heap.size,0,none⟩=some (.int .i64 id):=hcl 0;have q1:w2.cell? ⟨w.heap.size,1,none⟩=some (.int .i64 a):=hcl 1;have q2:w2.cell? ⟨w.heap.size,2,none⟩=some (.int .i64 l):=hcl 2;have q3:w2.cell? ⟨w.heap.size,3,none⟩=some (.slice x n c):=hcl 3;clear hcl hbox;generalize hbk:w.heap.size=bk at*;go_wp2;go_loopw [8] (fun i wr=>∃k:Nat,k<=n/\i= .int .i64 k/\Below w2.heap.size w2 wr/\(∀j,j<k->mU a l fs j=true)) (fun i _=>n- (intOf i).toNat)
 case atStart=>exact⟨0,by omega,rfl,zD,fun j hj=>by omega⟩
 case round=>
  obtain⟨k,hk,rfl,hB,hok⟩:=hrel
  have r0:=cell_later hB q0
  have r1:=cell_later hB q1
  have r2:=cell_later hB q2
  have r3:=cell_later hB q3
  have hall:Below bk w wr:=h02.trans (hB.mono (by have:=h02.size;omega))
  clear q0 q1 q2 q3
  by_cases hlt:k<n
  ·have hlt':Hid (k<n):=hlt;have hpr:=hp2.later hB;obtain⟨b,o,rfl,c0,c1⟩:=hpr.cells k hlt;have hI:=(hpr.addrs k hlt).2.2;have hm1:=hm k hlt;have hta:Hid (mU a l fs k=(bV (fcAt fs k).id 1 65536&&decide (0<(fcAt fs k).n)&&PT a l (fcAt fs k).n (fcAt fs k).ns)):=rfl;generalize hf:fcAt fs k=f at*;obtain⟨fid,fx,fn,fcc,ns⟩:=f;simp only at*;clear hf;go_upto_region 4 with fail
   obtain⟨w3,hw3⟩:∃w3,w3=wr.alloc (.cells #[.int .i64 fid, .slice fx fn fcc] 75):=⟨_,rfl⟩;rw[<-hw3];have h23:Below wr.heap.size wr w3:=by rw[hw3];exact bl1 wr _
   have hbox:w3.heap[wr.heap.size]?=some (.cells #[.int .i64 fid, .slice fx fn fcc] 75):=by rw[hw3];exact aB _ rfl
   clear hw3 c0 c1;have s0:=cell_later h23 r0;have s1:=cell_later h23 r1;have s2:=cell_later h23 r2;have s3:=cell_later h23 r3;clear r0 r1 r2 r3;obtain⟨hcl, -⟩:=aD hbox;have t0:w3.cell? ⟨wr.heap.size,0,none⟩=some (.int .i64 fid):=hcl 0;have t1:w3.cell? ⟨wr.heap.size,1,none⟩=some (.slice fx fn fcc):=hcl 1;clear hcl hbox;have hall3:Below bk w w3:=hall.trans (h23.mono (by have:=h02.size;have:=hB.size;omega));have hB3:Below w2.heap.size w2 w3:=hB.trans (h23.mono hB.size);have hI3:=hI.later h23
   cases hw:bV fid 1 65536
   ·go_wp2_with (go_at_call 79;refine(isId_is _ _ hw _).mono ?_;rintro e w4 ⟨rfl,rfl⟩);go_ret;exact⟨aI (by rw[hbd.out,dJ hlt'.out (by rw[hta.out,hw];rfl)];rfl),by rw[hbk];exact hall3⟩
   ·by_cases h0:0<fn
    ·have hd:Hid (decide (0<fn)=true):=by show _=_;simpa using h0
     have hne:((fn:Int)==0)=false:=by simp;omega
     cases had:PT a l fn ns
     ·go_wp2_with (first|(go_at_call 79;refine(isId_is _ _ hw _).mono ?_;rintro e w4 ⟨rfl,rfl⟩)|(go_at_call 219;refine(pM _ _ _ _ _ _ _ had _ hr hI3 (by omega)).mono ?_;rintro e w4 ⟨rfl,hb4⟩))
      go_ret;exact⟨aI (by rw[hbd.out,dJ hlt'.out (by rw[hta.out,hw,hd.out,had];rfl)];rfl),by rw[hbk];exact hall3.trans (hb4.mono (by have:=hall3.size;omega))⟩
     ·go_wp2_with (first|(go_at_call 79;refine(isId_is _ _ hw _).mono ?_;rintro e w4 ⟨rfl,rfl⟩)|(go_at_call 219;refine(pM _ _ _ _ _ _ _ had _ hr hI3 (by omega)).mono ?_;rintro e w4 ⟨rfl,hb4⟩))
      go_roundw
      case rel=>exact⟨k+1,hlt'.out,by go_num,hB3.trans (hb4.mono hB3.size),fun j hj=>by
       by_cases hj2:j<k
       ·exact hok j hj2
       ·obtain rfl:j=k:=by omega
        rw[hta.out,hw,hd.out,had];rfl⟩
      case measure=>simp[intOf];have:=hlt'.out;omega
    ·obtain rfl:fn=0:=by omega
     go_wp2_with (go_at_call 79;refine(isId_is _ _ hw _).mono ?_;rintro e w4 ⟨rfl,rfl⟩);go_ret;exact⟨aI (by rw[hbd.out,dJ hlt'.out (by rw[hta.out,hw];rfl)];rfl),by rw[hbk];exact hall3⟩
  ·obtain rfl:k=n:=by omega
   have hpr:=hp2.later hB;go_wp2_with fail;refine(ND x k c fs wr.heap.size 1 _ (hpr.later (bl1 wr _)) (by omega) (by simp)).mono ?_;rintro e w3 ⟨rfl,hb3⟩;have h23:=(bl1 wr _).trans (hb3.mono (by simp));clear hb3;have hall3:Below bk w w3:=hall.trans (h23.mono (by have:=h02.size;have:=hB.size;omega));have s0:=cell_later h23 r0;have s1:=cell_later h23 r1;have s2:=cell_later h23 r2;have s3:=cell_later h23 r3;clear r0 r1 r2 r3
   cases hri:nP fs
   ·go_wp2;go_ret;exact⟨aI (by rw[hbd.out,hri];simp),by rw[hbk];exact hall3⟩
   ·go_wp2_with fail;refine(yF id a l x k c fs _ (hpr.later h23) (by omega) (fun i hi=>by have:=hm i hi;omega) (fun i hi j hj=>yG hr (X2 (by
     have:=hok i hi;unfold mU at this;simp only[zH]at this;exact this.2) j hj))).mono ?_
    rintro e w4 ⟨bm,D,rfl,hbm,hO,hC,hb4⟩;go_wp2_with (go_at_call 223;refine(twice_any _ _ _ _ _ hO hC).mono ?_;rintro e w5 ⟨rfl,hb5⟩);go_ret;have h4:=hall3.trans (hb4.mono (by have:=hall3.size;omega));exact⟨aI (by rw[hbd.out,hri,fI hok];simp),by rw[hbk];exact h4.trans (hb5.mono (by have:=h4.size;omega))⟩
theorem BI(id a l:Int)(x:Option Addr)(n c:Nat)(fs:List Fc)(t:Bool)(h:oZ a l n fs=t)(w:World)(hr:rt a l=true)(hp:oW w x n fs)(hn:n<=8)(hm:∀i,i<n->(fcAt fs i).n<=4):
  Calls Tryz.prog 169 #[.agg #[.int .i64 id, .int .i64 a, .int .i64 l, .slice x n c]] w fun e w'=>e= .returned (.bool t)/\Below w.heap.size w w':=by
 subst h;exact yH id a l x n c fs w hr hp hn hm
end Go.Proofs.YtkgeoeglidnnnaaGreatDoor
