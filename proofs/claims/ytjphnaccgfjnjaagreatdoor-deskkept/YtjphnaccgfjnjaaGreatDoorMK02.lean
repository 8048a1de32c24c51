/- A part of the proof. -/
import Derived.Test.YtjphnaccgfjnjaaGreatDoorMK01
set_option maxRecDepth 100000
set_option maxHeartbeats 20000000
namespace Go.Proofs.YtjphnaccgfjnjaaGreatDoor
variable {k base n c b p i rn rc sn sc g f j : Nat} {a : Act} {l : List Oper} {w V w1 V' w' : World} {v z v' : Value} {H qs o : List (Int × Int)} {x rx sx : Option Addr} {t : TypeId} {r : Option Nat} {m mn mx us co : Int} {ns : List Int} {P : Program} {ops : Array Oper} {C S : World → Prop} {listed : Array Bool} {Q : Exit → Act → World → Prop} {T : Nat → Bool} {oi : Oper} {ca : Array Value} {fr : Nat × Nat}
open Go.RowKit
theorem M7(a l:Int)(w:World):
  Calls Tryz.prog 232 #[.agg #[.int .i64 a, .int .i64 l]] w fun e w'=>e= .returned (.int .i64 a)/\Below w.heap.size w w':=by
 go_enter Tryz.func232,Tryz.ntmps232;go_wp2;go_ret;exact⟨rfl,bl1 _ _⟩
theorem I6(args:Array Value)(W:World):(callFunc 232 args).run Tryz.prog W= .ok (.enter 232 args) W:=by simp[go_sem]
theorem isNaN_any(a:Int)(w:World):
  Calls Tryz.prog 256 #[.int .i64 a] w fun e w'=>e= .returned (.bool false)/\w'=w:=by
 have h:(a !=a)=false:=by simp
 go_enter Tryz.func256,Tryz.ntmps256;go_wp2;go_ret;exact⟨rfl,rfl⟩
def F7(a c v:Int):Prop:=(a<c/\v= -1)\/(a=c/\v=0)\/(c<a/\v=1)
theorem yI(a c v:Int)(hv:F7 a c v)(w:World):
  Calls Tryz.prog 229 #[.int .i64 a, .int .i64 c] w fun e w'=>e= .returned (.int .i64 v)/\w'=w:=by
 rcases hv with ⟨h,rfl⟩|⟨h,rfl⟩|⟨h,rfl⟩
 ·go_enter Tryz.func229,Tryz.ntmps229;go_wp2_with (go_at_call 256;refine(isNaN_any _ _).mono ?_;rintro e w1 ⟨rfl,rfl⟩);go_ret;exact⟨rfl,rfl⟩
 ·subst h;have h1:¬a<a:=by omega
  go_enter Tryz.func229,Tryz.ntmps229;go_wp2_with (go_at_call 256;refine(isNaN_any _ _).mono ?_;rintro e w1 ⟨rfl,rfl⟩);go_ret;exact⟨rfl,rfl⟩
 ·have h1:¬a<c:=by omega
  go_enter Tryz.func229,Tryz.ntmps229;go_wp2_with (go_at_call 256;refine(isNaN_any _ _).mono ?_;rintro e w1 ⟨rfl,rfl⟩);go_ret;exact⟨rfl,rfl⟩
theorem I7(a l c m v:Int)(hv:F7 a c v)(bb k:Nat)(w:World)(hby:w.cell? ⟨bb,0,none⟩=some (.func (.func 232) #[] #[])):
  Calls Tryz.prog 257 #[.agg #[.int .i64 a, .int .i64 l], .agg #[.int .i64 c, .int .i64 m], .slice (some ⟨bb,0,none⟩) 1 k] w fun e w'=>e= .returned (.int .i64 v)/\Below w.heap.size w w':=by
 have hcall:=I6;go_enter Tryz.func257,Tryz.ntmps257;go_wp2;go_loopw [12] (fun i wr=>∃j:Nat,(j=0\/(j=1/\v=0))/\i= .int .i64 j/\Below (w.heap.size+1+1) ((w.alloc (.cells #[.int .i64 a, .int .i64 l] 26)).alloc (.cells #[.int .i64 c, .int .i64 m] 26)) wr) (fun i _=>1- (intOf i).toNat)
 case atStart=>exact⟨0, .inl rfl,rfl,zD⟩
 case round=>
  obtain⟨j,hj,rfl,hB⟩:=hrel
  rcases hj with rfl|⟨rfl,hv0⟩
  ·have hz:=hB.size;simp only[World.size_alloc]at hz;have hbl:bb<w.heap.size:=block_lt_of_cell hby;have e0:wr.cell? ⟨w.heap.size,0,none⟩=some (.int .i64 a):=(hB.cell (p:=⟨w.heap.size,0,none⟩) (by show w.heap.size<_;omega)).trans (by simp);have e1:wr.cell? ⟨w.heap.size,1,none⟩=some (.int .i64 l):=(hB.cell (p:=⟨w.heap.size,1,none⟩) (by show w.heap.size<_;omega)).trans (by simp);have e2:wr.cell? ⟨w.heap.size+1,0,none⟩=some (.int .i64 c):=(hB.cell (p:=⟨w.heap.size+1,0,none⟩) (by show w.heap.size+1<_;omega)).trans (by simp);have e3:wr.cell? ⟨w.heap.size+1,1,none⟩=some (.int .i64 m):=(hB.cell (p:=⟨w.heap.size+1,1,none⟩) (by show w.heap.size+1<_;omega)).trans (by simp);have e4:wr.cell? ⟨bb,0,none⟩=some (.func (.func 232) #[] #[]):=(hB.cell (p:=⟨bb,0,none⟩) (by show bb<_;omega)).trans (cell_later (bO w _ _) hby);have g0:=Ws.here e0;have g1:=Ws.here e1;have g2:=Ws.here e2;have g3:=Ws.here e3;go_upto_region 4 with fail
   clear e0 e1 e2 e3 e4;refine aH wr.heap.size (by kernel_rfl) (by kernel_rfl) ?_;repeat(go_big_quiet_step (first|(go_at_call 232;exact Calls.in_ws (zE) (M7 _ _ _))|(go_at_call 229;exact Calls.in_ws_same (yI _ _ _ hv _))))
   refine wpQuiet_nil ?_;rintro _ ⟨u,rfl⟩;have hu:=hB.trans (u.property.mono hz);generalize u.val=wu at hu⊢;clear u g0 g1 g2 g3;rcases hv with ⟨h,rfl⟩|⟨h,rfl⟩|⟨h,rfl⟩
   ·go_wp2;go_ret;exact⟨rfl,(bO w _ _).trans (hu.mono (by omega))⟩
   ·go_wp2;go_roundw
    case rel=>exact⟨1, .inr ⟨rfl,trivial⟩,by go_num,hu⟩
    case measure=>simp[intOf]
   ·go_wp2;go_ret;exact⟨rfl,(bO w _ _).trans (hu.mono (by omega))⟩
  ·subst hv0;go_wp2;go_ret;exact⟨rfl,(bO w _ _).trans (hB.mono (by omega))⟩
def qV(ps:List (Int×Int))(i:Nat):Bool:=i==0||decide (cM ps (i- 1)<cM ps i)
def wD(ps:List (Int×Int)):Bool:=(List.range ps.length).all (qV ps)
theorem U3{ps:List (Int×Int)}(hk:k<ps.length)(h:qV ps k=false):wD ps=false:=by
 unfold wD;rw[List.all_eq_false];exact⟨k,by simpa using hk,by simp[h]⟩
theorem QF{ps:List (Int×Int)}(h:∀j,j<ps.length->qV ps j=true):wD ps=true:=by
 unfold wD;rw[List.all_eq_true];intro j hj;exact h j (by simpa using hj)
theorem rise_any(x:Option Addr)(n c:Nat)(ps:List (Int×Int))(bb k:Nat)(w:World)(hp:PS w x n ps)(hn:n<=64)(hby:w.cell? ⟨bb,0,none⟩=some (.func (.func 232) #[] #[])):
  Calls Tryz.prog 231 #[.slice x n c, .slice (some ⟨bb,0,none⟩) 1 k] w fun e w'=>e= .returned (.bool (wD ps))/\Below w.heap.size w w':=by
 go_enter Tryz.func231,Tryz.ntmps231;go_wp2;go_loopw [5] (fun i wr=>∃j:Nat,1<=j/\j<=n+1/\i= .int .i64 j/\Below w.heap.size w wr/\(∀i,i<j->i<n->qV ps i=true)) (fun i _=>n+1- (intOf i).toNat)
 case atStart=>exact⟨1,by omega,by omega,rfl,zD,fun i hi _=>by
  obtain rfl:i=0:=by omega
  rfl⟩
 case round=>
  obtain⟨j,hj1,hjn,rfl,hB,hok⟩:=hrel
  have hz:=hB.size
  have hpl:=hp.len
  by_cases hlt:j<n
  ·obtain⟨i,rfl⟩:∃i,j=i+1:=⟨j- 1,by omega⟩;have hp2:=hp.later hB;obtain⟨b,o,rfl,c0,c1⟩:=hp2.cells i (by omega);obtain⟨b2,o2,hbo,c2,c3⟩:=hp2.cells (i+1) (by omega);simp only[Option.some.injEq,Addr.mk.injEq,and_true]at hbo;obtain⟨rfl,rfl⟩:=hbo;have hby':=cell_later hB hby;have hlt':=hlt;have g0:=Ws.here c0;have g1:=Ws.here c1;have g2:=Ws.here c2;have g3:=Ws.here c3;have g4:=Ws.here hby';have hv:∃v,F7 (cM ps i) (cM ps (i+1)) v/\(decide (cM ps i<cM ps (i+1))=!(decide (0<=v))):=by
    rcases Int.lt_trichotomy (cM ps i) (cM ps (i+1))with h|h|h
    ·exact⟨-1, .inl ⟨h,rfl⟩,by simp[h]⟩
    ·exact⟨0, .inr (.inl ⟨h,rfl⟩),by simp[h]⟩
    ·exact⟨1, .inr (.inr ⟨h,rfl⟩),by simp;omega⟩
   obtain⟨v,hv,hd⟩:=hv;go_upto_region 4 with fail
   clear c0 c1 c2 c3;refine aH wr.heap.size (by kernel_rfl) (by kernel_rfl) ?_
   cases hg:decide (0<=v);all_goals rw[hg]at hd
   all_goals have hge:decide (v≥0)=_:=hg
   all_goals repeat(go_big_quiet_step ((go_at_call 257;exact Calls.in_ws (zE) (I7 _ _ _ _ _ hv _ _ _ (g4 _)))))
   all_goals refine wpQuiet_nil ?_
   all_goals rintro _ ⟨u,rfl⟩
   all_goals have hu:=hB.trans (u.property.mono hz)
   all_goals generalize u.val=wu at hu⊢
   all_goals clear u g0 g1 g2 g3 g4
   all_goals go_wp2
   ·go_roundw
    case rel=>exact⟨i+1+1,by omega,by omega,by go_num,hu,fun q hq hqn=>by
     by_cases hq2:q<i+1
     ·exact hok q hq2 hqn
     ·obtain rfl:q=i+1:=by omega
      simp only[qV,Nat.add_sub_cancel,hd];simp⟩
    case measure=>simp[intOf];omega
   ·go_ret;exact⟨aM (U3 (k:=i+1) (by omega) (by simp only[qV,Nat.add_sub_cancel,hd];simp)).symm,hu⟩
  ·go_wp2;go_ret;exact⟨aM (QF (fun i hi=>hok i (by omega) (by omega))).symm,hB⟩
theorem F8{a l:Int}{ps:List (Int×Int)}:eP a l ps=((List.range ps.length).all (fun i=>iH (cM ps i) (eF ps i) a l&&(i==0||!kL (cM ps (i- 1)) (eF ps (i- 1)) (cM ps i) (eF ps i)))&&wD ps):=by
 rw[Bool.eq_iff_iff];unfold eP wD;simp only[zH,List.all_eq_true,List.mem_range,MY,qV,Bool.or_eq_true,beq_iff_eq];constructor
 ·intro h;exact⟨fun i hi=>⟨(h i hi).1,(h i hi).2.imp id (·.2)⟩,fun i hi=>(h i hi).2.imp id (·.1)⟩
 ·rintro⟨h,g⟩ i hi;refine⟨(h i hi).1,?_⟩;rcases(h i hi).2 with h1|h1
  ·exact .inl h1
  ·rcases g i hi with g1|g1
   ·exact .inl g1
   ·exact .inr ⟨g1,h1⟩
def nR(a l:Int)(ps:List (Int×Int))(i:Nat):Bool:=iH (cM ps i) (eF ps i) a l&&(i==0||!kL (cM ps (i- 1)) (eF ps (i- 1)) (cM ps i) (eF ps i))
theorem LL{a l:Int}{ps:List (Int×Int)}(hk:k<ps.length)(h:nR a l ps k=false):eP a l ps=false:=by
 rw[F8,Bool.and_eq_false_iff];left;rw[List.all_eq_false];exact⟨k,by simpa using hk,by unfold nR at h;simp only[h];simp⟩
theorem QG{a l:Int}{ps:List (Int×Int)}(h:∀j,j<ps.length->nR a l ps j=true):eP a l ps=wD ps:=by
 rw[F8];have:(List.range ps.length).all (fun i=>iH (cM ps i) (eF ps i) a l&&(i==0||!kL (cM ps (i- 1)) (eF ps (i- 1)) (cM ps i) (eF ps i)))=true:=by
  rw[List.all_eq_true];intro j hj;exact h j (by simpa using hj)
 rw[this,Bool.true_and]
theorem M8(a l:Int)(x:Option Addr)(n c:Nat)(ps:List (Int×Int))(w:World)(hp:PS w x n ps)(hn:n<=32):
  Calls Tryz.prog 185 #[.agg #[.int .i64 a, .int .i64 l, .slice x n c]] w fun e w'=>e= .returned (.bool (eP a l ps))/\Below w.heap.size w w':=by
 go_enter Tryz.func185,Tryz.ntmps185;go_wp2;go_loopw [8] (fun i wr=>∃k:Nat,k<=n/\i= .int .i64 k/\Below (w.heap.size+1) (w.alloc (.cells #[.int .i64 a, .int .i64 l, .slice x n c] 205)) wr/\(∀j,j<k->nR a l ps j=true)) (fun i _=>n- (intOf i).toNat)
 case atStart=>exact⟨0,by omega,rfl,zD,fun j hj=>by omega⟩
 case round=>
  obtain⟨k,hk,rfl,hB,hok⟩:=hrel
  have hpl:=hp.len
  have hz:=hB.size
  simp only[World.size_alloc]at hz
  by_cases hlt:k<n
  ·have hp2:=(hp.later (bl1 w (.cells #[.int .i64 a, .int .i64 l, .slice x n c] 205)));obtain⟨b,o,rfl,c0,c1⟩:=hp2.cells k hlt;have hbl:=block_lt_of_cell c0;simp only[World.size_alloc]at hbl;have d0:wr.cell? ⟨b,o+k*2,none⟩=some (.int .i64 (cM ps k)):=(hB.cell (p:=⟨b,o+k*2,none⟩) hbl).trans c0;have d1:wr.cell? ⟨b,o+k*2+1,none⟩=some (.int .i64 (eF ps k)):=(hB.cell (p:=⟨b,o+k*2+1,none⟩) hbl).trans c1;have e0:wr.cell? ⟨w.heap.size,0,none⟩=some (.int .i64 a):=(hB.cell (p:=⟨w.heap.size,0,none⟩) (by show w.heap.size<_;omega)).trans (by simp);have e1:wr.cell? ⟨w.heap.size,1,none⟩=some (.int .i64 l):=(hB.cell (p:=⟨w.heap.size,1,none⟩) (by show w.heap.size<_;omega)).trans (by simp);have e2:wr.cell? ⟨w.heap.size,2,none⟩=some (.slice (some ⟨b,o,none⟩) n c):=(hB.cell (p:=⟨w.heap.size,2,none⟩) (by show w.heap.size<_;omega)).trans (by simp);have hW:Below (w.heap.size+1) (w.alloc (.cells #[.int .i64 a, .int .i64 l, .slice (some ⟨b,o,none⟩) n c] 205)) (wr.alloc (.cells #[.int .i64 (cM ps k), .int .i64 (eF ps k)] 26)):=hB.trans ((bl1 wr _).mono hz);have g0:∀u:Ws (wr.heap.size+1) (wr.alloc (.cells #[.int .i64 (cM ps k), .int .i64 (eF ps k)] 26)),u.val.cell? ⟨w.heap.size,0,none⟩=some (.int .i64 a):=Ws.cell (by omega) (cell_later (bl1 wr _) e0);have g1:∀u:Ws (wr.heap.size+1) (wr.alloc (.cells #[.int .i64 (cM ps k), .int .i64 (eF ps k)] 26)),u.val.cell? ⟨w.heap.size,1,none⟩=some (.int .i64 l):=Ws.cell (by omega) (cell_later (bl1 wr _) e1);have g2:∀u:Ws (wr.heap.size+1) (wr.alloc (.cells #[.int .i64 (cM ps k), .int .i64 (eF ps k)] 26)),u.val.cell? ⟨w.heap.size,2,none⟩=some (.slice (some ⟨b,o,none⟩) n c):=Ws.cell (by omega) (cell_later (bl1 wr _) e2);have g3:∀u:Ws (wr.heap.size+1) (wr.alloc (.cells #[.int .i64 (cM ps k), .int .i64 (eF ps k)] 26)),u.val.cell? ⟨wr.heap.size,0,none⟩=some (.int .i64 (cM ps k)):=Ws.cell (by omega) (by simp);have g4:∀u:Ws (wr.heap.size+1) (wr.alloc (.cells #[.int .i64 (cM ps k), .int .i64 (eF ps k)] 26)),u.val.cell? ⟨wr.heap.size,1,none⟩=some (.int .i64 (eF ps k)):=Ws.cell (by omega) (by simp);have hlt':=hlt;go_upto_region 4 with fail
   clear e0 e1 e2 c0 c1 d0 d1;refine aH (wr.heap.size+1) (by kernel_rfl) (by kernel_rfl) ?_
   cases hI:iH (cM ps k) (eF ps k) a l
   ·repeat(go_big_quiet_step ((go_at_call 163;exact Calls.in_ws (by simp) (uA _ _ _ _ _ hI _))))
    refine wpQuiet_nil ?_;rintro _ ⟨u,rfl⟩;have hu:=hW.trans (u.property.mono (by omega));generalize u.val=wu at hu⊢;clear u g0 g1 g2 g3 g4;go_wp2;go_ret;exact⟨aM (LL (k:=k) (by omega) (by unfold nR;rw[hI];rfl)).symm,(bl1 w _).trans (hu.mono (by omega))⟩
   ·cases k with
    |zero=>
     repeat(go_big_quiet_step ((go_at_call 163;exact Calls.in_ws (by simp) (uA _ _ _ _ _ hI _))))
     refine wpQuiet_nil ?_
     rintro _ ⟨u,rfl⟩
     have hu:=hW.trans (u.property.mono (by omega))
     generalize u.val=wu at hu⊢
     clear u g0 g1 g2 g3 g4
     go_wp2
     go_roundw
     case rel=>exact⟨1,hlt',by go_num,hu,fun j hj=>by
      obtain rfl:j=0:=Nat.lt_one_iff.1 hj;unfold nR;rw[hI];rfl⟩
     case measure=>simp[intOf];omega
    |succ k'=>
     obtain⟨b2,o2,hbo,c2,c3⟩:=hp2.cells k' (by omega)
     simp only[Option.some.injEq,Addr.mk.injEq,and_true]at hbo
     obtain⟨rfl,rfl⟩:=hbo
     have t0:wr.cell? ⟨b,o+k'*2,none⟩=some (.int .i64 (cM ps k')):=(hB.cell (p:=⟨b,o+k'*2,none⟩) hbl).trans c2
     have t1:wr.cell? ⟨b,o+k'*2+1,none⟩=some (.int .i64 (eF ps k')):=(hB.cell (p:=⟨b,o+k'*2+1,none⟩) hbl).trans c3
     have g5:∀u:Ws (wr.heap.size+1) (wr.alloc (.cells #[.int .i64 (cM ps (k'+1)), .int .i64 (eF ps (k'+1))] 26)),u.val.cell? ⟨b,o+k'*2,none⟩=some (.int .i64 (cM ps k')):=Ws.cell (by omega) (cell_later (bl1 wr _) t0)
     have g6:∀u:Ws (wr.heap.size+1) (wr.alloc (.cells #[.int .i64 (cM ps (k'+1)), .int .i64 (eF ps (k'+1))] 26)),u.val.cell? ⟨b,o+k'*2+1,none⟩=some (.int .i64 (eF ps k')):=Ws.cell (by omega) (cell_later (bl1 wr _) t1)
     clear c2 c3 t0 t1
     cases hM:kL (cM ps k') (eF ps k') (cM ps (k'+1)) (eF ps (k'+1))
     all_goals repeat(go_big_quiet_step (first|(go_at_call 163;exact Calls.in_ws (by simp) (uA _ _ _ _ _ hI _))|(go_at_call 146;exact Calls.in_ws (by simp) (P6 _ _ _ _ _ hM _))))
     all_goals refine wpQuiet_nil ?_
     all_goals rintro _ ⟨u,rfl⟩
     all_goals have hu:=hW.trans (u.property.mono (by omega))
     all_goals generalize u.val=wu at hu⊢
     all_goals clear u g0 g1 g2 g3 g4 g5 g6
     all_goals go_wp2
     ·go_roundw
      case rel=>exact⟨k'+1+1,hlt',by go_num,hu,fun j hj=>by
       by_cases hj2:j<k'+1
       ·exact hok j hj2
       ·obtain rfl:j=k'+1:=by omega
        unfold nR;rw[hI,Nat.add_sub_cancel,hM];simp⟩
      case measure=>simp[intOf];omega
     ·go_ret;exact⟨aM (LL (k:=k'+1) (by omega) (by unfold nR;rw[hI,Nat.add_sub_cancel,hM];simp)).symm,(bl1 w _).trans (hu.mono (by omega))⟩
  ·have e2:wr.cell? ⟨w.heap.size,2,none⟩=some (.slice x n c):=(hB.cell (p:=⟨w.heap.size,2,none⟩) (by show w.heap.size<_;omega)).trans (by simp);have k2:∀q,(wr.alloc q).cell? ⟨w.heap.size,2,none⟩=some (.slice x n c):=fun q=>cell_later (bl1 wr q) e2;have hB2:Below (w.alloc (.cells #[.int .i64 a, .int .i64 l, .slice x n c] 205)).heap.size (w.alloc (.cells #[.int .i64 a, .int .i64 l, .slice x n c] 205)) wr:=by rw[World.size_alloc];exact hB
   have hpw:PS wr x n ps:=(hp.later (bl1 w _)).later hB2;go_wp2_with (go_at_call 231;refine(rise_any x n c ps wr.heap.size 1 _ (hpw.later (bl1 wr _)) (by omega) (by simp)).mono ?_;rintro e w1 ⟨rfl,hb1⟩);go_ret;exact⟨aM (QG (fun j hj=>hok j (by omega))).symm,(bl1 w _).trans ((hB.trans (((bl1 wr _).trans (hb1.mono (by simp))).mono hz)).mono (by omega))⟩
theorem apart_is(a l:Int)(x:Option Addr)(n c:Nat)(ps:List (Int×Int))(t:Bool)(h:eP a l ps=t)(w:World)(hp:PS w x n ps)(hn:n<=32):
  Calls Tryz.prog 185 #[.agg #[.int .i64 a, .int .i64 l, .slice x n c]] w fun e w'=>e= .returned (.bool t)/\Below w.heap.size w w':=by
 subst h;exact M8 a l x n c ps w hp hn
theorem F9(a l:Int)(x:Option Addr)(n c:Nat)(w:World)(hn:32<n):
  Calls Tryz.prog 119 #[.agg #[.int .i64 a, .int .i64 l, .slice x n c]] w fun e w'=>e= .returned (.int .i64 2)/\Below w.heap.size w w':=by
 have hi:(32:Int)<(n:Int):=by omega
 go_enter Tryz.func119,Tryz.ntmps119;go_wp2;go_ret;exact⟨rfl,bl1 _ _⟩
theorem I8(a l:Int)(x:Option Addr)(n c:Nat)(ps:List (Int×Int))(w:World)(hp:PS w x n ps)(hn:n<=32):
  Calls Tryz.prog 119 #[.agg #[.int .i64 a, .int .i64 l, .slice x n c]] w fun e w'=>e= .returned (.int .i64 (if rt a l&&eP a l ps then 0 else 1))/\Below w.heap.size w w':=by
 have hi:¬(32:Int)<(n:Int):=by omega
 cases hr:rt a l
 ·have hne:(tW a l !=0)=true:=lM hr;go_enter Tryz.func119,Tryz.ntmps119;go_wp2_with (go_at_call 82;refine(check_any a l _).mono ?_;rintro e w1 ⟨rfl,hb1⟩);go_ret;exact⟨rfl,(bl1 w _).trans (hb1.mono (by simp))⟩
 ·have hne:(tW a l !=0)=false:=lM hr
  cases hA:eP a l ps;all_goals go_enter Tryz.func119,Tryz.ntmps119
  all_goals go_wp2_with fail
  all_goals refine(check_any a l _).mono ?_
  all_goals rintro e w1 ⟨rfl,hb1⟩
  all_goals have hB:=(bl1 w _).trans (hb1.mono (by simp))
  all_goals have e0:w1.cell? ⟨w.heap.size,0,none⟩=some (.int .i64 a):=(hb1.cell (p:=⟨w.heap.size,0,none⟩) (by simp)).trans (by simp)
  all_goals have e1:w1.cell? ⟨w.heap.size,1,none⟩=some (.int .i64 l):=(hb1.cell (p:=⟨w.heap.size,1,none⟩) (by simp)).trans (by simp)
  all_goals have e2:w1.cell? ⟨w.heap.size,2,none⟩=some (.slice x n c):=(hb1.cell (p:=⟨w.heap.size,2,none⟩) (by simp)).trans (by simp)
  all_goals go_wp2_with (go_at_call 185;refine(apart_is a l x n c ps _ hA _ (hp.later hB) hn).mono ?_;rintro e w2 ⟨rfl,hb2⟩)
  all_goals go_ret
  all_goals exact⟨rfl,hB.trans (hb2.mono hB.size)⟩
theorem yJ(a l:Int)(x:Option Addr)(n c:Nat)(ps:List (Int×Int))(w:World)(hp:n<=32->PS w x n ps):
  Calls Tryz.prog 119 #[.agg #[.int .i64 a, .int .i64 l, .slice x n c]] w fun e w'=>e= .returned (.int .i64 (kM a l n ps))/\Below w.heap.size w w':=by
 unfold kM;by_cases h:32<n
 ·rw[if_pos h];exact F9 a l x n c w h
 ·rw[if_neg h];exact I8 a l x n c ps w (hp (by omega)) (by omega)
open Go.RowKit Go.Shelf
attribute [local go_sem] Oper.semAt_some
def xD(H:List (Int×Int)):List Value:=H.flatMap fun h=>[.int .i64 h.1, .int .i64 h.2]
theorem GA(H G:List (Int×Int)):xD (H++G)=xD H++xD G:=by simp[xD]
theorem GB(H:List (Int×Int))(i:Nat)(hi:i<H.length):(xD H)[i*2]?=some (.int .i64 (cM H i))/\(xD H)[i*2+1]?=some (.int .i64 (eF H i)):=by
 induction H generalizing i with
 |nil=>cases hi
 |cons h t ih=>
  have e:xD (h::t)= .int .i64 h.1:: .int .i64 h.2::xD t:=by simp[xD]
  rw[e]
  cases i with
  |zero=>exact⟨rfl,rfl⟩
  |succ i=>
   have:=ih i (by simpa using hi)
   have e1:(i+1)*2=i*2+1+1:=by omega
   rw[e1]
   simpa[cM,eF]using this
theorem U4{β:Type}{B base:Nat}{e:TypeId}{size:Nat}{v:Value}{n:Nat}{xs:List Value}:OwnFrom B (fun(_:β) W=>W.ownsRow base e size v n xs):=
 fun _ X Y row hs hg hr=>⟨hs.1,hs.2.imp id (fun⟨g,cap,cur,h1,h2,h3,h4⟩=>⟨g,cap,cur,h1,h2,(hg.block g (zG h3) (fun e=>by
  obtain⟨o,ho,hc⟩:=(hr g e.symm).2;rw[h3]at ho
  cases ho
  cases hc)).trans h3,h4⟩)⟩
theorem PS.of_own(h:w.ownsRow base 26 2 v H.length (xD H)):∃x c,v= .slice x H.length c/\PS w x H.length H/\(∀q,x=some q->base<=q.block/\q.block<w.heap.size)/\H.length<=c/\c<=9223372036854775807:=by
 rcases h.2 with ⟨rfl,h0⟩|⟨g,cap,cur,rfl,hb,hg,hn,hc,hs,ht⟩
 ·refine⟨none,0,by rw[h0],⟨rfl,fun i hi=>?_⟩,(fun q hq=>by cases hq),by omega,by omega⟩;omega
 ·refine⟨some ⟨g,0,none⟩,cap,rfl,⟨rfl,fun i hi=>⟨g,0,rfl,?_,?_⟩⟩,fun q hq=>by cases hq;exact⟨hb,(zG hg)⟩,hn,by unfold maxLen at hc;omega⟩
  ·have h1:=(GB H i hi).1;rw[<-ht,List.getElem?_take_of_lt (by omega)]at h1;simp only[World.cell?,hg,Nat.zero_add];rw[<-h1];simp
  ·have h1:=(GB H i hi).2;rw[<-ht,List.getElem?_take_of_lt (by omega)]at h1;simp only[World.cell?,hg,Nat.zero_add];rw[<-h1];simp
theorem GC:(Tryz.prog.info? 26).map (fun i=>(i.zero,i.size,i.bytes))=some (some (.agg #[.int .i64 0, .int .i64 0]),2,16):=by kernel_rfl
theorem EC:∃i,Tryz.prog.info? 26=some i/\i.zero=some (.agg #[.int .i64 0, .int .i64 0])/\i.size=2/\i.bytes=16:=by
 obtain⟨i,hi,h⟩:=Option.map_eq_some_iff.1 GC;simp only[Prod.mk.injEq]at h;exact⟨i,hi,h.1,h.2.1,h.2.2⟩
theorem yK:Tryz.prog.underlying 203=some (.slice 26):=by kernel_rfl
theorem gV{a l:Int}{ps:List (Int×Int)}(h:kM a l n ps=0):n<=32/\rt a l=true/\eP a l ps=true:=by
 unfold kM at h;by_cases h1:32<n
 ·rw[if_pos h1]at h;cases h
 ·rw[if_neg h1]at h
  cases h2:rt a l<;>cases h3:eP a l ps<;>simp[h2,h3]at h;exact⟨by omega,rfl,rfl⟩
theorem jM(h:Below w.heap.size w V){b:Nat}(hb:w.heap.size<=b)(p q:Value):Below w.heap.size w ((V.setCell ⟨b,0,none⟩ p).setCell ⟨b,1,none⟩ q):=
 (h.setCell (p:=⟨b,0,none⟩) hb p).setCell (p:=⟨b,1,none⟩) hb q
theorem pG{a l z:Int}
 (hb1:Below (((w.alloc (.cells #[.int .i64 a, .int .i64 l, .slice x n c] 205)).alloc (.cells #[.int .i64 z] 3)).alloc (.cells #[.int .i64 0, .int .i64 0] 26)).heap.size (((w.alloc (.cells #[.int .i64 a, .int .i64 l, .slice x n c] 205)).alloc (.cells #[.int .i64 z] 3)).alloc (.cells #[.int .i64 0, .int .i64 0] 26)) w1):
  w1.cell? ⟨w.heap.size,0,none⟩=some (.int .i64 a)/\w1.cell? ⟨w.heap.size,1,none⟩=some (.int .i64 l)/\w1.cell? ⟨w.heap.size,2,none⟩=some (.slice x n c)/\w1.cell? ⟨w.heap.size+1,0,none⟩=some (.int .i64 z)/\w1.heap[w.heap.size+1+1]?=some (.cells #[.int .i64 0, .int .i64 0] 26)/\w.heap.size+3<=w1.heap.size:=by
 have h0:(((w.alloc (.cells #[.int .i64 a, .int .i64 l, .slice x n c] 205)).alloc (.cells #[.int .i64 z] 3)).alloc (.cells #[.int .i64 0, .int .i64 0] 26)).heap[w.heap.size]?=some (.cells #[.int .i64 a, .int .i64 l, .slice x n c] 205):=aG _ (aG _ (aB _ rfl));have h1:(((w.alloc (.cells #[.int .i64 a, .int .i64 l, .slice x n c] 205)).alloc (.cells #[.int .i64 z] 3)).alloc (.cells #[.int .i64 0, .int .i64 0] 26)).heap[w.heap.size+1]?=some (.cells #[.int .i64 z] 3):=aG _ (aB _ (by simp));have h2:(((w.alloc (.cells #[.int .i64 a, .int .i64 l, .slice x n c] 205)).alloc (.cells #[.int .i64 z] 3)).alloc (.cells #[.int .i64 0, .int .i64 0] 26)).heap[w.heap.size+1+1]?=some (.cells #[.int .i64 0, .int .i64 0] 26):=aB _ (by simp);have g0:=(hb1.block _ (zG h0)).trans h0;have g1:=(hb1.block _ (zG h1)).trans h1;have g2:=(hb1.block _ (zG h2)).trans h2;have hs:=hb1.size;simp only[World.size_alloc]at hs;refine⟨by simp[World.cell?,g0],by simp[World.cell?,g0],by simp[World.cell?,g0],by simp[World.cell?,g1],g2,by omega⟩
def uD(a l:Int)(n:Nat)(ps:List (Int×Int))(z:Int):Int:=if kM a l n ps=0 then(if z<l\/16<z then 3 else 0)else kM a l n ps
def X2(z:Int):Option Int->Int->Value
 |some x,_=> .tuple #[.agg #[.int .i64 x, .int .i64 z], .bool true, .int .i64 0]
 |none,e=> .tuple #[.agg #[.int .i64 0, .int .i64 0], .bool false, .int .i64 e]
def uE(a l:Int)(n:Nat)(ps:List (Int×Int))(z:Int):Option Int:=if uD a l n ps z=0 then((hol ps (16- l).toNat a l).find? fun h=>decide (h.2<=z)).map (·.1)else none
theorem U5(a l:Int)(x:Option Addr)(n c:Nat)(ps:List (Int×Int))(z:Int)(w:World)(hp:n<=32->PS w x n ps):
  Calls Tryz.prog 200 #[.agg #[.int .i64 a, .int .i64 l, .slice x n c], .int .i64 z] w fun e w'=>
   e= .returned (X2 z (uE a l n ps z) (uD a l n ps z))/\Below w.heap.size w w':=by
 have hck:=yJ a l x n c ps;have hb3:∀(w:World) (o p q:Obj),Below w.heap.size w (((w.alloc o).alloc p).alloc q):=fun w o p q=>(bO w o p).alloc (by simp;omega) q;by_cases hv:kM a l n ps=0
 ·obtain⟨hn,hr, -⟩:=gV hv;have hp':=hp hn;rw[hv]at hck;by_cases hz1:z<l
  ·have hE:uD a l n ps z=3:=by unfold uD;rw[if_pos hv,if_pos (.inl hz1)]
   have hS:uE a l n ps z=none:=by unfold uE;rw[hE];rfl
   rw[hE,hS];go_enter Tryz.func200,Tryz.ntmps200;go_wp2_with fail;refine(hck _ (fun h=>(hp h).later (hb3 w _ _ _))).mono ?_;rintro e w1 ⟨rfl,hb1⟩;have hB:=(hb3 w (.cells #[.int .i64 a, .int .i64 l, .slice x n c] 205) (.cells #[.int .i64 z] 3) (.cells #[.int .i64 0, .int .i64 0] 26)).trans (hb1.mono (by simp;omega));obtain⟨e0,e1,e2,ez,er,hsz⟩:=pG hb1;obtain⟨f0,f1,z0,z1⟩:=nQ er;go_wp2;refine bodyPost_ret (v:= .tuple #[.agg #[.int .i64 0, .int .i64 0], .bool false, .int .i64 3]) (by simp[results,Tryz.results200,go_sem,f0,f1]) rfl ⟨rfl,?_⟩;exact jM hB (by omega) _ _
  ·by_cases hz2:16<z
   ·have hE:uD a l n ps z=3:=by unfold uD;rw[if_pos hv,if_pos (.inr hz2)]
    have hS:uE a l n ps z=none:=by unfold uE;rw[hE];rfl
    rw[hE,hS];go_enter Tryz.func200,Tryz.ntmps200;go_wp2_with fail;refine(hck _ (fun h=>(hp h).later (hb3 w _ _ _))).mono ?_;rintro e w1 ⟨rfl,hb1⟩;have hB:=(hb3 w (.cells #[.int .i64 a, .int .i64 l, .slice x n c] 205) (.cells #[.int .i64 z] 3) (.cells #[.int .i64 0, .int .i64 0] 26)).trans (hb1.mono (by simp;omega));obtain⟨e0,e1,e2,ez,er,hsz⟩:=pG hb1;obtain⟨f0,f1,z0,z1⟩:=nQ er;go_wp2;refine bodyPost_ret (v:= .tuple #[.agg #[.int .i64 0, .int .i64 0], .bool false, .int .i64 3]) (by simp[results,Tryz.results200,go_sem,f0,f1]) rfl ⟨rfl,?_⟩;exact jM hB (by omega) _ _
   ·have hE:uD a l n ps z=0:=by unfold uD;rw[if_pos hv,if_neg (by omega)]
    have hS:uE a l n ps z=((hol ps (16- l).toNat a l).find? fun h=>decide (h.2<=z)).map (·.1):=by unfold uE;rw[hE];rfl
    rw[hE,hS];go_enter Tryz.func200,Tryz.ntmps200;go_wp2_with fail;refine(hck _ (fun h=>(hp h).later (hb3 w _ _ _))).mono ?_;rintro e w1 ⟨rfl,hb1⟩;have hB:=(hb3 w (.cells #[.int .i64 a, .int .i64 l, .slice x n c] 205) (.cells #[.int .i64 z] 3) (.cells #[.int .i64 0, .int .i64 0] 26)).trans (hb1.mono (by simp;omega));obtain⟨e0,e1,e2,ez,er,hsz⟩:=pG hb1;obtain⟨f0,f1,z0,z1⟩:=nQ er;go_wp2_with fail;have hfi:=callsIn_wide.1 (M6 a l z x n c ps hr (by omega) (w.heap.size+1) 0 w1 (hp'.later hB) ez);unfold CI at hfi;refine hfi.mono ?_;rintro e w2 ⟨rfl,hb2⟩;have hC:=hB.trans (hb2.mono hB.size);have er2:=(hb2.block _ (zG er)).trans er;have ez2:=cell_later hb2 ez;have hsz2:=hb2.size;clear e0 e1 e2 ez f0 f1 z0 z1 hb1
    cases hfind:(hol ps (16- l).toNat a l).find? fun h=>decide (h.2<=z)
    ·simp only[qU];have er3:∀o,(w2.alloc o).heap[w.heap.size+1+1]?=some (.cells #[.int .i64 0, .int .i64 0] 26):=fun o=>aG o er2;have f0:∀o,(w2.alloc o).cell? ⟨w.heap.size+1+1,0,none⟩=some (.int .i64 0):=fun o=>(nQ (er3 o)).1;have f1:∀o,(w2.alloc o).cell? ⟨w.heap.size+1+1,1,none⟩=some (.int .i64 0):=fun o=>(nQ (er3 o)).2.1;have z0:∀o,(w2.alloc o).frozen? ⟨w.heap.size+1+1,0,none⟩=false:=fun o=>(nQ (er3 o)).2.2.1;have z1:∀o,(w2.alloc o).frozen? ⟨w.heap.size+1+1,1,none⟩=false:=fun o=>(nQ (er3 o)).2.2.2;go_wp2;refine bodyPost_ret (v:= .tuple #[.agg #[.int .i64 0, .int .i64 0], .bool false, .int .i64 0]) (by simp[results,Tryz.results200,go_sem,f0,f1]) rfl ⟨by rw[hfind];rfl,?_⟩;exact jM (hC.trans ((bl1 w2 _).mono hC.size)) (by omega) _ _
    ·rename_i h;simp only[qU];have er3:∀o,(w2.alloc o).heap[w.heap.size+1+1]?=some (.cells #[.int .i64 0, .int .i64 0] 26):=fun o=>aG o er2;have f0:∀o,(w2.alloc o).cell? ⟨w.heap.size+1+1,0,none⟩=some (.int .i64 0):=fun o=>(nQ (er3 o)).1;have f1:∀o,(w2.alloc o).cell? ⟨w.heap.size+1+1,1,none⟩=some (.int .i64 0):=fun o=>(nQ (er3 o)).2.1;have z0:∀o,(w2.alloc o).frozen? ⟨w.heap.size+1+1,0,none⟩=false:=fun o=>(nQ (er3 o)).2.2.1;have z1:∀o,(w2.alloc o).frozen? ⟨w.heap.size+1+1,1,none⟩=false:=fun o=>(nQ (er3 o)).2.2.2;have ez3:∀o,(w2.alloc o).cell? ⟨w.heap.size+1,0,none⟩=some (.int .i64 z):=fun o=>cell_later (bl1 w2 o) ez2;go_wp2;refine bodyPost_ret (v:= .tuple #[.agg #[.int .i64 h.1, .int .i64 z], .bool true, .int .i64 0]) (by simp[results,Tryz.results200,go_sem,f0,f1]) rfl ⟨by rw[hfind];rfl,?_⟩;exact jM (hC.trans ((bl1 w2 _).mono hC.size)) (by omega) _ _
 ·have hE:uD a l n ps z=kM a l n ps:=by unfold uD;rw[if_neg hv]
  have hS:uE a l n ps z=none:=by unfold uE;rw[hE,if_neg hv]
  rw[hE,hS];have hb:(kM a l n ps !=0)=true:=by simpa using hv
  have hb':(kM a l n ps==0)=false:=by simpa using hv
  clear hE hS;generalize kM a l n ps=v at hck hb hb' hv⊢;go_enter Tryz.func200,Tryz.ntmps200;go_wp2_with fail;refine(hck _ (fun h=>(hp h).later (hb3 w _ _ _))).mono ?_;rintro e w1 ⟨rfl,hb1⟩;have hB:=(hb3 w (.cells #[.int .i64 a, .int .i64 l, .slice x n c] 205) (.cells #[.int .i64 z] 3) (.cells #[.int .i64 0, .int .i64 0] 26)).trans (hb1.mono (by simp;omega));obtain⟨e0,e1,e2,ez,er,hsz⟩:=pG hb1;obtain⟨f0,f1,z0,z1⟩:=nQ er;go_wp2;refine bodyPost_ret (v:= .tuple #[.agg #[.int .i64 0, .int .i64 0], .bool false, .int .i64 v]) (by simp[results,Tryz.results200,go_sem,f0,f1]) rfl ⟨rfl,?_⟩;exact jM hB (by omega) _ _
theorem under_int:Tryz.prog.underlying 3=some (.int .i64):=by kernel_rfl
theorem jN(b o j:Nat):(⟨b,o,none⟩:Addr).add j=⟨b,o+j,none⟩:=by
 unfold Addr.add;split
 ·simp_all
 ·rfl
theorem BR:Tryz.prog.underlying 26=some (.struct (Tryz.prog.fieldsOf 26)):=by kernel_rfl
theorem GD:Tryz.prog.stoodInHeld 26=false:=by kernel_rfl
theorem CJ(a l c m:Int)(w:World):(binOp .eql 26 (.agg #[.int .i64 a, .int .i64 l]) (.agg #[.int .i64 c, .int .i64 m])).run Tryz.prog w= .ok (.bool (decide (a=c)&&decide (l=m))) w:=by
 rw[run_eql_struct,show(10000:Nat)=9999+1 from rfl,run_equalIn_agg w 9999 _ _ _ BR GD];simp only[Program.fieldsOf,Tryz.underlying26];go_simp;by_cases h1:a=c<;>by_cases h2:l=m<;>simp[h1,h2]
theorem ED:Tryz.prog.eqGuardType Tryz.prog.depth 26=false:=by kernel_rfl
theorem sB(op:BinOp)(x y:Operand)(p q:Array Value)(w:World):(eqGuard op 26 x y (.agg p) (.agg q)).run Tryz.prog w= .ok () w:=by
 have h:=ED;unfold eqGuard
 cases op<;>simp[go_sem,h]
theorem QH{p q r:Value}(h:V.heap[b]?=some (.cells #[p,q,r] t)):V.cell? ⟨b,0,none⟩=some p/\V.cell? ⟨b,1,none⟩=some q/\V.cell? ⟨b,2,none⟩=some r/\V.frozen? ⟨b,0,none⟩=false/\V.frozen? ⟨b,1,none⟩=false/\V.frozen? ⟨b,2,none⟩=false:=by
 simp[World.cell?,World.frozen?,h]
theorem I9(h:Below w.heap.size w V){b:Nat}(hb:w.heap.size<=b)(p q r:Value):Below w.heap.size w (((V.setCell ⟨b,0,none⟩ p).setCell ⟨b,1,none⟩ q).setCell ⟨b,2,none⟩ r):=
 ((h.setCell (p:=⟨b,0,none⟩) hb p).setCell (p:=⟨b,1,none⟩) hb q).setCell (p:=⟨b,2,none⟩) hb r
theorem PS.set3{ps:List (Int×Int)}(h:PS V x n ps)(hb:∀q,x=some q->q.block≠b)(p q r:Value):PS (((V.setCell ⟨b,0,none⟩ p).setCell ⟨b,1,none⟩ q).setCell ⟨b,2,none⟩ r) x n ps where
 len:=h.len
 cells:=fun i hi=>by
  obtain⟨b',o,hx,c0,c1⟩:=h.cells i hi;have hne:b'≠b:=hb _ hx;exact⟨b',o,hx,by rw[aY hne,aY hne,aY hne];exact c0,by rw[aY hne,aY hne,aY hne];exact c1⟩
structure XE(ps:List (Int×Int))(c m:Int)(qs:List (Int×Int)):Prop where
 ex:∃i,i<=ps.length/\(∀j,j<i->¬c<cM ps j)/\(i<ps.length->c<cM ps i)/\qs=ps.take i++[(c,m)]++ps.drop i
open Go.ChangeShapes Go.WideShapes Go.ChangeAt Go.RowKit Go.Joins
theorem own:ownKnob Tryz.prog.godebug=none:=by kernel_rfl
theorem U6:laidOutB Tryz.prog=true:=by kernel_rfl
theorem X4:Tryz.prog.cellsOf 26=2:=by kernel_rfl
theorem QI:Tryz.prog.cellsOf 3=1:=by kernel_rfl
theorem QJ{n:Int}(h:(Lit.int .i64 n).wf=true): -9223372036854775808<=n/\n<=9223372036854775807:=by
 have h1:IntKind.i64.min= -9223372036854775808:=by rfl
 have h2:IntKind.i64.max=9223372036854775807:=by rfl
 simp[Lit.wf]at h;omega
theorem GE{ps:List (Int×Int)}{a l:Int}(h:nP ps a l):eP a l ps=true:=by
 refine MZ fun j hj=>?_;have h1:=h.inn ps[j] (List.getElem_mem hj);unfold MY;rw[iT hj,mE hj,h1,Bool.true_and]
 cases j with
 |zero=>rfl
 |succ j=>
  have hr:=List.pairwise_iff_getElem.1 h.rise j (j+1) (by omega) hj (by omega)
  have hp:=cJ ps[j].2
  rw[Nat.add_sub_cancel,iT (by omega),mE (by omega)]
  simp only[Bool.or_eq_true,zH,decide_eq_true_eq,Bool.not_eq_true']
  right
  refine⟨by omega,yH fun hm=>?_⟩
  have:=yG hm
  omega
theorem GF{ps:List (Int×Int)}{a l c:Int}(h:nP ps a l)(hi:iH c m a l=true)(hf:mtsAny c m ps=false)(hp:XE ps c m qs):nP qs a l:=by
 obtain⟨i,hin,hlow,hup,rfl⟩:=hp.ex;have rc:=(bF hi).1;have pm:=cJ m;have hno:∀u∈ps,kL c m u.1 u.2=false:=fun u hu=>yH fun h1=>by
  have:=jL.2 ⟨u,hu,h1⟩;rw[this]at hf;cases hf
 have hA:∀u∈ps.take i,u.1+sp u.2<=c:=fun u hu=>by
  obtain⟨j,hj,rfl⟩:=List.getElem_of_mem hu;rw[List.length_take]at hj;have hj':j<ps.length:=by omega
  rw[List.getElem_take];have h1:=hlow j (by omega);rw[iT hj']at h1;have h2:=hno ps[j] (List.getElem_mem hj');have ru:=(bF (h.inn ps[j] (List.getElem_mem hj'))).1;by_cases h3:ps[j].1+sp ps[j].2<=c
  ·exact h3
  ·have:=D4 rc ru (by omega) (by omega);rw[this]at h2;cases h2
 have hB:∀u∈ps.drop i,c+sp m<=u.1:=fun u hu=>by
  obtain⟨j,hj,rfl⟩:=List.getElem_of_mem hu;rw[List.length_drop]at hj;have hj':i+j<ps.length:=by omega
  have hi':i<ps.length:=by omega
  rw[List.getElem_drop];have h1:=hup hi';rw[iT hi']at h1;have h4:ps[i].1<=ps[i+j].1:=by
   rcases Nat.eq_zero_or_pos j with h0|h0
   ·subst h0;exact Int.le_refl _
   ·have:=List.pairwise_iff_getElem.1 h.rise i (i+j) hi' hj' (by omega);have:=cJ ps[i].2;omega
  have h2:=hno ps[i+j] (List.getElem_mem hj');have ru:=(bF (h.inn ps[i+j] (List.getElem_mem hj'))).1;by_cases h3:c+sp m<=ps[i+j].1
  ·exact h3
  ·have:=D4 rc ru (by have:=cJ ps[i+j].2;omega) (by omega);rw[this]at h2;cases h2
 refine⟨fun u hu=>?_,?_⟩
 ·simp only[List.mem_append,List.mem_singleton]at hu;rcases hu with (hu|rfl)|hu
  ·exact h.inn u (List.mem_of_mem_take hu)
  ·exact hi
  ·exact h.inn u (List.mem_of_mem_drop hu)
 ·rw[List.append_assoc,List.pairwise_append];refine⟨h.rise.sublist (List.take_sublist i ps),?_,fun u hu v hv=>?_⟩
  ·rw[List.singleton_append,List.pairwise_cons];exact⟨fun v hv=>hB v hv,h.rise.sublist (List.drop_sublist i ps)⟩
  ·simp only[List.singleton_append,List.mem_cons]at hv;rcases hv with rfl|hv
   ·exact hA u hu
   ·have:=hA u hu;have:=hB v hv;omega
theorem M9{ps:List (Int×Int)}(hk:k<ps.length):ps.take (k+1)=ps.take k++[(cM ps k,eF ps k)]:=by
 rw[List.take_add_one,List.getElem?_eq_getElem hk,iT hk,mE hk];rfl
def gE(w V:World)(a l:Int)(o:List (Int×Int))(x:Option Addr)(c:Nat):Prop:=
 V.heap[w.heap.size]?=some (.cells #[.int .i64 a, .int .i64 l, .slice x o.length c] 205)/\V.ownsRow (w.heap.size+1) 26 2 (.slice x o.length c) o.length (xD o)/\Below w.heap.size w V
theorem gE.start(w:World)(a l:Int):gE w (w.alloc (.cells #[.int .i64 a, .int .i64 l, .slice none 0 0] 205)) a l [] none 0:=
 ⟨aB _ rfl,World.ownsRow_nil _ _ _ _,bl1 w _⟩
theorem gE.later{a l:Int}(h:gE w V a l o x c)(hb:Below V.heap.size V V'):gE w V' a l o x c:=
 ⟨(hb.block _ (zG h.1)).trans h.1,U4 (B:=0) () V V' none h.2.1 (eI hb) (fun r e=>by cases e),h.2.2.trans (hb.mono h.2.2.size)⟩
theorem gE.append{w5:World}{a l c:Int}(h:gE w V a l o x k)
 (hown:w5.ownsRow (w.heap.size+1) 26 2 v' (o.length+1) (xD o++[.int .i64 c, .int .i64 m]))(hg:(V.alloc (.cells #[.int .i64 c, .int .i64 m] 26)).grownBy w5 (Value.slice x o.length k).ownBlock):
  ∃x' k',v'= .slice x' (o.length+1) k'/\w5.cell? ⟨w.heap.size,2,none⟩=some (.slice x o.length k)/\w5.frozen? ⟨w.heap.size,2,none⟩=false/\Below w.heap.size w w5/\
   gE w (w5.setCell ⟨w.heap.size,2,none⟩ (.slice x' (o.length+1) k')) a l (o++[(c,m)]) x' k':=by
 have hne:(Value.slice x o.length k).ownBlock≠some w.heap.size:=fun e=>by have:=(h.2.1.lt _ e).1;omega
 have hlt:w.heap.size<V.heap.size:=(zG h.1);have e5:w5.heap[w.heap.size]?=some (.cells #[.int .i64 a, .int .i64 l, .slice x o.length k] 205):=(hg.block _ (by simp;omega) (fun e=>hne e.symm)).trans (aG _ h.1);have hgs:=hg.size;rw[World.size_alloc]at hgs;have hb5:Below w.heap.size w w5:=⟨hg.os.trans h.2.2.os,hg.tape.trans h.2.2.tape,hg.output.trans h.2.2.output,by omega,fun j hj=>
  ((hg.block j (by simp;omega) (fun e=>by have:=(h.2.1.lt _ e.symm).1;omega)).trans (Below.heap_alloc _ _ _ (by omega))).trans (h.2.2.block j hj)⟩
 have hv:v'.ownBlock≠some w.heap.size:=fun e=>by have:=(hown.lt _ e).1;omega
 obtain⟨x',k',rfl⟩:∃x' k',v'= .slice x' (o.length+1) k':=by
  rcases hown.2 with ⟨_,h0⟩|⟨g,cap,cur,rfl,_⟩
  ·omega
  ·exact⟨_,_,rfl⟩
 refine⟨x',k',rfl,(QH e5).2.2.1,(QH e5).2.2.2.2.2,hb5,?_,?_,hb5.setCell (p:=⟨w.heap.size,2,none⟩) (zE) _⟩
 ·have:=heap_setCell_same w5 w.heap.size 2 _ _ (.slice x' (o.length+1) k') e5;rw[List.length_append,List.length_singleton];simpa using this
 ·rw[List.length_append,List.length_singleton,GA];exact ownsRow_setCell_other hown hv _
theorem gE.ps{a l:Int}(h:gE w V a l o x c):PS V x o.length o/\(∀q,x=some q->w.heap.size+1<=q.block):=by
 obtain⟨x',c',e,hps,hfr,_⟩:=PS.of_own h.2.1
 cases e;exact⟨hps,fun q hq=>(hfr q hq).1⟩
structure Le where
 a:Int
 l:Int
 kd:Int
 ow:Int
 un:Int
def leZ:Le:=⟨0,0,0,0,0⟩
structure Po where
 id:Int
 up:Int
 a:Int
 l:Int
 mn:Int
 mx:Int
 us:Int
 co:Int
 x:Option Addr
 n:Nat
 c:Nat
 ls:List Le
def poZ:Po:=⟨0,0,0,0,0,0,0,0,none,0,0,[]⟩
def aN(ls:List Le)(i:Nat):Le:=ls.getD i leZ
def poAt(ps:List Po)(i:Nat):Po:=ps.getD i poZ
structure LS(w:World)(x:Option Addr)(n:Nat)(ls:List Le):Prop where
 len:ls.length=n
 cells:∀i,i<n->∃b o,x=some ⟨b,o,none⟩/\w.cell? ⟨b,o+i*5,none⟩=some (.int .i64 (aN ls i).a)/\w.cell? ⟨b,o+i*5+1,none⟩=some (.int .i64 (aN ls i).l)/\
  w.cell? ⟨b,o+i*5+2,none⟩=some (.int .i64 (aN ls i).kd)/\w.cell? ⟨b,o+i*5+3,none⟩=some (.int .i64 (aN ls i).ow)/\w.cell? ⟨b,o+i*5+4,none⟩=some (.int .i64 (aN ls i).un)
theorem LS.later{ls:List Le}(h:LS w x n ls)(hb:Below w.heap.size w w'):LS w' x n ls where
 len:=h.len
 cells:=fun i hi=>by
  obtain⟨b,o,hx,c0,c1,c2,c3,c4⟩:=h.cells i hi;exact⟨b,o,hx,cell_later hb c0,cell_later hb c1,cell_later hb c2,cell_later hb c3,cell_later hb c4⟩
theorem LS.idx{ps:List Le}(h:LS w x n ps):∀i,i<n->∃b o,x=some ⟨b,o,none⟩/\∀q,q<5->w.cell? ⟨b,o+i*5+q,none⟩=some ([.int .i64 (aN ps i).a, .int .i64 (aN ps i).l, .int .i64 (aN ps i).kd, .int .i64 (aN ps i).ow, .int .i64 (aN ps i).un].getD q (.bool true)):=fun i hi=>by
 obtain⟨b,o,hx,d0,d1,d2,d3,d4⟩:=h.cells i hi;exact⟨b,o,hx,by rintro(_|_|_|_|_|q) hq<;>first|assumption|omega⟩
structure mX(w:World)(x:Option Addr)(n:Nat)(ps:List Po):Prop where
 len:ps.length=n
 cells:∀i,i<n->∃b o,x=some ⟨b,o,none⟩/\w.cell? ⟨b,o+i*9,none⟩=some (.int .i64 (poAt ps i).id)/\w.cell? ⟨b,o+i*9+1,none⟩=some (.int .i64 (poAt ps i).up)/\
  w.cell? ⟨b,o+i*9+2,none⟩=some (.int .i64 (poAt ps i).a)/\w.cell? ⟨b,o+i*9+3,none⟩=some (.int .i64 (poAt ps i).l)/\w.cell? ⟨b,o+i*9+4,none⟩=some (.int .i64 (poAt ps i).mn)/\
  w.cell? ⟨b,o+i*9+5,none⟩=some (.int .i64 (poAt ps i).mx)/\w.cell? ⟨b,o+i*9+6,none⟩=some (.int .i64 (poAt ps i).us)/\w.cell? ⟨b,o+i*9+7,none⟩=some (.int .i64 (poAt ps i).co)/\
  w.cell? ⟨b,o+i*9+8,none⟩=some (.slice (poAt ps i).x (poAt ps i).n (poAt ps i).c)
 leases:∀i,i<n->(poAt ps i).n<=(poAt ps i).c/\(poAt ps i).n<=1048576/\LS w (poAt ps i).x (poAt ps i).n (poAt ps i).ls
theorem mX.later{ps:List Po}(h:mX w x n ps)(hb:Below w.heap.size w w'):mX w' x n ps where
 len:=h.len
 cells:=fun i hi=>by
  obtain⟨b,o,hx,c0,c1,c2,c3,c4,c5,c6,c7,c8⟩:=h.cells i hi;exact⟨b,o,hx,cell_later hb c0,cell_later hb c1,cell_later hb c2,cell_later hb c3,cell_later hb c4,cell_later hb c5,cell_later hb c6,cell_later hb c7,cell_later hb c8⟩
 leases:=fun i hi=>⟨(h.leases i hi).1,(h.leases i hi).2.1,(h.leases i hi).2.2.later hb⟩
theorem mX.idx{ps:List Po}(h:mX w x n ps):∀i,i<n->∃b o,x=some ⟨b,o,none⟩/\∀q,q<9->w.cell? ⟨b,o+i*9+q,none⟩=some ([.int .i64 (poAt ps i).id, .int .i64 (poAt ps i).up, .int .i64 (poAt ps i).a, .int .i64 (poAt ps i).l, .int .i64 (poAt ps i).mn, .int .i64 (poAt ps i).mx, .int .i64 (poAt ps i).us, .int .i64 (poAt ps i).co, .slice (poAt ps i).x (poAt ps i).n (poAt ps i).c].getD q (.bool true)):=fun i hi=>by
 obtain⟨b,o,hx,d0,d1,d2,d3,d4,d5,d6,d7,d8⟩:=h.cells i hi;exact⟨b,o,hx,by rintro(_|_|_|_|_|_|_|_|_|q) hq<;>first|assumption|omega⟩
def aO(ps:List Po)(id:Int):Int:=match ps.findIdx? (fun p=>p.id==id)with |some i=>i|none=> -1
theorem nS{ps:List Po}{id:Int}(hi:i<ps.length)(h:(poAt ps i).id=id)(hno:∀j,j<i->(poAt ps j).id≠id):aO ps id=i:=by
 unfold aO;have hf:ps.findIdx? (fun p=>p.id==id)=some i:=by
  rw[List.findIdx?_eq_some_iff_getElem];refine⟨hi,?_,fun j hj=>?_⟩
  ·have:poAt ps i=ps[i]:=by unfold poAt;simp[List.getD,hi]
   rw[<-this];simpa using h
  ·have:poAt ps j=ps[j]:=by unfold poAt;simp[List.getD,Nat.lt_trans hj hi]
   rw[<-this];simpa using hno j hj
 rw[hf]
theorem sC{ps:List Po}{id:Int}(hno:∀j,j<ps.length->(poAt ps j).id≠id):aO ps id= -1:=by
 unfold aO;have hf:ps.findIdx? (fun p=>p.id==id)=none:=by
  rw[List.findIdx?_eq_none_iff];intro p hp;obtain⟨j,hj,rfl⟩:=List.getElem_of_mem hp;have:poAt ps j=ps[j]:=by unfold poAt;simp[List.getD,hj]
  rw[<-this];simpa using hno j hj
 rw[hf]
theorem isId_any(v:Int)(w:World):Calls Tryz.prog 81 #[.int .i64 v] w fun e w'=>e= .returned (.bool (dE v 1 65536))/\w'=w:=by
 unfold dE;by_cases h:1<=v
 ·have hd:decide (1<=v)=true:=by simpa using h
  go_enter Tryz.func81,Tryz.ntmps81;go_wp2;go_ret;exact⟨by first|rfl|(rw[hd];rfl),rfl⟩
 ·have hd:decide (1<=v)=false:=by simpa using h
  go_enter Tryz.func81,Tryz.ntmps81;go_wp2;go_ret;exact⟨by first|rfl|(rw[hd];rfl),rfl⟩
def dC(mn mx us co l:Int):Bool:=decide (l<=mn)&&decide (mn<=us)&&decide (us<=mx)&&decide (mx<=16)&&dE co 0 1024
theorem QK{l:Int}(h:¬l<=mn):dC mn mx us co l=false:=by unfold dC;simp[h]
theorem QL{l:Int}(h:¬mn<=us):dC mn mx us co l=false:=by unfold dC;simp[h]
theorem QM{l:Int}(h:¬us<=mx):dC mn mx us co l=false:=by unfold dC;simp[h]
theorem QN{l:Int}(h:¬mx<=16):dC mn mx us co l=false:=by unfold dC;simp[h]
theorem QO{l:Int}(h:¬0<=co):dC mn mx us co l=false:=by unfold dC dE;simp[h]
theorem QP{l:Int}(h1:l<=mn)(h2:mn<=us)(h3:us<=mx)(h4:mx<=16):dC mn mx us co l=dE co 0 1024:=by unfold dC;simp[h1,h2,h3,h4]
theorem qG(mn mx us co a l:Int)(w:World):
  Calls Tryz.prog 121 #[.agg #[.int .i64 mn, .int .i64 mx, .int .i64 us, .int .i64 co], .agg #[.int .i64 a, .int .i64 l]] w fun e w'=>e= .returned (.bool (dC mn mx us co l))/\Below w.heap.size w w':=by
 by_cases h1:l<=mn
 ·by_cases h2:mn<=us
  ·by_cases h3:us<=mx
   ·by_cases h4:mx<=16
    ·by_cases h5:0<=co
     ·have hy:dC mn mx us co l=decide (co<=1024):=by rw[QP h1 h2 h3 h4];unfold dE;simp[h5]
      rw[hy];go_enter Tryz.func121,Tryz.ntmps121;go_wp2;go_ret;exact⟨rfl,bO w _ _⟩
     ·rw[QO h5];go_enter Tryz.func121,Tryz.ntmps121;go_wp2;go_ret;exact⟨rfl,bO w _ _⟩
    ·rw[QN h4];go_enter Tryz.func121,Tryz.ntmps121;go_wp2;go_ret;exact⟨rfl,bO w _ _⟩
   ·rw[QM h3];go_enter Tryz.func121,Tryz.ntmps121;go_wp2;go_ret;exact⟨rfl,bO w _ _⟩
  ·rw[QL h2];go_enter Tryz.func121,Tryz.ntmps121;go_wp2;go_ret;exact⟨rfl,bO w _ _⟩
 ·rw[QK h1];go_enter Tryz.func121,Tryz.ntmps121;go_wp2;go_ret;exact⟨rfl,bO w _ _⟩
structure Fc where
 id:Int
 x:Option Addr
 n:Nat
 c:Nat
 ns:List Int
structure Sb where
 id:Int
 a:Int
 l:Int
 x:Option Addr
 n:Nat
 c:Nat
 fs:List Fc
structure Rg where
 a:Int
 l:Int
 p:Int
def fcZ:Fc:=⟨0,none,0,0,[]⟩
def sbZ:Sb:=⟨0,0,0,none,0,0,[]⟩
def rgZ:Rg:=⟨0,0,0⟩
def bT(ns:List Int)(i:Nat):Int:=ns.getD i 0
def fcAt(fs:List Fc)(i:Nat):Fc:=fs.getD i fcZ
def sbAt(ss:List Sb)(i:Nat):Sb:=ss.getD i sbZ
def aQ(rs:List Rg)(i:Nat):Rg:=rs.getD i rgZ
structure IS(w:World)(x:Option Addr)(n:Nat)(ns:List Int):Prop where
 len:ns.length=n
 cells:∀i,i<n->∃b o,x=some ⟨b,o,none⟩/\w.cell? ⟨b,o+i,none⟩=some (.int .i64 (bT ns i))
theorem IS.later(h:IS w x n ns)(hb:Below w.heap.size w w'):IS w' x n ns where
 len:=h.len
 cells:=fun i hi=>by
  obtain⟨b,o,hx,h0⟩:=h.cells i hi;exact⟨b,o,hx,cell_later hb h0⟩
theorem IS.idx{ps:List Int}(h:IS w x n ps):∀i,i<n->∃b o,x=some ⟨b,o,none⟩/\∀q,q<1->w.cell? ⟨b,o+i*1+q,none⟩=some ([.int .i64 (bT ps i)].getD q (.bool true)):=fun i hi=>by
 obtain⟨b,o,hx,d0⟩:=h.cells i hi;exact⟨b,o,hx,fun q hq=>by obtain rfl:q=0:=(by omega);rw[Nat.mul_one];exact d0⟩
structure RS(w:World)(x:Option Addr)(n:Nat)(rs:List Rg):Prop where
 len:rs.length=n
 cells:∀i,i<n->∃b o,x=some ⟨b,o,none⟩/\w.cell? ⟨b,o+i*3,none⟩=some (.int .i64 (aQ rs i).a)/\w.cell? ⟨b,o+i*3+1,none⟩=some (.int .i64 (aQ rs i).l)/\w.cell? ⟨b,o+i*3+2,none⟩=some (.int .i64 (aQ rs i).p)
theorem RS.later{rs:List Rg}(h:RS w x n rs)(hb:Below w.heap.size w w'):RS w' x n rs where
 len:=h.len
 cells:=fun i hi=>by
  obtain⟨b,o,hx,h0,h1,h2⟩:=h.cells i hi;exact⟨b,o,hx,cell_later hb h0,cell_later hb h1,cell_later hb h2⟩
theorem RS.idx{ps:List Rg}(h:RS w x n ps):∀i,i<n->∃b o,x=some ⟨b,o,none⟩/\∀q,q<3->w.cell? ⟨b,o+i*3+q,none⟩=some ([.int .i64 (aQ ps i).a, .int .i64 (aQ ps i).l, .int .i64 (aQ ps i).p].getD q (.bool true)):=fun i hi=>by
 obtain⟨b,o,hx,d0,d1,d2⟩:=h.cells i hi;exact⟨b,o,hx,by rintro(_|_|_|q) hq<;>first|assumption|omega⟩
structure sD(w:World)(x:Option Addr)(n:Nat)(fs:List Fc):Prop where
 len:fs.length=n
 cells:∀i,i<n->∃b o,x=some ⟨b,o,none⟩/\w.cell? ⟨b,o+i*2,none⟩=some (.int .i64 (fcAt fs i).id)/\w.cell? ⟨b,o+i*2+1,none⟩=some (.slice (fcAt fs i).x (fcAt fs i).n (fcAt fs i).c)
 addrs:∀i,i<n->(fcAt fs i).n<=(fcAt fs i).c/\(fcAt fs i).n<=9223372036854775807/\IS w (fcAt fs i).x (fcAt fs i).n (fcAt fs i).ns
theorem sD.later{fs:List Fc}(h:sD w x n fs)(hb:Below w.heap.size w w'):sD w' x n fs where
 len:=h.len
 cells:=fun i hi=>by
  obtain⟨b,o,hx,h0,h1⟩:=h.cells i hi;exact⟨b,o,hx,cell_later hb h0,cell_later hb h1⟩
 addrs:=fun i hi=>by
  obtain⟨h1,h2,h3⟩:=h.addrs i hi;exact⟨h1,h2,h3.later hb⟩
theorem sD.idx{ps:List Fc}(h:sD w x n ps):∀i,i<n->∃b o,x=some ⟨b,o,none⟩/\∀q,q<2->w.cell? ⟨b,o+i*2+q,none⟩=some ([.int .i64 (fcAt ps i).id, .slice (fcAt ps i).x (fcAt ps i).n (fcAt ps i).c].getD q (.bool true)):=fun i hi=>by
 obtain⟨b,o,hx,d0,d1⟩:=h.cells i hi;exact⟨b,o,hx,by rintro(_|_|q) hq<;>first|assumption|omega⟩
structure SS(w:World)(x:Option Addr)(n:Nat)(ss:List Sb):Prop where
 len:ss.length=n
 cells:∀i,i<n->∃b o,x=some ⟨b,o,none⟩/\w.cell? ⟨b,o+i*4,none⟩=some (.int .i64 (sbAt ss i).id)/\w.cell? ⟨b,o+i*4+1,none⟩=some (.int .i64 (sbAt ss i).a)/\w.cell? ⟨b,o+i*4+2,none⟩=some (.int .i64 (sbAt ss i).l)/\
  w.cell? ⟨b,o+i*4+3,none⟩=some (.slice (sbAt ss i).x (sbAt ss i).n (sbAt ss i).c)
 faces:∀i,i<n->(sbAt ss i).n<=(sbAt ss i).c/\(sbAt ss i).n<=9223372036854775807/\sD w (sbAt ss i).x (sbAt ss i).n (sbAt ss i).fs
theorem SS.later{ss:List Sb}(h:SS w x n ss)(hb:Below w.heap.size w w'):SS w' x n ss where
 len:=h.len
 cells:=fun i hi=>by
  obtain⟨b,o,hx,h0,h1,h2,h3⟩:=h.cells i hi;exact⟨b,o,hx,cell_later hb h0,cell_later hb h1,cell_later hb h2,cell_later hb h3⟩
 faces:=fun i hi=>by
  obtain⟨h1,h2,h3⟩:=h.faces i hi;exact⟨h1,h2,h3.later hb⟩
theorem SS.idx{ps:List Sb}(h:SS w x n ps):∀i,i<n->∃b o,x=some ⟨b,o,none⟩/\∀q,q<4->w.cell? ⟨b,o+i*4+q,none⟩=some ([.int .i64 (sbAt ps i).id, .int .i64 (sbAt ps i).a, .int .i64 (sbAt ps i).l, .slice (sbAt ps i).x (sbAt ps i).n (sbAt ps i).c].getD q (.bool true)):=fun i hi=>by
 obtain⟨b,o,hx,d0,d1,d2,d3⟩:=h.cells i hi;exact⟨b,o,hx,by rintro(_|_|_|_|q) hq<;>first|assumption|omega⟩
structure Vp(w:World)(rx:Option Addr)(rn rc:Nat)(rs:List Rg)(sx:Option Addr)(sn sc:Nat)(ss:List Sb):Prop where
 rcap:rn<=rc
 scap:sn<=sc
 ranges:RS w rx rn rs
 subs:SS w sx sn ss
theorem Vp.later{rs:List Rg}{ss:List Sb}(h:Vp w rx rn rc rs sx sn sc ss)(hb:Below w.heap.size w w'):Vp w' rx rn rc rs sx sn sc ss:=
 ⟨h.rcap,h.scap,h.ranges.later hb,h.subs.later hb⟩
structure Vn where
 id:Int
 rx:Option Addr
 rn:Nat
 rc:Nat
 rs:List Rg
 sx:Option Addr
 sn:Nat
 sc:Nat
 ss:List Sb
def X8:Vn:=⟨0,none,0,0,[],none,0,0,[]⟩
def aE(vs:List Vn)(i:Nat):Vn:=vs.getD i X8
structure VS(w:World)(x:Option Addr)(n:Nat)(vs:List Vn):Prop where
 len:vs.length=n
 cells:∀i,i<n->∃b o,x=some ⟨b,o,none⟩/\w.cell? ⟨b,o+i*3,none⟩=some (.int .i64 (aE vs i).id)/\w.cell? ⟨b,o+i*3+1,none⟩=some (.slice (aE vs i).rx (aE vs i).rn (aE vs i).rc)/\w.cell? ⟨b,o+i*3+2,none⟩=some (.slice (aE vs i).sx (aE vs i).sn (aE vs i).sc)
 vps:∀i,i<n->(aE vs i).rn<=9223372036854775807/\(aE vs i).sn<=9223372036854775807/\(aE vs i).rc<=9223372036854775807/\Vp w (aE vs i).rx (aE vs i).rn (aE vs i).rc (aE vs i).rs (aE vs i).sx (aE vs i).sn (aE vs i).sc (aE vs i).ss
theorem VS.later{vs:List Vn}(h:VS w x n vs)(hb:Below w.heap.size w w'):VS w' x n vs where
 len:=h.len
 cells:=fun i hi=>by
  obtain⟨b,o,hx,h0,h1,h2⟩:=h.cells i hi;exact⟨b,o,hx,cell_later hb h0,cell_later hb h1,cell_later hb h2⟩
 vps:=fun i hi=>by
  obtain⟨h1,h2,h3,h4⟩:=h.vps i hi;exact⟨h1,h2,h3,h4.later hb⟩
theorem VS.idx{ps:List Vn}(h:VS w x n ps):∀i,i<n->∃b o,x=some ⟨b,o,none⟩/\∀q,q<3->w.cell? ⟨b,o+i*3+q,none⟩=some ([.int .i64 (aE ps i).id, .slice (aE ps i).rx (aE ps i).rn (aE ps i).rc, .slice (aE ps i).sx (aE ps i).sn (aE ps i).sc].getD q (.bool true)):=fun i hi=>by
 obtain⟨b,o,hx,d0,d1,d2⟩:=h.cells i hi;exact⟨b,o,hx,by rintro(_|_|_|q) hq<;>first|assumption|omega⟩
def NA(o:Oper):Bool:=match o.op with
 | .move _| .assign _=>true
 | .load _ _=>true
 | .fieldAddr _ _ _=>true
 | .indexAddr _ _ _=>true
 | .build _ _=>true
 | .binOp _ _ _ _ _=>true
 | .slice _ _ _ _ _=>true
 | .unOp _ _ _=>true
 | .extract _ _=>true
 | .nilCheck _=>true
 |_=>false
theorem dK{s:Result Value}{n:Next}(h:(s.andThen fun x w=>Result.ok (Next.value x) w)= .ok n w'):∃u,n= .value u:=by
 cases s with
 |ok x w=>simp only[Result.andThen,Result.ok.injEq]at h;exact⟨x,h.1.symm⟩
 |halt x w=>simp[Result.andThen]at h
theorem uF{α:Type}{P:Program}{s:Sem α}{f:α->Sem Next}{w w':World}{n:Next}(h:(s>>=f).run P w= .ok n w'):∃x w1,(f x).run P w1= .ok n w':=by
 rw[Sem.run_bind]at h
 cases hs:s.run P w with
 |ok x w1=>rw[hs]at h;exact⟨x,w1,h⟩
 |halt x w1=>rw[hs]at h;simp[Result.andThen]at h
theorem U7{o:Oper}{n:Next}(h:NA o=true)(hr:(execOp a.eval o).run P w= .ok n w'):∃u,n= .value u:=by
 unfold NA at h;unfold execOp at hr;split at h
 ·rename_i x hop;rw[hop]at hr;simp only[Sem.run_pure,Result.ok.injEq]at hr;exact⟨_,hr.1.symm⟩
 ·rename_i x hop;rw[hop]at hr;simp only[Sem.run_pure,Result.ok.injEq]at hr;exact⟨_,hr.1.symm⟩
 ·rename_i x y hop;rw[hop]at hr;simp only[Sem.run_bind,Sem.run_pure]at hr;exact dK hr
 ·rename_i x y z hop;rw[hop]at hr;simp only[Sem.run_bind,Sem.run_pure]at hr;exact dK hr
 ·rename_i x y z hop;rw[hop]at hr;simp only[Sem.run_bind,Sem.run_pure]at hr;exact dK hr
 ·rename_i x y hop;rw[hop]at hr;simp only[Sem.run_bind,Sem.run_pure]at hr;exact dK hr
 ·rename_i hop;rw[hop]at hr;rw[Sem.run_bind]at hr;simp only[Sem.run_pure]at hr;exact dK hr
 ·rename_i hop;rw[hop]at hr;simp only[Sem.run_bind,Sem.run_pure]at hr;exact dK hr
 ·rename_i hop;rw[hop]at hr;simp only[Sem.run_bind,Sem.run_pure]at hr;exact dK hr
 ·rename_i hop;rw[hop]at hr;simp only[Sem.run_bind,Sem.run_pure]at hr;exact dK hr
 ·rename_i hop;rw[hop]at hr;simp only at hr;repeat' split at hr;all_goals first
   |(simp only[Sem.run_pure,Result.ok.injEq]at hr;exact⟨_,hr.1.symm⟩)
   |(simp[runtimePanic]at hr;done)
   |skip
  obtain⟨p,w1,hr⟩:=uF hr;obtain⟨q,w2,hr⟩:=uF hr;split at hr
  ·obtain⟨_,w3,hr⟩:=uF hr;simp only[Sem.run_pure,Result.ok.injEq]at hr;exact⟨_,hr.1.symm⟩
  ·simp only[Sem.run_pure,Result.ok.injEq]at hr;exact⟨_,hr.1.symm⟩
 ·cases h
theorem qW{o:Oper}(hp:NA o=true)(h:YieldsIn P ops C o v a):YieldsIf P ops C o v a:=by
 rcases h with ⟨h1,h2⟩|h
 ·refine .inl ⟨h1,fun w hw=>?_⟩;have h3:=h2 w hw;unfold Oper.quietAt at h3
  cases hr:(execOp a.eval o).run P w with
  |ok n w'=>
   rw[hr]at h3
   obtain⟨u,rfl⟩:=U7 hp hr
   simp only[Oper.quietUpon]at h3
   rw[h3.1,h3.2]
  |halt x w'=>rw[hr]at h3;simp[Oper.quietUpon]at h3
 ·exact .inr h
def nT(ops:Array Oper)(listed:Array Bool):Prop:=∀j oj,ops[j]?=some oj->listed.getD j false=true->∀e∈oj.after,Region.binds .any e=true->listed.getD e.on false=true
def wE(ops:Array Oper)(listed:Array Bool):Bool:=(List.range ops.size).all fun j=>!(listed.getD j false)||match ops[j]? with |some oj=>oj.after.all fun e=>!(Region.binds .any e)||listed.getD e.on false|none=>true
theorem gK(h:wE ops listed=true):nT ops listed:=fun j oj hj hl e he hb=>by
 have h1:=List.all_eq_true.1 h j (List.mem_range.2 (zG hj));rw[hl,hj]at h1;simp only[Bool.not_true,Bool.false_or]at h1;obtain⟨i,hi,rfl⟩:=Array.mem_iff_getElem.1 he;have h2:=Array.all_eq_true.1 h1 i hi;rw[hb]at h2;simpa using h2
theorem nT.set(h:nT ops listed)(hi:i∈Region.ready .any ops listed):nT ops (listed.setIfInBounds i true):=fun j oj hj hl e he hb=>by
 obtain⟨_,oi,hoi,hall⟩:=mem_ready.1 hi;by_cases hij:i=j
 ·subst hij;have:oj=oi:=Option.some.inj (hj.symm.trans hoi);subst this;exact getD_set_true (hall e he hb)
 ·rw[getD_set_ne false hij]at hl;exact getD_set_true (h j oj hj hl e he hb)
def lB(ops:Array Oper):Nat->Nat->Nat->Bool
 |0,j,i=>Region.waitsFor .any ops j i
 |f+1,j,i=>Region.waitsFor .any ops j i||(List.range ops.size).any fun k=>Region.waitsFor .any ops j k&&lB ops f k i
theorem nU(h:nT ops listed):∀(f j i:Nat),lB ops f j i=true->(∀oj,ops[j]?=some oj->∀e∈oj.after,Region.binds .any e=true->listed.getD e.on false=true)->listed.getD i false=true
 |0,j,i,hr,hj=>by
  obtain⟨oj,hoj,e,he,hb,hon⟩:=Region.waitsFor_spec hr;rw[<-hon];exact hj oj hoj e he hb
 |f+1,j,i,hr,hj=>by
  unfold lB at hr;rw[Bool.or_eq_true]at hr;rcases hr with hr|hr
  ·obtain⟨oj,hoj,e,he,hb,hon⟩:=Region.waitsFor_spec hr;rw[<-hon];exact hj oj hoj e he hb
  ·obtain⟨k, -,hk⟩:=List.any_eq_true.1 hr;rw[zH]at hk;obtain⟨oj,hoj,e,he,hb,hon⟩:=Region.waitsFor_spec hk.1;have hkl:listed.getD k false=true:=by rw[<-hon];exact hj oj hoj e he hb
   exact nU h f k i hk.2 (fun ok hok=>h k ok hok hkl)
def qE(P:Program)(ops:Array Oper)(Q:Exit->Act->World->Prop)(S:World->Prop)(T:Nat->Bool):Nat->Array Bool->Act->World->Prop
 |0,listed,a,w=>Region.ready .any ops listed=[]/\Q .normal a w
 |f+1,listed,a,w=>(Region.ready .any ops listed=[]->Q .normal a w)/\∀i∈Region.ready .any ops listed,wpOp P ops Q i (fun a' w'=>(T i=true->S w')/\qE P ops Q S T f (listed.setIfInBounds i true) a' w') a w
theorem pH:∀(f:Nat) (listed:Array Bool) (a:Act) (w:World),qE P ops Q S T f listed a w->wpAny P .any ops Q f listed a w
 |0,_,_,_,h=>h
 |f+1,_,_,_,h=>⟨h.1,fun i hi=>wpOp_mono (fun a' w' h'=>pH f _ a' w' h'.2) (h.2 i hi)⟩
theorem uG(hi:ops[i]?=some oi)(hsel:∀(j:Nat) (o:Oper) cs b,ops[j]?=some o->o.op≠ .select cs b)
 (hQ:∀d v c a w,Q (.panic c) (Act.put a d v) w->Q (.panic c) a w)(hw:∀j,T j=false->j<ops.size->lB ops ops.size j i=true):
  ∀(f:Nat) (listed:Array Bool) (a:Act) (w:World),nT ops listed->
   (∀j oj,ops[j]?=some oj->j≠i->listed.getD j true=false->(∀e∈oj.after,Region.binds .any e=true->e.on≠i)->oi.apart ops oj=true)->
   i∈Region.ready .any ops listed->YieldsIf P ops S oi v a->S w->
   qE P ops Q S T f (listed.setIfInBounds i true) (a.put oi.dst v) w->qE P ops Q S T (f+1) listed a w:=by
 intro f;induction f with
 |zero=>
  intro listed a w _ _ hr hy hS H
  refine⟨fun h=>(by rw[h]at hr;cases hr),fun j hj=>?_⟩
  by_cases hji:j=i
  ·subst hji;exact hy.wpOp hi hS ⟨fun _=>hS,H⟩
  ·have:=ready_mono hj hji;rw[H.1]at this
   cases this
 |succ f ih=>
  intro listed a w hsh hfree hr hy hS H
  refine⟨fun h=>(by rw[h]at hr;cases hr),fun j hj=>?_⟩
  by_cases hji:j=i
  ·subst hji;exact hy.wpOp hi hS ⟨fun _=>hS,H⟩
  ·have h1:=H.2 j (ready_mono hj hji);obtain⟨hjun,oj,hoj,hall⟩:=mem_ready.1 hj;have h0:=(mem_ready.1 hr).1;have hnot:∀e∈oj.after,Region.binds .any e=true->e.on≠i:=fun e he hb heq=>by
    have h1:=hall e he hb;rw[heq,getD_both h0]at h1
    cases h1
   have hjT:T j=true:=by
    cases hT:T j with
    |true=>rfl
    |false=>
     have h2:=nU hsh ops.size j i (hw j hT (zG hoj)) (fun ok hok e he hb=>by
      have:ok=oj:=Option.some.inj (hok.symm.trans hoj);subst this;exact hall e he hb)
     rw[getD_both h0]at h2
     cases h2
   have h2:=wpOp_putIf hoj (hfree j oj hoj hji hjun hnot) (fun cs b=>hsel i oi cs b hi) (fun cs b=>hsel j oj cs b hoj) (fun c a w=>hQ _ _ c a w) hy h1;have hfree':∀k ok,ops[k]?=some ok->k≠i->(listed.setIfInBounds j true).getD k true=false->
     (∀e∈ok.after,Region.binds .any e=true->e.on≠i)->oi.apart ops ok=true:=fun k ok hk hki hun hno=>by
    refine hfree k ok hk hki ?_ hno;by_cases hjk:j=k
    ·subst hjk;exact hjun
    ·rw[getD_set_ne true hjk]at hun;exact hun
   refine wpOp_mono (fun a' w' h3=>⟨fun _=>h3.2.1 hjT,ih (listed.setIfInBounds j true) a' w' (hsh.set hj) hfree' (ready_mono hr (Ne.symm hji)) h3.1 (h3.2.1 hjT) ?_⟩) h2;rw[Array.setIfInBounds_comm _ _ hji];exact h3.2.2
structure Wx:Type where
 val:World
@[simp] theorem Wx.all_const(p:Prop):(Wx->p)↔p:=⟨fun h=>h ⟨default⟩,fun h _=>h⟩
theorem JA(hi:ops[i]?=some oi)(hsel:∀(j:Nat) (o:Oper) cs b,ops[j]?=some o->o.op≠ .select cs b)
 (hQ:∀d v c a w,Q (.panic c) (Act.put a d v) w->Q (.panic c) a w)(hTi:T i=false):
  ∀(f:Nat) (listed:Array Bool) (a:Act) (w:World),nT ops listed->
   (∀j oj,ops[j]?=some oj->j≠i->listed.getD j true=false->(∀e∈oj.after,Region.binds .any e=true->e.on≠i)->oi.apart ops oj=true)->
   i∈Region.ready .any ops listed->YieldsIf P ops (fun w'=>∃u:Wx,w'=u.val) oi v a->
   qE P ops Q S T f (listed.setIfInBounds i true) (a.put oi.dst v) w->qE P ops Q S T (f+1) listed a w:=by
 intro f;induction f with
 |zero=>
  intro listed a w _ _ hr hy H
  refine⟨fun h=>(by rw[h]at hr;cases hr),fun j hj=>?_⟩
  by_cases hji:j=i
  ·subst hji;exact hy.wpOp hi ⟨⟨w⟩,rfl⟩ ⟨fun h=>absurd (h.symm.trans hTi) (by decide),H⟩
  ·have:=ready_mono hj hji;rw[H.1]at this
   cases this
 |succ f ih=>
  intro listed a w hsh hfree hr hy H
  refine⟨fun h=>(by rw[h]at hr;cases hr),fun j hj=>?_⟩
  by_cases hji:j=i
  ·subst hji;exact hy.wpOp hi ⟨⟨w⟩,rfl⟩ ⟨fun h=>absurd (h.symm.trans hTi) (by decide),H⟩
  ·have h1:=H.2 j (ready_mono hj hji);obtain⟨hjun,oj,hoj,hall⟩:=mem_ready.1 hj;have h0:=(mem_ready.1 hr).1;have hnot:∀e∈oj.after,Region.binds .any e=true->e.on≠i:=fun e he hb heq=>by
    have h1:=hall e he hb;rw[heq,getD_both h0]at h1
    cases h1
   have h2:=wpOp_putIf hoj (hfree j oj hoj hji hjun hnot) (fun cs b=>hsel i oi cs b hi) (fun cs b=>hsel j oj cs b hoj) (fun c a w=>hQ _ _ c a w) hy h1;have hfree':∀k ok,ops[k]?=some ok->k≠i->(listed.setIfInBounds j true).getD k true=false->
     (∀e∈ok.after,Region.binds .any e=true->e.on≠i)->oi.apart ops ok=true:=fun k ok hk hki hun hno=>by
    refine hfree k ok hk hki ?_ hno;by_cases hjk:j=k
    ·subst hjk;exact hjun
    ·rw[getD_set_ne true hjk]at hun;exact hun
   refine wpOp_mono (fun a' w' h3=>⟨h3.2.1,ih (listed.setIfInBounds j true) a' w' (hsh.set hj) hfree' (ready_mono hr (Ne.symm hji)) h3.1 ?_⟩) h2;rw[Array.setIfInBounds_comm _ _ hji];exact h3.2.2
def lK:Oper:={dst:=none,op:= .move (.const (.bool false)),type:=0,pos:= "",after:=#[],guard:=none}
def iU(is:List Nat)(listed:Array Bool):Array Bool:=is.foldl (fun l i=>l.setIfInBounds i true) listed
def sE(ops:Array Oper):List Nat->Array Bool->Bool
 |[],_=>true
 |i::is,listed=>(Region.ready .any ops listed).contains i&&Region.free .any ops listed i&&sE ops is (listed.setIfInBounds i true)
def xE(ops:Array Oper):List Nat->Array Bool->Bool
 |[],listed=>(Region.ready .any ops listed).isEmpty
 |i::is,listed=>decide (Region.ready .any ops listed=[i])&&xE ops is (listed.setIfInBounds i true)
theorem lP(h:i<l.length):l.toArray[i]?=some (l.getD i lK):=by
 simp[h]
theorem xU(hsel:Region.noSelect l.toArray=true)
 (hQ:∀d v c a w,Q (.panic c) (Act.put a d v) w->Q (.panic c) a w)(D:Array Bool)(hC:C w):
  ∀(hs:List Nat) (listed:Array Bool) (a:Act),(∀i∈hs,i<l.length/\NA (l.getD i lK)=true/\∀j,T j=false->j<l.toArray.size->lB l.toArray l.toArray.size j i=true)->nT l.toArray listed->sE l.toArray hs listed=true->iU hs listed=D->
   wpQuiet P l.toArray C (fun a'=>qE P l.toArray Q C T g D a' w) (hs.map fun i=>l.getD i lK) a->qE P l.toArray Q C T (hs.length+g) listed a w
 |[],listed,a,_,hsh,_,hd,h=>by
  rw[List.length_nil,Nat.zero_add];subst hd;exact h
 |i::is,listed,a,hh,hsh,hB,hd,h=>by
  obtain⟨hil,hpl,hwt⟩:=hh i (by simp);have h0:=lP hil;simp only[sE,zH]at hB;have hr:i∈Region.ready .any l.toArray listed:=by simpa using hB.1.1
  have hq:qOp P l.toArray C i (wpQuiet P l.toArray C (fun a'=>qE P l.toArray Q C T g D a' w) (is.map fun i=>l.getD i lK)) a:=by unfold qOp;simp only[h0];exact h
  obtain⟨v,hy,hKK⟩:=yieldsIn_of_qOp h0 hq;rw[List.length_cons,show is.length+1+g=(is.length+g)+1 by omega];refine uG h0 (Region.noSelect_spec hsel) hQ hwt (is.length+g) listed a w hsh (Region.free_spec h0 hB.1.2) hr (qW hpl hy) hC ?_;exact xU hsel hQ D hC is _ _ (fun k hk=>hh k (by simp[hk])) (hsh.set hr) hB.2 hd hKK
theorem GG(hsel:Region.noSelect l.toArray=true)
 (hQ:∀d v c a w,Q (.panic c) (Act.put a d v) w->Q (.panic c) a w)(D:Array Bool):
  ∀(hs:List Nat) (listed:Array Bool) (a:Act),(∀i∈hs,i<l.length/\NA (l.getD i lK)=true/\T i=false)->nT l.toArray listed->sE l.toArray hs listed=true->iU hs listed=D->
   wpQuiet P l.toArray (fun w'=>∃u:Wx,w'=u.val) (fun a'=>qE P l.toArray Q C T g D a' w) (hs.map fun i=>l.getD i lK) a->qE P l.toArray Q C T (hs.length+g) listed a w
 |[],listed,a,_,hsh,_,hd,h=>by
  rw[List.length_nil,Nat.zero_add];subst hd;exact h
 |i::is,listed,a,hh,hsh,hB,hd,h=>by
  obtain⟨hil,hpl,hwt⟩:=hh i (by simp);have h0:=lP hil;simp only[sE,zH]at hB;have hr:i∈Region.ready .any l.toArray listed:=by simpa using hB.1.1
  have hq:qOp P l.toArray (fun w'=>∃u:Wx,w'=u.val) i (wpQuiet P l.toArray (fun w'=>∃u:Wx,w'=u.val) (fun a'=>qE P l.toArray Q C T g D a' w) (is.map fun i=>l.getD i lK)) a:=by unfold qOp;simp only[h0];exact h
  obtain⟨v,hy,hKK⟩:=yieldsIn_of_qOp h0 hq;rw[List.length_cons,show is.length+1+g=(is.length+g)+1 by omega];refine JA h0 (Region.noSelect_spec hsel) hQ hwt (is.length+g) listed a w hsh (Region.free_spec h0 hB.1.2) hr (qW hpl hy) ?_;exact GG hsel hQ D is _ _ (fun k hk=>hh k (by simp[hk])) (hsh.set hr) hB.2 hd hKK
theorem nV(g:Nat){f:Nat}{w:World}{listed:Array Bool}{a:Act}(hs:List Nat)(hf:hs.length+g=f)(D:Array Bool)(hD:iU hs listed=D)
 (hB:(Region.noSelect l.toArray&&(hs.all fun i=>decide (i<l.length)&&NA (l.getD i lK)&&!(T i))&&wE l.toArray listed&&sE l.toArray hs listed)=true)
 (hQ:∀d v c a w,Q (.panic c) (Act.put a d v) w->Q (.panic c) a w)(h:wpQuiet P l.toArray (fun w'=>∃u:Wx,w'=u.val) (fun a'=>qE P l.toArray Q C T g D a' w) (hs.map fun i=>l.getD i lK) a):qE P l.toArray Q C T f listed a w:=by
 subst hf;simp only[zH]at hB;obtain⟨⟨⟨hsel,hhs⟩,hsh⟩,hlex⟩:=hB;refine GG hsel hQ D hs listed a (fun i hi=>?_) (gK hsh) hlex hD h;have h1:=List.all_eq_true.1 hhs i hi;simp only[zH,decide_eq_true_eq,Bool.not_eq_true']at h1;exact⟨h1.1.1,h1.1.2,h1.2⟩
def JB(l:List Oper)(T:Nat->Bool)(hs:List Nat)(listed:Array Bool):Bool:=
 Region.noSelect l.toArray&&(hs.all fun i=>decide (i<l.length)&&NA (l.getD i lK)&&(List.range l.toArray.size).all fun j=>T j||lB l.toArray l.toArray.size j i)&&wE l.toArray listed&&sE l.toArray hs listed
theorem bL(g:Nat){f:Nat}{w:World}{listed:Array Bool}{a:Act}(hs:List Nat)(hf:hs.length+g=f)(D:Array Bool)(hD:iU hs listed=D)(hB:JB l T hs listed=true)
 (hQ:∀d v c a w,Q (.panic c) (Act.put a d v) w->Q (.panic c) a w)(hC:C w)(h:wpQuiet P l.toArray C (fun a'=>qE P l.toArray Q C T g D a' w) (hs.map fun i=>l.getD i lK) a):qE P l.toArray Q C T f listed a w:=by
 subst hf;simp only[JB,zH]at hB;obtain⟨⟨⟨hsel,hhs⟩,hsh⟩,hlex⟩:=hB;refine xU hsel hQ D hC hs listed a (fun i hi=>?_) (gK hsh) hlex hD h;have h1:=List.all_eq_true.1 hhs i hi;simp only[zH,decide_eq_true_eq]at h1;refine⟨h1.1.1,h1.1.2,fun j hj hjs=>?_⟩;have h2:=List.all_eq_true.1 h1.2 j (List.mem_range.2 hjs);rw[hj,Bool.false_or]at h2;exact h2
def mY(K:Act->World->Prop)(Q:Exit->Act->World->Prop):Exit->Act->World->Prop
 | .normal,a,w=>K a w
 | .exit i,a,w=>Q (.exit i) a w
 | .goto i,a,w=>Q (.goto i) a w
 | .ret,a,w=>Q .ret a w
 | .panic c,a,w=>Q (.panic c) a w
 | .outgrown,a,w=>Q .outgrown a w
theorem aD{K:Act->World->Prop}(h:K a w):mY K Q .normal a w:=h
theorem JC{K':Act->World->Prop}{o:Oper}{K:Act->World->Prop}(h:o.wp P a w K (mY K' Q)):o.wp P a w K Q:=by
 unfold Oper.wp at*;generalize(execOp a.eval o).run P w=r at*
 cases r with
 |ok n w'=>
  cases n<;>simp only[Oper.upon]at h⊢<;>
   first
    |exact h
    |exact Calls.mono h (fun e w'' he=>by cases e<;>exact he)
 |halt x w'=>cases x<;>simp only[Oper.upon]at h⊢<;>exact h
theorem eJ{K:Act->World->Prop}(hi:i<l.length)(h:wpList P l.toArray (mY K Q) [l.getD i lK] a w):wpOp P l.toArray Q i K a w:=by
 have hop:=lP hi;unfold wpOp;simp only[hop];unfold wpList at h;by_cases hg:Region.wanted (l.getD i lK) (yielded l.toArray a.tmps)=true
 ·rw[if_pos hg]at h⊢;exact h.imp (fun h2=>Oper.wp_mono (fun a'' w'' h3=>h3) (JC h2)) (fun h=>h)
 ·rw[if_neg hg]at h⊢;exact h
structure CK(P:Program)(l:List Oper)(Q:Exit->Act->World->Prop)(S:World->Prop)(T:Nat->Bool)(f i:Nat)(D:Array Bool)(K:Act->World->Prop):Prop where
 out:∀a' w',S w'->qE P l.toArray Q S T f D a' w'->K a' w'
theorem aZ(i:Nat)(o:Oper)(D:Array Bool)(hr:Region.ready .any l.toArray listed=[i])(hi:decide (i<l.length)=true)(ho:l.getD i lK=o)(hD:listed.setIfInBounds i true=D)
 (h:∀K,CK P l Q S T f i D K->wpList P l.toArray (mY K Q) [o] a w):qE P l.toArray Q S T (f+1) listed a w:=by
 subst ho;subst hD;refine⟨fun h1=>(by rw[hr]at h1;cases h1),fun j hj=>?_⟩;rw[hr]at hj;obtain rfl:j=i:=by simpa using hj
 exact eJ (of_decide_eq_true hi) (h _ ⟨fun _ _ h1 h2=>⟨fun _=>h1,h2⟩⟩)
theorem kO(i k:Nat)(o ok:Oper)(D Dk:Array Bool)(hr:Region.ready .any l.toArray listed=[i,k])(hi:decide (i<l.length/\k<l.length)=true)(ho:l.getD i lK=o)(hok:l.getD k lK=ok)
 (hD:listed.setIfInBounds i true=D)(hDk:listed.setIfInBounds k true=Dk)
 (h1:∀K,CK P l Q S T f i D K->wpList P l.toArray (mY K Q) [o] a w)(h2:∀K,CK P l Q S T f k Dk K->wpList P l.toArray (mY K Q) [ok] a w):qE P l.toArray Q S T (f+1) listed a w:=by
 subst ho;subst hok;subst hD;subst hDk;refine⟨fun h1=>(by rw[hr]at h1;cases h1),fun j hj=>?_⟩;rw[hr]at hj;have hj':j=i\/j=k:=by simpa using hj
 rcases hj' with rfl|rfl
 ·exact eJ (of_decide_eq_true hi).1 (h1 _ ⟨fun _ _ h1 h2=>⟨fun _=>h1,h2⟩⟩)
 ·exact eJ (of_decide_eq_true hi).2 (h2 _ ⟨fun _ _ h1 h2=>⟨fun _=>h1,h2⟩⟩)
theorem CL:∀(ts:List Nat) (listed:Array Bool) (a:Act) (w:World),(∀i∈ts,i<l.length/\T i=false)->
  xE l.toArray ts listed=true->wpList P l.toArray Q (ts.map fun i=>l.getD i lK) a w->qE P l.toArray Q S T ts.length listed a w
 |[],_,_,_,_,hB,h=>⟨by simpa[xE]using hB,h⟩
 |i::ts,listed,a,w,hh,hB,h=>by
  obtain⟨hil,hT⟩:=hh i (by simp);have h0:=lP hil;simp only[xE,zH,decide_eq_true_eq]at hB;refine⟨fun h1=>(by rw[hB.1]at h1;cases h1),fun k hk=>?_⟩;rw[hB.1]at hk;have hik:k=i:=by simpa using hk
  subst hik;have hw:wpOp P l.toArray Q k (wpList P l.toArray Q (ts.map fun i=>l.getD i lK)) a w:=by unfold wpOp;simp only[h0];exact h
  exact wpOp_mono (fun a' w' h'=>⟨fun h=>absurd h (by rw[hT];decide),CL ts _ a' w' (fun i hi=>hh i (by simp[hi])) hB.2 h'⟩) hw
theorem bB(ts:List Nat)(hf:ts.length=f)(hB:(xE l.toArray ts listed&&ts.all fun i=>decide (i<l.length)&&!(T i))=true)(h:wpList P l.toArray Q (ts.map fun i=>l.getD i lK) a w):qE P l.toArray Q S T f listed a w:=by
 subst hf;rw[zH]at hB;refine CL ts listed a w (fun i hi=>?_) hB.1 h;have h1:=List.all_eq_true.1 hB.2 i hi;simpa using h1
theorem bN{id:Nat}(C:World->Prop)(T:Nat->Bool)(n:Nat)(D:Array Bool)(hm:P.follows .mixedOrders=true)(hn:l.toArray.size=n)(hD:Array.replicate n false=D)
 (h:qE P l.toArray Q C T n D a w.drew):(Code.region id l.toArray true).wp P Q a w:=by
 subst hn;subst hD;exact wp_region_any hm (pH _ _ _ _ h)
theorem fM{Q Q':Act->Prop}(h:∀a,Q a->Q' a):∀(l:List Oper) (a:Act),wpQuiet P ops C Q l a->wpQuiet P ops C Q' l a
 |[],a,g=>h a g
 |o::l,a,g=>by
  unfold wpQuiet at g⊢;split
  ·rename_i hw;rw[if_pos hw]at g;exact Oper.quiet_mono (fM h l) g
  ·rename_i hw;rw[if_neg hw]at g;exact fM h l _ g
def qX(ps ts:List Nat)(j:Nat):Bool:=!(ps.contains j||ts.contains j)
def aCu(l:List Oper)(hs:List Nat)(c:Nat)(ps ts:List Nat):Bool:=
 JB l (qX ps ts) hs (Array.replicate l.toArray.size false)&&decide (Region.ready .any l.toArray (iU hs (Array.replicate l.toArray.size false))=[c])&&decide (c<l.length)&&
 (Region.noSelect l.toArray&&(ps.all fun i=>decide (i<l.length)&&NA (l.getD i lK)&&!(qX ps ts i))&&wE l.toArray ((iU hs (Array.replicate l.toArray.size false)).setIfInBounds c true)&&sE l.toArray ps ((iU hs (Array.replicate l.toArray.size false)).setIfInBounds c true))&&
 (xE l.toArray ts (iU ps ((iU hs (Array.replicate l.toArray.size false)).setIfInBounds c true))&&ts.all fun i=>decide (i<l.length)&&!(qX ps ts i))&&decide (hs.length+(ps.length+ts.length+1)=l.toArray.size)
structure YA(P:Program)(l:List Oper)(Q:Exit->Act->World->Prop)(w:World)(ps ts:List Oper)(K:Act->World->Prop):Prop where
 out:∀a' w',Below w.heap.size w w'->wpQuiet P l.toArray (fun w'=>∃u:Wx,w'=u.val) (fun a''=>wpList P l.toArray Q ts a'' w') ps a'->K a' w'
theorem dN(h:Below w.heap.size w V)(g:V.grownBy V' r)(hr:∀k,r=some k->w.heap.size<=k):Below w.heap.size w V':=
 ⟨g.os.trans h.os,g.tape.trans h.tape,g.output.trans h.output,Nat.le_trans h.size g.size,fun j hj=>(g.block j (Nat.lt_of_lt_of_le hj h.size) (fun e=>by have:=hr j e.symm;omega)).trans (h.block j hj)⟩
theorem aF{a:Addr}(hb:Below w.heap.size w w')(h:w.cell? a=some v):w'.cell? a=some v:=
 (hb.cell (World.block_lt_of_cell? w a h)).trans h
theorem qY(p r:Int):∃v,F7 p r v/\(decide (p<r)=decide (v<0)):=by
 rcases Int.lt_trichotomy p r with h|h|h
 ·exact⟨-1, .inl ⟨h,rfl⟩,by simp[h]⟩
 ·exact⟨0, .inr (.inl ⟨h,rfl⟩),by simp[h]⟩
 ·exact⟨1, .inr (.inr ⟨h,rfl⟩),by simp;omega⟩
structure Ty(ty st k:Nat)(z:Value)(y:Nat):Prop where
 info:∃i,Tryz.prog.info? ty=some i/\i.zero=some z/\i.size=k/\i.bytes=y
 und:Tryz.prog.underlying st=some (.slice ty)
 zs:z.cells.size=k
 z1:∀u∈z.cells.toList,u.oneCell'=true
 pos:0<k
 few:y<=100
theorem sF{ty st y:Nat}(h:(Tryz.prog.info? ty).map (fun i=>(i.zero,i.size,i.bytes))=some (some z,k,y))(hu:Tryz.prog.underlying st=some (.slice ty))(hz:z.cells.size=k)(h1:∀u∈z.cells.toList,u.oneCell'=true)(hk:0<k)(hy:y<=100):Ty ty st k z y:=by
 obtain⟨i,hi,h⟩:=Option.map_eq_some_iff.1 h;simp only[Prod.mk.injEq]at h;exact⟨⟨i,hi,h.1,h.2.1,h.2.2⟩,hu,hz,h1,hk,hy⟩
theorem mF{E:Type}{c:E->List Value}(hc:∀e,(c e).length=k):∀es:List E,(es.flatMap c).length=es.length*k
 |[]=>by simp
 |e::es=>by rw[List.flatMap_cons,List.length_append,mF hc es,hc,List.length_cons,Nat.add_mul,Nat.one_mul,Nat.add_comm]
theorem sG{E:Type}{c:E->List Value}(hc:∀e,(c e).length=k)(d:E):∀(es:List E) (i j:Nat),i<es.length->j<k->(es.flatMap c)[i*k+j]?=(c (es.getD i d))[j]?
 |[],i,j,hi,_=>by simp at hi
 |e::es,0,j,_,hj=>by
  rw[List.flatMap_cons,List.getElem?_append_left (by rw[hc];omega)];simp
 |e::es,i+1,j,hi,hj=>by
  have:=sG hc d es i j (by simpa using hi) hj;rw[List.flatMap_cons,List.getElem?_append_right (by rw[hc,Nat.add_mul];omega),hc,show(i+1)*k+j- k=i*k+j by rw[Nat.add_mul];omega,this];simp
theorem QQ{E:Type}{c:E->List Value}(hk:0<k)(hc:∀e,(c e).length=k){es:List E}{j:Nat}{u:Value}(h:(es.flatMap c)[j]?=some u):∃i q,j=i*k+q/\q<k/\i<es.length:=by
 have hl:=(List.getElem?_eq_some_iff.1 h).1;rw[mF hc]at hl;refine⟨j/k,j%k,by rw[Nat.mul_comm];exact(Nat.div_add_mod j k).symm,Nat.mod_lt _ hk,(Nat.div_lt_iff_lt_mul hk).2 hl⟩
theorem jO{E:Type}{c:E->List Value}(hk:0<k)(hc:∀e,(c e).length=k)(d:E){es:List E}{w:World}{ad:Addr}(hn:es.length=n)(h:∀i,i<n->∃b o,some ad=some ⟨b,o,none⟩/\∀q u,(c (es.getD i d))[q]?=some u->w.cell? ⟨b,o+i*k+q,none⟩=some u):∀j u,(es.flatMap c)[j]?=some u->w.cell? (ad.add j)=some u:=by
 intro j u hj;obtain⟨i,q,rfl,hq,hi⟩:=QQ hk hc hj;rw[sG hc d es i q hi hq]at hj;obtain⟨b,o,hx,hd⟩:=h i (by omega);simp only[Option.some.injEq]at hx;subst hx;rw[jN,<-Nat.add_assoc];exact hd q u hj
section
variable {w w' : World} {base base' g n m k i cap ty st y : Nat} {v z : Value} {x : Option Addr} {cs ds : List Value}
theorem eG(h:w.ownsRow base ty k v n cs)(hb:Below w.heap.size w w'):w'.ownsRow base ty k v n cs:=by
 refine World.ownsRow.kept h (eI hb) ?_
 cases hv:v.ownBlock
 ·exact .inl rfl
 ·exact .inr (by simp)
theorem fN(h:w.ownsRow base ty k v n cs)(hg:w.grownBy w' (some g))(hne:∀k,v.ownBlock=some k->k≠g):w'.ownsRow base ty k v n cs:=by
 refine World.ownsRow.kept h hg ?_
 cases hv:v.ownBlock
 ·exact .inl rfl
 ·rename_i k;exact .inr fun e=>hne k hv (Option.some.inj e)
theorem iV(h:w.ownsRow base ty k v n cs)(hb:base'<=base):w.ownsRow base' ty k v n cs:=by
 refine⟨h.1,?_⟩;rcases h.2 with h|⟨g,cap,cur,h1,h2,h3⟩
 ·exact .inl h
 ·exact .inr ⟨g,cap,cur,h1,Nat.le_trans hb h2,h3⟩
theorem jP(h:w.ownsRow base ty k v n cs)(hb:w.heap[b]?=some (.cells ca t fr))(ht:t≠ty):v.ownBlock≠some b:=by
 rcases h.2 with ⟨rfl, -⟩|⟨g,cap,cur,rfl, -,h2, -⟩
 ·simp[Value.ownBlock]
 ·intro e;simp only[Value.ownBlock,Option.some.injEq]at e;rw[e,hb]at h2;simp only[Option.some.injEq,Obj.cells.injEq]at h2;exact ht h2.2.1
theorem kP(h:w.ownsRow base ty k v n cs):∃x c,v= .slice x n c/\n<=c/\c<=9223372036854775807/\(x=none->n=0/\c=0)/\∀i,i<n->∃b o,x=some ⟨b,o,none⟩/\∀j u,j<k->cs[i*k+j]?=some u->w.cell? ⟨b,o+i*k+j,none⟩=some u:=by
 rcases h.2 with ⟨rfl,h0⟩|⟨g,cap,cur,rfl, -, -,h4,h5, -⟩
 ·exact⟨none,0,by rw[h0],by omega,by omega,fun _=>⟨h0,rfl⟩,fun i hi=>by omega⟩
 ·refine⟨some ⟨g,0,none⟩,cap,rfl,h4,by unfold maxLen at h5;omega,fun e=>by simp at e,fun i hi=>⟨g,0,rfl,fun j u hj hu=>?_⟩⟩;have:=World.ownsRow.cells h (g:=g) rfl (i*k+j) u hu;rw[Addr.add_lit]at this;rw[Nat.add_assoc];exact this
theorem mG(h:w.ownsRow base ty k (.slice (some ⟨g,0,none⟩) m cap) n cs)(i:Nat):w.frozen? ⟨g,i,none⟩=false:=by
 rcases h.2 with ⟨hv, -⟩|⟨g',cap',cur,hv, -,h2, -⟩
 ·simp at hv
 ·simp only[Value.slice.injEq,Option.some.injEq,Addr.mk.injEq]at hv;obtain⟨⟨rfl, -⟩, -, -⟩:=hv;simp[World.frozen?,h2]
theorem pI(h:w.ownsRow base ty k (.slice (some ⟨g,0,none⟩) m cap) n cs):base<=g/\∃cur,w.heap[g]?=some (.cells cur ty):=by
 rcases h.2 with ⟨hv, -⟩|⟨g',cap',cur,hv,h1,h2, -⟩
 ·simp at hv
 ·simp only[Value.slice.injEq,Option.some.injEq,Addr.mk.injEq]at hv;obtain⟨⟨rfl, -⟩, -, -⟩:=hv;exact⟨h1,cur,h2⟩
theorem GH(h:w.ownsRow base ty k (.slice (some ⟨g,0,none⟩) m cap) n cs)(i:Nat)(hi:i<=n):w.ownsRow base ty k (.slice (some ⟨g,0,none⟩) i cap) i (cs.take (i*k)):=by
 rcases h.2 with ⟨hv, -⟩|⟨g',cap',cur,hv,h1,h2,h3,h4,h5,h6⟩
 ·simp at hv
 ·simp only[Value.slice.injEq,Option.some.injEq,Addr.mk.injEq]at hv;obtain⟨⟨rfl, -⟩,rfl,rfl⟩:=hv;have hm:i*k<=m*k:=Nat.mul_le_mul_right k hi;refine⟨by rw[List.length_take,h.1];omega, .inr ⟨g,cap,cur,rfl,h1,h2,by omega,h4,h5,?_⟩⟩;rw[<-h6,List.take_take,Nat.min_eq_left hm]
def Rw(w:World)(x:Option Addr)(n k:Nat)(cs:List Value):Prop:=cs.length=n*k/\(0<n->x≠none)/\(∀u∈cs,u.oneCell'=true)/\∀ad,x=some ad->∀j u,cs[j]?=some u->w.cell? (ad.add j)=some u
theorem Rw.later(h:Rw w x n k cs)(hb:Below w.heap.size w w'):Rw w' x n k cs:=
 ⟨h.1,h.2.1,h.2.2.1,fun ad hx j u hj=>(hb.cell (World.block_lt_of_cell? w (ad.add j) (h.2.2.2 ad hx j u hj))).trans (h.2.2.2 ad hx j u hj)⟩
theorem Rw.take(h:Rw w x n k cs)(hi:i<=n):Rw w x i k (cs.take (i*k)):=by
 have hm:i*k<=n*k:=Nat.mul_le_mul_right k hi;refine⟨by rw[List.length_take,h.1];omega,fun h0=>h.2.1 (by omega),fun u hu=>h.2.2.1 u (List.mem_of_mem_take hu),fun ad hx j u hj=>h.2.2.2 ad hx j u ?_⟩;rw[List.getElem?_take]at hj;split at hj
 ·exact hj
 ·cases hj
theorem Rw.drop{o:Nat}(h:Rw w (some ⟨b,o,none⟩) n k cs)(hi:i<=n)(hnc:n<=c):Rw w (if c=i then some ⟨b,o,none⟩else some ⟨b,o+i*k,none⟩) (n- i) k (cs.drop (i*k)):=by
 refine⟨by rw[List.length_drop,h.1,Nat.sub_mul],fun _=>by split<;>simp,fun u hu=>h.2.2.1 u (List.mem_of_mem_drop hu),fun ad hx j u hj=>?_⟩;rw[List.getElem?_drop]at hj;have hl:=(List.getElem?_eq_some_iff.1 hj).1;have hne:¬c=i:=fun e=>by
  have:n=i:=by omega
  rw[h.1,this]at hl;omega
 rw[if_neg hne]at hx
 cases hx;have h2:=h.2.2.2 _ rfl (i*k+j) u hj;rw[jN]at h2⊢;rw[Nat.add_assoc];exact h2
theorem Rw.drop0(h:Rw w x n k cs)(h0:n=0):Rw w x 0 k (cs.drop (0*k)):=by
 rw[Nat.zero_mul,List.drop_zero];exact h0▸h
theorem eM(hT:Ty ty st k z y){ops:Array Oper}{rest:List Oper}{o:Oper}{a:Act}{Q:Exit->Act->World->Prop}(hgd:o.guard=none)(s x:Operand)
 (ho:o.op= .call {callee:= .builtin .append,args:=#[s,x],argTypes:=#[st,st]})(base:Nat)(v:Value)(hs:a.eval s=v)(hO:w.ownsRow base ty k v n cs)
 (ad:Addr)(m c:Nat)(hx:a.eval x= .slice (some ad) m c)(hR:Rw w (some ad) m k ds)(hlen:n+m<=1000000000)(hbase:base<=w.heap.size)
 (h:∀v' w',w'.ownsRow base ty k v' (n+m) (cs++ds)->w.grownBy w' v.ownBlock->wpList Tryz.prog ops Q rest (a.put o.dst v') w'):wpList Tryz.prog ops Q (o::rest) a w:=by
 obtain⟨i0,hi,hz0,hz1,hz2⟩:=hT.info;exact wpList_append_own w hgd s x st ho base ty i0 _ k y hT.und hi hz0 hz1 hz2 hT.zs hT.pos v n cs hs hO ad m c ds hx hR.1 (hR.2.2.2 ad rfl) hR.2.2.1 (by unfold maxLen;omega) (Nat.le_trans (Nat.mul_le_mul hlen hT.few) (by decide)) hbase fun v' w' h1 h2 _=>h v' w' h1 h2
theorem CM(hT:Ty ty st k z y){p:Nat}(hO:w.ownsRow base ty k (.slice (some ⟨g,0,none⟩) p cap) m cs)(n c:Nat)(hn:0<n)(hm:m+n<=cap)(t:TypeId):
  ∃w',(Builtin.clear_ #[st] t #[.slice (some ⟨g,m*k,none⟩) n c]).run Tryz.prog w= .ok (.tuple #[]) w'/\w'.ownsRow base ty k (.slice (some ⟨g,0,none⟩) p cap) m cs/\w.grownBy w' (some g):=by
 obtain⟨i0,hi,hz0,hz1,hz2⟩:=hT.info;rcases hO.2 with ⟨hv, -⟩|⟨g',cap',cur,hv,h1,h2,h3,h4,h5,h6⟩
 ·simp at hv
 simp only[Value.slice.injEq,Option.some.injEq,Addr.mk.injEq]at hv;obtain⟨⟨rfl, -⟩,hpm,rfl⟩:=hv;obtain rfl:=hpm.symm;obtain⟨zs,hzs⟩:∃zs,zs=(Builtin.zeroCells z.cells n).toList:=⟨_,rfl⟩;have hzl:zs.length=n*k:=by rw[hzs,Array.length_toList,size_zeroCells,hT.zs]
 have hz1:∀v∈zs,v.oneCell'=true:=by
  intro v hv;rw[hzs]at hv;simp[Builtin.zeroCells]at hv;obtain⟨j, -,rfl⟩:=hv;have h8:j%z.cells.size<z.cells.size:=Nat.mod_lt _ (by rw[hT.zs];exact hT.pos);refine hT.z1 _ ?_;rw[getElem!_pos z.cells _ h8];exact Array.getElem_mem_toList h8
 have hmk:m*k+n*k<=cap*k:=by rw[<-Nat.add_mul];exact Nat.mul_le_mul_right k hm
 have h5':cur.toList.length=cap*k:=by simpa using h5
 have hst:=run_storeCells_at (P:=Tryz.prog) g (m*k) ty zs 0 cur w h2 (by rw[hzl];omega) hz1;simp only[Nat.add_zero]at hst;have hls:(cur.toList.take (m*k)).length=m*k:=by rw[List.length_take,h5'];omega
 have hzr:∀W,(zeroValue ty).run Tryz.prog W= .ok z W:=fun W=>by simp[zeroValue,typeInfo,hi,hz0]
 refine⟨w.setRow g (cur.toList.take (m*k)++zs++cur.toList.drop (m*k+zs.length)).toArray,?_,⟨hO.1, .inr ⟨g,cap,(cur.toList.take (m*k)++zs++cur.toList.drop (m*k+zs.length)).toArray,rfl,h1,setRow_heap w g cur _ _ _ h2,h3,h4,?_,?_⟩⟩,?_⟩
 ·obtain⟨k,rfl⟩:∃k,n=k+1:=⟨n- 1,by omega⟩;simp[Builtin.clear_,run_underlying hT.und,<-hzs,hst,hzr]
 ·simp only[List.size_toArray,List.length_append,hls,hzl,List.length_drop,h5'];omega
 ·rw[List.append_assoc,List.take_append_of_le_length (by rw[hls];exact zE),List.take_of_length_le (by rw[hls];exact zE)];exact h6
 ·exact⟨rfl,rfl,rfl,by simp,fun k _ hne=>setRow_other w g k _ (fun e=>hne (by rw[e]))⟩
theorem EE{E:Type}(fl:List E->List Value)(hl:∀es,(fl es).length=es.length*k)(ha:∀a b,fl (a++b)=fl a++fl b)(es:List E)(i:Nat):fl (es.take i)=(fl es).take (i*k):=by
 by_cases hi:i<=es.length
 ·have h:=ha (es.take i) (es.drop i);rw[List.take_append_drop]at h;rw[h,List.take_left' (by rw[hl,List.length_take,Nat.min_eq_left hi])]
 ·rw[List.take_of_length_le (show es.length<=i by omega),List.take_of_length_le (by rw[hl];exact Nat.mul_le_mul_right k (by omega))]
theorem LM{E:Type}(fl:List E->List Value)(hl:∀es,(fl es).length=es.length*k)(ha:∀a b,fl (a++b)=fl a++fl b)(es:List E)(i:Nat)(hi:i<=es.length):fl (es.drop i)=(fl es).drop (i*k):=by
 have h:=ha (es.take i) (es.drop i);rw[List.take_append_drop]at h;rw[h,List.drop_left' (by rw[hl,List.length_take,Nat.min_eq_left hi])]
theorem kQ{E:Type}(fl:List E->List Value)(hl:∀es,(fl es).length=es.length*k)(ha:∀a b,fl (a++b)=fl a++fl b){es:List E}{e:E}(hn:es.length=n)(hi:i<=n)(h:w.ownsRow base ty k v (i+1+(n- i)) ((fl es).take (i*k)++fl [e]++(fl es).drop (i*k))):w.ownsRow base ty k v (es.take i++[e]++es.drop i).length (fl (es.take i++[e]++es.drop i)):=by
 subst hn;rw[ha,ha,EE fl hl ha,LM fl hl ha es i hi];simp only[List.length_append,List.length_take,List.length_drop,List.length_cons,List.length_nil,Nat.min_eq_left hi,Nat.zero_add];exact h
theorem pJ{E:Type}(fl:List E->List Value)(hl:∀es,(fl es).length=es.length*k)(ha:∀a b,fl (a++b)=fl a++fl b){es:List E}{p j:Nat}(hn:es.length=p+1)(hi:i<=p)(hj:j=i+1)(h:w.ownsRow base ty k v p ((fl es).take (i*k)++(fl es).drop (j*k))):w.ownsRow base ty k v (es.take i++es.drop j).length (fl (es.take i++es.drop j)):=by
 rw[ha,EE fl hl ha,LM fl hl ha es j (by omega),show(es.take i++es.drop j).length=p by rw[List.length_append,List.length_take,List.length_drop];omega];exact h
theorem QR(hT:Ty ty st k z y)(n:Nat)(w:World)(h0:0<n)(hn:n<=1000):∃G V,n<=G/\G<=maxLen/\Array.size V=G*k/\∀t,(Builtin.append_ #[st,3] t #[.slice none 0 0, .int .i64 (n:Int)]).run Tryz.prog w= .ok (.slice (some ⟨w.heap.size,0,none⟩) (0+n) G) (w.drew.alloc (.cells V ty)):=by
 obtain⟨i0,hi,hz0,hz1,hz2⟩:=hT.info;have hf:n*y<=1000*100:=Nat.mul_le_mul hn hT.few;have hG:=grownCap_le_maxLen w (0+n) 0 ty (by unfold maxLen;omega);have hGn:=grownCap_ge w (0+n) 0 ty;refine⟨_,_,by omega,hG,?_,fun t=>Lib.run_append_grow_zeros w _ 3 t _ i0 _ .i64 .i64 hT.und under_int hi hz0 none 0 0 [] (run_firstCells_none w.drew i0.size 0 0 0) n h0 (by rw[hz1];exact hT.pos) (by omega) (by omega) (by rw[hz2];omega) (by rw[hz2];exact growslice_fits (by omega) (by rw[Nat.zero_add];omega))⟩;simp only[Array.size_append,size_zeroCells,List.size_toArray,List.length_nil,hT.zs];rw[Nat.zero_add,<-Nat.add_mul];exact congrArg (·*k) (by omega)
theorem JD(h:w.ownsRow base ty k (.slice (some ⟨g,0,none⟩) m cap) n cs)(h1:∀u∈cs,u.oneCell'=true):Rw w (some ⟨g,0,none⟩) n k cs:=
 ⟨h.1,fun _=>by simp,h1,fun ad hx j u hj=>by cases hx;exact World.ownsRow.cells h rfl j u hj⟩
theorem U8(hT:Ty ty st k z y)(hO:w.ownsRow base ty k (.slice (some ⟨g,0,none⟩) (p+1) cap) (p+1) cs)(h1:∀u∈cs,u.oneCell'=true)(hi:i<=p)(hj:j=i+1)(hnc:p+1<=cap):
  ∃wa wb,(∀q c',((cap=j/\q=0/\c'=0)\/(¬cap=j/\q=j*k/\c'=cap- j))->(Builtin.append_ #[st,st] st #[.slice (some ⟨g,0,none⟩) i cap, .slice (some ⟨g,q,none⟩) (p+1- j) c']).run Tryz.prog w.drew= .ok (.slice (some ⟨g,0,none⟩) p cap) wa)/\
   (∀t,(Builtin.clear_ #[st] t #[.slice (some ⟨g,p*k,none⟩) 1 (cap- p)]).run Tryz.prog wa= .ok (.tuple #[]) wb)/\wb.ownsRow base ty k (.slice (some ⟨g,0,none⟩) p cap) p (cs.take (i*k)++cs.drop (j*k))/\w.grownBy wb (some g):=by
 obtain⟨i0,hi0,hz0,hz1,hz2⟩:=hT.info;have hOi:=eG (GH hO i (by omega)) (zD).drew;have hR:=(JD hO h1).later (zD).drew;have hrun:=hR.drop (i:=j) (c:=cap) (by omega) hnc;have hik:i+(p+1- j)=p:=by omega
 obtain⟨wa,h4,h2,h3⟩:∃wa,(∀q c',((cap=j/\q=0/\c'=0)\/(¬cap=j/\q=j*k/\c'=cap- j))->(Builtin.append_ #[st,st] st #[.slice (some ⟨g,0,none⟩) i cap, .slice (some ⟨g,q,none⟩) (p+1- j) c']).run Tryz.prog w.drew= .ok (.slice (some ⟨g,0,none⟩) p cap) wa)/\wa.ownsRow base ty k (.slice (some ⟨g,0,none⟩) p cap) p (cs.take (i*k)++cs.drop (j*k))/\w.drew.grownBy wa (some g):=by
  by_cases hcj:cap=j
  ·rw[if_pos hcj]at hrun;obtain⟨wa,h1,h2,h3⟩:=run_append_own_spare (P:=Tryz.prog) w.drew base st st ty i0 k hT.und hi0 hz1 g i cap _ hOi ⟨g,0,none⟩ (p+1- j) 0 _ hrun.1 (hrun.2.2.2 _ rfl) hrun.2.2.1 (by omega);rw[hik]at h1 h2;refine⟨wa,fun q c' h=>?_,h2,h3⟩;rcases h with ⟨-,rfl,rfl⟩|⟨h, -⟩
   ·exact h1
   ·exact absurd hcj h
  ·rw[if_neg hcj,Nat.zero_add]at hrun;obtain⟨wa,h1,h2,h3⟩:=run_append_own_spare (P:=Tryz.prog) w.drew base st st ty i0 k hT.und hi0 hz1 g i cap _ hOi ⟨g,j*k,none⟩ (p+1- j) (cap- j) _ hrun.1 (hrun.2.2.2 _ rfl) hrun.2.2.1 (by omega);rw[hik]at h1 h2;refine⟨wa,fun q c' h=>?_,h2,h3⟩;rcases h with ⟨h, -⟩|⟨-,rfl,rfl⟩
   ·exact absurd h hcj
   ·exact h1
 obtain⟨wb,h5,h6,h7⟩:=CM hT h2 1 (cap- p) (by omega) (by omega) 0;exact⟨wa,wb,h4,fun t=>h5,h6,⟨h7.os.trans h3.os,h7.tape.trans h3.tape,h7.output.trans h3.output,Nat.le_trans h3.size h7.size,fun m hm hne=>(h7.block m (Nat.lt_of_lt_of_le hm h3.size) hne).trans (h3.block m hm hne)⟩⟩
end
end Go.Proofs.YtjphnaccgfjnjaaGreatDoor
