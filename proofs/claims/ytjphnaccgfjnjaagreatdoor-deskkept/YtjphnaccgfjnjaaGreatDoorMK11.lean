/- A part of the proof. -/
import Derived.Test.YtjphnaccgfjnjaaGreatDoorMK10
set_option maxRecDepth 100000
set_option maxHeartbeats 20000000
namespace Go.Proofs.YtjphnaccgfjnjaaGreatDoor
variable {r : Rg} {rs rs' : List Rg} {w w' : World} {x lx rx sx vx : Option Addr} {n c ln lc i base q g cap rn sn m k o vc base' bs : Nat} {vs us : List Vn} {eg p a b y vid l t t' : Int} {v B V vB vV vK : Value} {e : Ending} {u : Vn} {fs ls ms : List (Int × Int)} {gs : List Fc} {ss ts : List Sb} {A : Act} {ps : List Po} {L M : List ((Int × Int × Int) × Int)} {ops : Array Oper} {C : World → Prop} {rest : List Oper} {ks : List (Int × Int × Int)} {cs : Array Value} {ty : TypeId}
open Go.RowKit Go.Shelf
def posRg(r:Rg)(rs:List Rg):Nat:=((List.range rs.length).find? fun i=>decide (r.a<(aQ rs i).a)).getD rs.length
def qP(r:Rg)(rs:List Rg):List Rg:=rs.take (posRg r rs)++[r]++rs.drop (posRg r rs)
theorem OO(h:XH r rs rs'):rs'=qP r rs:=by
 obtain⟨i,hi,hlo,hup,rfl⟩:=h;have:posRg r rs=i:=by
  unfold posRg;by_cases h:i<rs.length
  ·have:(List.range rs.length).find? (fun i=>decide (r.a<(aQ rs i).a))=some i:=by
    rw[List.find?_range_eq_some];exact⟨by simpa using hup h,by simpa using h,fun j hj=>by simpa using hlo j hj⟩
   rw[this];rfl
  ·obtain rfl:i=rs.length:=by omega
   have:(List.range rs.length).find? (fun i=>decide (r.a<(aQ rs i).a))=none:=by
    rw[List.find?_eq_none];intro j hj;have:=hlo j (by simpa using hj);simpa using this
   rw[this];rfl
 unfold qP;rw[this]
theorem DJ:(qP r rs).length=rs.length+1:=by
 have h1:rs.length=(rs.take (posRg r rs)).length+(rs.drop (posRg r rs)).length:=by
  rw[<-List.length_append,List.take_append_drop]
 unfold qP;rw[List.length_append,List.length_append,List.length_singleton];omega
def L0(v:Vn)(rs:List Rg):Vn:=⟨v.id,v.rx,rs.length,v.rc,rs,v.sx,v.sn,v.sc,v.ss⟩
def eE(vs:List Vn)(i:Nat)(r:Rg):List Vn:=vs.set i (L0 (aE vs i) (qP r (aE vs i).rs))
def iO(n:Nat)(vs:List Vn)(ln:Nat)(ls:List (Int×Int))(id:Int)(r:Rg):Int:=
 if cW n vs ln ls=0 then(if aJ n vs id<0 then 5 else if fW (aE vs (aJ n vs id).toNat).id (aE vs (aJ n vs id).toNat).rn (aE vs (aJ n vs id).toNat).rs (aE vs (aJ n vs id).toNat).sn (aE vs (aJ n vs id).toNat).ss r=0 then(if E1 ls n (eE vs (aJ n vs id).toNat r)=false then 9 else 0)else fW (aE vs (aJ n vs id).toNat).id (aE vs (aJ n vs id).toNat).rn (aE vs (aJ n vs id).toNat).rs (aE vs (aJ n vs id).toNat).sn (aE vs (aJ n vs id).toNat).ss r)else cW n vs ln ls
def vH(n:Nat)(vs:List Vn)(ls:List (Int×Int))(id:Int)(r:Rg)(us:List Vn)(ms:List (Int×Int)):Prop:=bV (eE vs (aJ n vs id).toNat r) us/\ms=ls
theorem vplace_cases(n:Nat)(vs:List Vn)(id:Int):(∃i:Nat,i<n/\(aE vs i).id=id/\aJ n vs id=i)\/aJ n vs id= -1:=by
 unfold aJ
 cases h:(List.range n).find? (fun i=>(aE vs i).id==id)with
 |none=>exact .inr rfl
 |some i=>
  obtain⟨h1,h2, -⟩:=List.find?_range_eq_some.1 h
  exact .inl ⟨i,by simpa using h2,by simpa using h1,rfl⟩
structure TQ(w W:World)(x:Option Addr)(n c:Nat)(lx:Option Addr)(ln lc:Nat)(r:Rg):Prop where
 hb:W.heap[w.heap.size]?=some (nH x n c lx ln lc)
 hp:W.heap[w.heap.size+1]?=some (.cells #[.int .i64 r.a, .int .i64 r.l, .int .i64 r.p] 127)
 hs:W.heap[w.heap.size+2]?=some (eD (.slice none 0 0) (.slice none 0 0))
 below:Below w.heap.size w W
theorem TQ.later{W W':World}(h:TQ w W x n c lx ln lc r)(hb:Below W.heap.size W W'):TQ w W' x n c lx ln lc r:=
 ⟨aA hb h.hb,aA hb h.hp,aA hb h.hs,h.below.trans (hb.mono h.below.size)⟩
theorem ST:cQ (eE vs i r)=cQ vs:=by
 unfold eE cQ;refine List.ext_getElem (by simp) fun j h1 h2=>?_;have hj:j<vs.length:=by simpa using h2
 rw[List.getElem_map,List.getElem_map,List.getElem_set];split
 ·rename_i e;subst e;rw[<-fU hj];rfl
 ·rfl
theorem L1{v:Vn}(hl:v.ss.length=v.sn)(he:fW v.id v.rn v.rs v.sn v.ss r=eg)(h:fK v.id v.rn v.rs v.sn v.ss r w e w'):
  ∃u:Vn,e= .returned (.tuple #[vnW u, .int .i64 eg])/\Below w.heap.size w w'/\(eg=0->mC w' w.heap.size u/\nF (L0 v (qP r v.rs)) u):=by
 obtain⟨V,h1,h2,h3,h4⟩:=h;rw[he]at h1 h3 h4;by_cases h0:eg=0
 ·obtain⟨u,rfl,hu,hid,hpr,hss⟩:=h4 h0;refine⟨u,h1,h2,fun _=>⟨hu,?_⟩⟩;have hrs:=OO hpr;obtain⟨x1,c1,e1, -⟩:=hu.1.rs;obtain⟨x2,c2,e2, -⟩:=hu.2.subs;simp only[Value.slice.injEq]at e1 e2;refine⟨hid.symm,?_,hrs.symm,?_,hss⟩
  ·rw[e1.2.1,hrs];rfl
  ·show v.sn=u.sn;rw[e2.2.1,<-hl];exact hss.1
 ·refine⟨X8,?_,h2,fun h=>absurd h h0⟩;rw[h1,h3 h0];rfl
theorem bV.grow(h:bV vs us)(hi:i<vs.length)(hu:nF (L0 (aE vs i) (qP r (aE vs i).rs)) u):bV (eE vs i r) (us.set i u):=by
 unfold eE;refine⟨by rw[List.length_set,List.length_set];exact h.1,fun j hj=>?_⟩;rw[List.length_set]at hj;rw[eO hi,eO (by rw[<-h.1];exact hi)];by_cases e:i=j
 ·rw[if_pos e,if_pos e];exact hu
 ·rw[if_neg e,if_neg e];exact h.2 j hj
theorem OP(x:Option Addr)(n c:Nat)(vs:List Vn)(lx:Option Addr)(ln lc:Nat)(ls:List (Int×Int))(id:Int)(r:Rg)(w:World)(hp:VS w x n vs)(hn:n<=9223372036854775807)(hnc:n<=c)(hl:PS w lx ln ls)(hln:ln<=9223372036854775807):
  Calls Tryz.prog 100 #[.agg #[.slice x n c, .slice lx ln lc], .int .i64 id, .agg #[.int .i64 r.a, .int .i64 r.l, .int .i64 r.p]] w (dA (iO n vs ln ls id r) (vH n vs ls id r) w):=by
 have hvl:Hid (vs.length=n):=hp.len;have hll:Hid (ls.length=ln):=hl.len;obtain⟨E,hEE⟩:∃E,E=iO n vs ln ls id r:=⟨_,rfl⟩;rw[<-hEE];unfold iO at hEE;replace hEE:=Hid.mk' hEE;go_enter Tryz.func100,Tryz.ntmps100;go_upto_region 1 with fail
 obtain⟨w0,hw0⟩:∃w0,w0=((w.alloc (nH x n c lx ln lc)).alloc (.cells #[.int .i64 r.a, .int .i64 r.l, .int .i64 r.p] 127)).alloc (eD (.slice none 0 0) (.slice none 0 0)):=⟨_,rfl⟩;rw[<-hw0];have hT0:TQ w w0 x n c lx ln lc r:=by
  rw[hw0];exact⟨aG _ (aG _ (aB _ rfl)),aG _ (aB _ (by simp)),aB _ (by simp),(bO w _ _).trans ((bl1 _ _).mono (by simp;omega))⟩
 clear hw0;obtain⟨k0,k1⟩:=aR hT0.hb rfl rfl;obtain⟨ks0,ks1⟩:=aR hT0.hs rfl rfl;obtain⟨kz0,kz1⟩:=bW hT0.hs;by_cases hc0:cW n vs ln ls=0
 ·have hck:=fI x n c vs lx ln lc ls 0 hc0 w0 (hp.later hT0.below) hn hnc (hl.later hT0.below) hln;obtain⟨h6,h12,hfew⟩:=mO hc0;rw[if_pos hc0]at hEE;obtain⟨-, -,hvb,hlb, -⟩:=lW hc0;have hvf:=AF hvb;have hlk0:=vE hvl.out hlb;have hr4:∀i,i<n->(aE vs i).rs.length<=4:=fun i hi=>by
   rw[(hp.vps i hi).2.2.2.ranges.len];exact(dU (HX hvb i hi)).1
  clear hc0 hvb hlb;go_wp2_with fail;refine hck.mono ?_;rintro e w1 ⟨rfl,hb⟩;have hT1:=hT0.later hb;clear k0 k1 ks0 ks1 kz0 kz1;obtain⟨k0,k1⟩:=aR hT1.hb rfl rfl;obtain⟨ks0,ks1⟩:=aR hT1.hs rfl rfl;obtain⟨kz0,kz1⟩:=bW hT1.hs;clear hck;obtain⟨t,ht⟩:∃t,aJ n vs id=t:=⟨_,rfl⟩;have hpl:=tB id x n c vs lx ln lc t ht w1 (hp.later hT1.below) (by omega);have hvc:=vplace_cases n vs id;have hRt:Hid (∀us ms,bV (eE vs t.toNat r) us->ms=ls->vH n vs ls id r us ms):=fun us ms h1 h2=>⟨by rw[ht];exact h1,h2⟩;rw[ht]at hEE hvc;clear ht;rcases hvc with ⟨i,hi, -,hti⟩|hti
  ·subst hti;have hi0:¬((i:Int)<0):=by omega
   rw[if_neg hi0,Int.toNat_natCast]at hEE;rw[Int.toNat_natCast]at hRt;go_wp2_with fail;refine hpl.mono ?_;rintro e w2 ⟨rfl,hb⟩;have hT2:=hT1.later hb;clear k0 k1 ks0 ks1 kz0 kz1;obtain⟨k0,k1⟩:=aR hT2.hb rfl rfl;obtain⟨ks0,ks1⟩:=aR hT2.hs rfl rfl;obtain⟨kz0,kz1⟩:=bW hT2.hs;clear hpl;have hi':Hid (i<n):=hi;have hvp:=(hp.later hT2.below).vps i hi;have hgr:=fun W (hW:Below w2.heap.size w2 W)=>KR (aE vs i).id (aE vs i).rx (aE vs i).rn (aE vs i).rc (aE vs i).rs (aE vs i).sx (aE vs i).sn (aE vs i).sc (aE vs i).ss r W (hvp.2.2.2.later hW) hvp.1 hvp.2.1 hvp.2.2.1;have hsl:Hid ((aE vs i).ss.length=(aE vs i).sn):=hvp.2.2.2.subs.len;obtain⟨bx,ox,hxo,d0,d1,d2⟩:=(hp.later hT2.below).cells i hi;subst hxo;have hi1:(i:Int)<n:=by omega
   have hi2:(0:Int)<=i:=by omega
   have a0:=Ws.here k0;have a1:=Ws.here d0;have a2:=Ws.here d1;have a3:=Ws.here d2;have a4:=Ws.here (aP hT2.hp 0 rfl);have a5:=Ws.here (aP hT2.hp 1 rfl);have a6:=Ws.here (aP hT2.hp 2 rfl);go_upto_region 7 with fail
   clear d0 d1 d2;obtain⟨eg,heg⟩:∃eg,fW (aE vs i).id (aE vs i).rn (aE vs i).rs (aE vs i).sn (aE vs i).ss r=eg:=⟨_,rfl⟩;rw[heg]at hEE;go_cut [10,11] (fun p v wd=>v= .int .i64 eg/\∃bp u,p= .pointer (some ⟨bp,0,none⟩)/\w2.heap.size<=bp/\Below w2.heap.size w2 wd/\wd.heap[bp]?=some (VR u)/\(eg=0->mC wd w2.heap.size u/\nF (L0 (aE vs i) (qP r (aE vs i).rs)) u))
   case first=>
    clear k0 k1 ks0 ks1 kz0 kz1
    have hbd:Below w2.heap.size w2 w2.drew:=(zD).drew
    refine bN (fun w'=>∃u:Ws w2.heap.size w2,w'=u.val) (fun j=>decide (j<12)) 13 _ (by kernel_rfl) rfl rfl ?_
    refine bL 7 [0,1,2,3,4,5] rfl _ rfl (by kernel_rfl) (fun d _ _ _ _ h=>by cases d<;>exact h) ⟨⟨_,hbd⟩,rfl⟩ ?_
    simp only[zK,zM,zI,zJ]
    repeat(go_big_quiet_step (fail))
    refine wpQuiet_nil ?_
    clear a0 a1 a2 a3 a4 a5 a6
    refine kO 6 10 _ _ _ _ (by kernel_rfl) (by kernel_rfl) rfl rfl rfl rfl ?_ ?_
    ·intro K hK;simp only[zI,zJ];go_wp2_with fail;refine(hgr w2.drew hbd).mono ?_;rintro e w3 hpo;obtain⟨u,rfl,hb3,hu⟩:=L1 hsl.out heg hpo;have hB3:Below w2.heap.size w2 w3:=⟨hb3.os,hb3.tape,hb3.output,hb3.size,hb3.block⟩;go_wp2_with fail;refine aD (hK.out _ _ ⟨⟨_,hB3⟩,rfl⟩ ?_);clear hK K;refine bL 3 [7,8,9] rfl _ rfl (by kernel_rfl) (fun d _ _ _ _ h=>by cases d<;>exact h) ⟨⟨_,hB3⟩,rfl⟩ ?_;simp only[zK,zM,zI,zJ];repeat(go_big_quiet_step (fail))
     refine wpQuiet_nil ?_;refine aZ 10 _ _ (by kernel_rfl) (by kernel_rfl) rfl rfl ?_;intro K hK;simp only[zI,zJ];go_wp2_with fail;have hB4:Below w2.heap.size w2 (w3.alloc (cY 0 (.slice none 0 0) (.slice none 0 0))):=hB3.trans ((bl1 w3 _).mono hB3.size);refine aD (hK.out _ _ ⟨⟨_,hB4⟩,rfl⟩ ?_);clear hK K;obtain⟨w4,hw4⟩:∃w4,w4=w3.alloc (cY 0 (.slice none 0 0) (.slice none 0 0)):=⟨_,rfl⟩;rw[<-hw4]at hB4⊢;have h34:Below w3.heap.size w3 w4:=by rw[hw4];exact bl1 w3 _
     have hy:w4.heap[w3.heap.size]?=some (cY 0 (.slice none 0 0) (.slice none 0 0)):=by rw[hw4];exact aB _ rfl
     clear hw4;have hnb:w2.heap.size<=w3.heap.size:=hB3.size;have hu4:=fun h=>((hu h).1.low (base':=w2.heap.size) (zE)).later h34;have hsu:=fun h=>(hu h).2;obtain⟨bp,hbp⟩:∃bp,bp=w3.heap.size:=⟨_,rfl⟩;rw[<-hbp]at hy hnb⊢;clear hbp;obtain⟨q0,q1,q2⟩:=bI hy rfl rfl rfl;obtain⟨f0,f1,f2⟩:=dQ hy;refine aZ 11 _ _ (by kernel_rfl) (by kernel_rfl) rfl rfl ?_;intro K hK;simp only[zI,zJ];go_wp2_with fail;have hB5:Below w2.heap.size w2 (((w4.setCell ⟨bp,0,none⟩ (.int .i64 u.id)).setCell ⟨bp,1,none⟩ (.slice u.rx u.rn u.rc)).setCell ⟨bp,2,none⟩ (.slice u.sx u.sn u.sc)):=((hB4.setCell (p:=⟨bp,0,none⟩) hnb _).setCell (p:=⟨bp,1,none⟩) hnb _).setCell (p:=⟨bp,2,none⟩) hnb _;refine aD (hK.out _ _ ⟨⟨_,hB5⟩,rfl⟩ ?_);clear hK K q0 q1 q2 f0 f1 f2;refine bB [12] rfl (by kernel_rfl) ?_;simp only[zK,zM,zI,zJ];go_wp2_with fail;go_meet
     case rel=>exact⟨rfl,bp,u,rfl,hnb,hB5,E2 hy,fun h=>⟨(((hu4 h).putBox (o:=0) (u:= .int .i64 u.id) hy (by decide) (by decide) (by decide) (by decide)).putBox (o:=1) (u:= .slice u.rx u.rn u.rc) (heap_setCell_same w4 bp 0 _ _ _ hy) (by decide) (by decide) (by decide) (by decide)).putBox (o:=2) (u:= .slice u.sx u.sn u.sc) (heap_setCell_same _ bp 1 _ _ _ (heap_setCell_same w4 bp 0 _ _ _ hy)) (by decide) (by decide) (by decide) (by decide),hsu h⟩⟩
    ·intro K hK;simp only[zI,zJ];go_wp2_with fail;have hB3:Below w2.heap.size w2 (w2.alloc (cY 0 (.slice none 0 0) (.slice none 0 0))).drew:=(bl1 w2 _).drew;refine aD (hK.out _ _ ⟨⟨_,hB3⟩,rfl⟩ ?_);clear hK K;have hy0:((w2.alloc (cY 0 (.slice none 0 0) (.slice none 0 0))).drew).heap[w2.heap.size]?=some (cY 0 (.slice none 0 0) (.slice none 0 0)):=aB (W:=w2) _ rfl;refine aZ 6 _ _ (by kernel_rfl) (by kernel_rfl) rfl rfl ?_;intro K hK;simp only[zI,zJ];go_wp2_with fail;refine(hgr _ hB3).mono ?_;rintro e w4 hpo;obtain⟨u,rfl,hb3,hu⟩:=L1 hsl.out heg hpo;have hB4:Below w2.heap.size w2 w4:=hB3.trans (hb3.mono hB3.size);go_wp2_with fail;refine aD (hK.out _ _ ⟨⟨_,hB4⟩,rfl⟩ ?_);clear hK K;refine bL 2 [7,8,9] rfl _ rfl (by kernel_rfl) (fun d _ _ _ _ h=>by cases d<;>exact h) ⟨⟨_,hB4⟩,rfl⟩ ?_;simp only[zK,zM,zI,zJ];repeat(go_big_quiet_step (fail))
     refine wpQuiet_nil ?_;have hy:=aA hb3 hy0;have hnb:w2.heap.size<=w2.heap.size:=zE;have hu4:=fun h=>(hu h).1.low (base':=w2.heap.size) hB3.size;have hsu:=fun h=>(hu h).2;obtain⟨q0,q1,q2⟩:=bI hy rfl rfl rfl;obtain⟨f0,f1,f2⟩:=dQ hy;refine aZ 11 _ _ (by kernel_rfl) (by kernel_rfl) rfl rfl ?_;intro K hK;simp only[zI,zJ];go_wp2_with fail;have hB5:Below w2.heap.size w2 (((w4.setCell ⟨w2.heap.size,0,none⟩ (.int .i64 u.id)).setCell ⟨w2.heap.size,1,none⟩ (.slice u.rx u.rn u.rc)).setCell ⟨w2.heap.size,2,none⟩ (.slice u.sx u.sn u.sc)):=((hB4.setCell (p:=⟨w2.heap.size,0,none⟩) hnb _).setCell (p:=⟨w2.heap.size,1,none⟩) hnb _).setCell (p:=⟨w2.heap.size,2,none⟩) hnb _;refine aD (hK.out _ _ ⟨⟨_,hB5⟩,rfl⟩ ?_);clear hK K q0 q1 q2 f0 f1 f2;refine bB [12] rfl (by kernel_rfl) ?_;simp only[zK,zM,zI,zJ];go_wp2_with fail;go_meet
     case rel=>exact⟨rfl,w2.heap.size,u,rfl,hnb,hB5,E2 hy,fun h=>⟨(((hu4 h).putBox (o:=0) (u:= .int .i64 u.id) hy (by decide) (by decide) (by decide) (by decide)).putBox (o:=1) (u:= .slice u.rx u.rn u.rc) (heap_setCell_same w4 w2.heap.size 0 _ _ _ hy) (by decide) (by decide) (by decide) (by decide)).putBox (o:=2) (u:= .slice u.sx u.sn u.sc) (heap_setCell_same _ w2.heap.size 1 _ _ _ (heap_setCell_same w4 w2.heap.size 0 _ _ _ hy)) (by decide) (by decide) (by decide) (by decide),hsu h⟩⟩
   case rest=>
    obtain⟨rfl,bp,u,rfl,hnb,hBc,hbp,hu⟩:=hcut
    have hTc:=hT2.later hBc
    clear k0 k1 ks0 ks1 kz0 kz1
    clear a0 a1 a2 a3 a4 a5 a6 hgr
    obtain⟨k0,k1⟩:=aR hTc.hb rfl rfl
    obtain⟨ks0,ks1⟩:=aR hTc.hs rfl rfl
    obtain⟨kz0,kz1⟩:=bW hTc.hs
    by_cases heg0:eg=0
    ·rw[if_pos heg0]at hEE;obtain⟨hVu,hsu⟩:=hu heg0;have hne:(eg !=0)=false:=by simp[heg0]
     have hEH:Hid (E=if E1 ls n (eE vs i r)=false then 9 else 0):=hEE.out;have hru:Hid (u.rn<=64):=by
      show _<=_;rw[<-hsu.2.1];have h1:=hr4 i hi'.out;show(qP r (aE vs i).rs).length<=64;rw[DJ];omega
     have hfn:=gA (some ⟨bx,ox,none⟩) n c vs lx ln lc ls wc (hp.later hTc.below) (by omega) (hl.later hTc.below) (by omega) hfew;clear hEE heg0 hu heg;go_wp2_with fail;refine hfn.mono ?_;rintro e w4 ⟨vV,vK,us,rfl,hsv,hOV,hVo,hOK,hb4⟩;have hT4:=hTc.later hb4;clear hfn hne;have hul:Hid (us.length=n):=by show _=_;rw[<-hsv.1];exact hvl.out
     have hiu:i<us.length:=by rw[hul.out];exact hi'.out
     obtain⟨g,C,hvV⟩:=hOV.held (by omega);obtain⟨Y,D,hvK,hYm⟩:=hOK.mem;subst hvV;subst hvK;have hw3s:Hid (w.heap.size+2<wc.heap.size):=(zG hTc.hs);have hbp4:=aA hb4 hbp;clear k0 k1 ks0 ks1 kz0 kz1;go_upto_region 11 with fail
     obtain⟨w5,hw5⟩:∃w5,w5=w4.alloc (eD (.slice (some ⟨g,0,none⟩) us.length C) (.slice Y ls.length D)):=⟨_,rfl⟩;rw[<-hw5];have hb5:Below w4.heap.size w4 w5:=by rw[hw5];exact bl1 w4 _
     have hbx5:w5.heap[w4.heap.size]?=some (eD (.slice (some ⟨g,0,none⟩) us.length C) (.slice Y ls.length D)):=by rw[hw5];exact aB _ rfl
     clear hw5;have hT5:=hT4.later hb5;have hbp5:=aA hb5 hbp4;have hOV5:=hOV.later hb5;obtain⟨hgb,cur,hcur⟩:=hOV5.block;obtain⟨y0,y1,y2⟩:=hOV5.cells i hiu;have z0:=hOV5.frozen (i*3);have z1:=hOV5.frozen (i*3+1);have z2:=hOV5.frozen (i*3+2);have m0:=aP hbx5 0 rfl;obtain⟨u0,u1,u2⟩:=bI hbp5 rfl rfl rfl;have hi3:(i:Int)<us.length:=by omega
     have hOVs:=hOV5.setE i hiu u;have hVos:∀j,j<us.length->mC (iZ w5 g i u) w2.heap.size (aE (us.set i u) j):=fun j hj=>by
      rw[eO hiu];split
      ·exact(((hVu.later hb4).later hb5)).setN hOV5
      ·exact((((hVo j hj).later hb5)).setN hOV5).low hBc.size
     have hOKs:bU (iZ w5 g i u) wc.heap.size (.slice Y ls.length D) ls:=(hOK.later hb5).setN hOV5;have hne4:w4.heap.size≠g:=fun e=>by rw[<-e,hbx5]at hcur;simp at hcur
     have hbxs:(iZ w5 g i u).heap[w4.heap.size]?=some (eD (.slice (some ⟨g,0,none⟩) us.length C) (.slice Y ls.length D)):=(fZ hne4).trans hbx5;have hg0:w.heap.size≠g:=by have:=hw3s.out;omega
     have hg1:w.heap.size+1≠g:=by have:=hw3s.out;omega
     have hg2:w.heap.size+2≠g:=by have:=hw3s.out;omega
     have hTs:TQ w (iZ w5 g i u) (some ⟨bx,ox,none⟩) n c lx ln lc r:=⟨(fZ hg0).trans hT5.hb,(fZ hg1).trans hT5.hp,(fZ hg2).trans hT5.hs,mN hT5.below (by have:=hw3s.out;omega)⟩;go_upto_region 12 with fail
     obtain⟨w6,hw6⟩:∃w6,w6=iZ w5 g i u:=⟨_,rfl⟩;rw[<-hw6]at hOVs hVos hOKs hbxs hTs;unfold iZ at hw6;rw[<-hw6];clear hw6 y0 y1 y2 z0 z1 z2 m0 u0 u1 u2 hOV5 hOV hVo hOK hbx5 hT5 hbp5 hbp4 hi3;have hsg:Hid (bV (eE vs i r) (us.set i u)):=hsv.grow (by rw[hvl.out];exact hi'.out) hsu;obtain⟨us',hus'⟩:∃us',Hid (us'=us.set i u):=⟨_,rfl⟩;have hul':Hid (us'.length=us.length):=by show _=_;rw[hus'.out,List.length_set]
     rw[<-hus'.out]at hOVs hVos hsg;have hVk:∀v∈us',kE w6 v:=fun v hv=>by
      obtain⟨j,hj,rfl⟩:=dH hv;exact kE.of (hVos j (by rw[<-hul'.out];exact hj))
     obtain⟨X',C',hv',hVS6,hXC', -, -⟩:=hOVs.vs hVk;rw[hul'.out]at hv' hVS6 hXC';simp only[Value.slice.injEq]at hv';obtain⟨hX', -,hC'⟩:=hv';subst hX';subst hC';obtain⟨Y',D',hk',hPS6, -⟩:=hOKs.ps;simp only[Value.slice.injEq]at hk';obtain⟨rfl, -,rfl⟩:=hk';have hR:=hRt.out us' ls hsg.out rfl;have hRH:Hid (vH n vs ls id r us' ls):=hR;obtain⟨ta,hta⟩:∃t,E1 ls n (eE vs i r)=t:=⟨_,rfl⟩;have hgl:(eE vs i r).length=n:=by unfold eE;rw[List.length_set];exact hvl.out
     have hap:=napart_is (some ⟨g,0,none⟩) us.length C us' Y ls.length D ls ta (by rw[hul.out,H3 hgl hsg.out];exact hta) w6 hVS6 (by rw[hul.out];omega) hXC' hPS6 (by rw[hll.out];omega) (fun j hj=>by
      rw[hus'.out,eO hiu];split
      ·rename_i e;rw[<-hsu.1];exact(hvf i hi'.out).1
      ·rw[<-(hsv.2 j (by rw[hsv.1];exact hj)).1];exact(hvf j (by rw[<-hul.out];exact hj)).1) (fun j hj=>by
      rw[hus'.out,eO hiu];split
      ·exact hru.out
      ·rw[<-(hsv.2 j (by rw[hsv.1];exact hj)).2.1];exact(hvf j (by rw[<-hul.out];exact hj)).2) (fun j hj=>by
      have h1:cQ us'=cQ vs:=by
       rw[H2 hsg.out];exact ST
      rw[h1];exact hlk0 j (by rw[<-hll.out];exact hj))
     rw[hta]at hEH;clear hta hVS6 hPS6 hR hRt;obtain⟨g0,g1⟩:=aR hbxs rfl rfl;go_wp2_with fail;refine hap.mono ?_;rintro e w8 ⟨rfl,hb8⟩;have hT8:=hTs.later hb8;have hbx8:=aA hb8 hbxs;have hO8:=hOVs.later hb8;have hVk8:=fun v hv=>(hVk v hv).later hb8;have hOK8:=hOKs.later hb8;have hVos8:=fun j hj=>(hVos j hj).later hb8;clear g0 g1 hap hOVs hVk hOKs hbxs hTs hb8 hVos;obtain⟨g0,g1⟩:=aR hbx8 rfl rfl;obtain⟨k0,k1⟩:=aR hT8.hb rfl rfl;obtain⟨ks0,ks1⟩:=aR hT8.hs rfl rfl;obtain⟨kz0,kz1⟩:=bW hT8.hs
     cases ta with
     |false=>
      have hE2:Hid (E=9/\(9:Int)≠0):=⟨hEH.out.trans (if_pos rfl),by decide⟩
      clear hEH
      go_wp2
      refine bodyPost_ret (v:= .tuple #[.agg #[.slice none 0 0, .slice none 0 0], .int .i64 9]) (by simp[results,Tryz.results100,go_sem,ks0,ks1]) rfl ?_
      exact dA.err hE2.out ((hT8.below.setCell (p:=⟨w.heap.size+2,0,none⟩) (zA) _).setCell (p:=⟨w.heap.size+2,1,none⟩) (zA) _)
     |true=>
      have hE3:Hid (E=0):=hEH.out.trans (if_neg (by decide))
      clear hEH
      have hw2s:Hid (w.heap.size+2<w2.heap.size):=(zG hT2.hs)
      have hO8':bZ w8 wc.heap.size (.slice (some ⟨g,0,none⟩) us.length C) us':=hO8
      go_wp2
      refine bodyPost_ret (v:= .tuple #[.agg #[.slice (some ⟨g,0,none⟩) us.length C, .slice Y ls.length D], .int .i64 0]) (by simp[results,Tryz.results100,go_sem,ks0,ks1]) rfl ?_
      exact dA.ok hE3.out ((hT8.below.setCell (p:=⟨w.heap.size+2,0,none⟩) (zA) _).setCell (p:=⟨w.heap.size+2,1,none⟩) (zA) _) (us:=us') (ms:=ls) (NO.of ((hO8'.put hw3s.out).put hw3s.out) (by have:=hw3s.out;omega) (b2:=w2.heap.size) (fun v hv=>by
       obtain⟨j,hj,rfl⟩:=dH hv;exact((hVos8 j (by rw[<-hul'.out];exact hj)).put hw2s.out).put hw2s.out) (by have:=hw2s.out;omega) ((hOK8.put hw3s.out).put hw3s.out) (by have:=hw3s.out;omega)) hRH.out
    ·rw[if_neg heg0]at hEE;have hE2:Hid (E=eg/\eg≠0):=⟨hEE.out,heg0⟩;have hne:(eg !=0)=true:=by simpa using heg0
     clear hEE hu heg heg0;go_wp2;refine bodyPost_ret (v:= .tuple #[.agg #[.slice none 0 0, .slice none 0 0], .int .i64 eg]) (by simp[results,Tryz.results100,go_sem,ks0,ks1]) rfl ?_;exact dA.err hE2.out ((hTc.below.setCell (p:=⟨w.heap.size+2,0,none⟩) (zA) _).setCell (p:=⟨w.heap.size+2,1,none⟩) (zA) _)
  ·subst hti;have hE2:Hid (E=5/\(5:Int)≠0):=⟨hEE.out.trans (if_pos (by decide)),by decide⟩;clear hEE hRt;go_wp2_with fail;refine hpl.mono ?_;rintro e w2 ⟨rfl,hb⟩;have hT2:=hT1.later hb;clear k0 k1 ks0 ks1 kz0 kz1;obtain⟨k0,k1⟩:=aR hT2.hb rfl rfl;obtain⟨ks0,ks1⟩:=aR hT2.hs rfl rfl;obtain⟨kz0,kz1⟩:=bW hT2.hs;clear hpl;go_wp2;refine bodyPost_ret (v:= .tuple #[.agg #[.slice none 0 0, .slice none 0 0], .int .i64 5]) (by simp[results,Tryz.results100,go_sem,ks0,ks1]) rfl ?_;exact dA.err hE2.out ((hT2.below.setCell (p:=⟨w.heap.size+2,0,none⟩) (zA) _).setCell (p:=⟨w.heap.size+2,1,none⟩) (zA) _)
 ·obtain⟨t,ht⟩:∃t,cW n vs ln ls=t:=⟨_,rfl⟩;have hck:=fI x n c vs lx ln lc ls t ht w0 (hp.later hT0.below) hn hnc (hl.later hT0.below) hln;rw[ht]at hc0 hEE;have hE1:Hid (E=t/\t≠0):=⟨by rw[hEE.out,if_neg hc0],hc0⟩;have hne:(t !=0)=true:=by simpa using hc0
  clear hEE ht;go_wp2_with fail;refine hck.mono ?_;rintro e w1 ⟨rfl,hb⟩;have hT1:=hT0.later hb;clear k0 k1 ks0 ks1 kz0 kz1;obtain⟨k0,k1⟩:=aR hT1.hb rfl rfl;obtain⟨ks0,ks1⟩:=aR hT1.hs rfl rfl;obtain⟨kz0,kz1⟩:=bW hT1.hs;clear hck;go_wp2;refine bodyPost_ret (v:= .tuple #[.agg #[.slice none 0 0, .slice none 0 0], .int .i64 t]) (by simp[results,Tryz.results100,go_sem,ks0,ks1]) rfl ?_;exact dA.err hE1.out ((hT1.below.setCell (p:=⟨w.heap.size+2,0,none⟩) (zA) _).setCell (p:=⟨w.heap.size+2,1,none⟩) (zA) _)
def dV(f:Fc):Fc:=⟨f.id,none,f.n,0,f.ns⟩
def cH(s:Sb):Sb:=⟨s.id,s.a,s.l,none,s.n,0,s.fs.map dV⟩
def bA(v:Vn):Vn:=⟨v.id,none,v.rn,0,v.rs,none,v.sn,0,v.ss.map cH⟩
theorem kF(fs:List Fc)(j:Nat):fcAt (fs.map dV) j=dV (fcAt fs j):=by
 unfold fcAt;rw[zF,zF,List.getElem?_map]
 cases fs[j]?<;>rfl
theorem eW(ss:List Sb)(j:Nat):sbAt (ss.map cH) j=cH (sbAt ss j):=by
 unfold sbAt;rw[zF,zF,List.getElem?_map]
 cases ss[j]?<;>rfl
theorem dI(vs:List Vn)(j:Nat):aE (vs.map bA) j=bA (aE vs j):=by
 unfold aE;rw[zF,zF,List.getElem?_map]
 cases vs[j]?<;>rfl
theorem eC.can{fs:List Fc}(h:eC fs gs):fs.map dV=gs.map dV:=by
 refine List.ext_getElem (by rw[List.length_map,List.length_map];exact h.1) fun i h1 h2=>?_;have hi:i<fs.length:=by simpa using h1
 have hj:i<gs.length:=by simpa using h2
 obtain⟨a,b,c⟩:=h.2 i hi;have e1:fcAt fs i=fs[i]:=by unfold fcAt;rw[zF,List.getElem?_eq_getElem hi];rfl
 have e2:fcAt gs i=gs[i]:=by unfold fcAt;rw[zF,List.getElem?_eq_getElem hj];rfl
 rw[List.getElem_map,List.getElem_map,<-e1,<-e2];unfold dV;rw[a,b,c]
theorem bQ.can(h:bQ ss ts):ss.map cH=ts.map cH:=by
 refine List.ext_getElem (by rw[List.length_map,List.length_map];exact h.1) fun i h1 h2=>?_;have hi:i<ss.length:=by simpa using h1
 have hj:i<ts.length:=by simpa using h2
 obtain⟨a,b,c,d,e⟩:=h.2 i hi;have e1:sbAt ss i=ss[i]:=by unfold sbAt;rw[zF,List.getElem?_eq_getElem hi];rfl
 have e2:sbAt ts i=ts[i]:=by unfold sbAt;rw[zF,List.getElem?_eq_getElem hj];rfl
 rw[List.getElem_map,List.getElem_map,<-e1,<-e2];unfold cH;rw[a,b,c,d,e.can]
theorem nF.can{v:Vn}(h:nF v u):bA v=bA u:=by
 obtain⟨a,b,c,d,e⟩:=h;unfold bA;rw[a,b,c,d,e.can]
theorem bV.can(h:bV vs us):vs.map bA=us.map bA:=by
 refine List.ext_getElem (by rw[List.length_map,List.length_map];exact h.1) fun i h1 h2=>?_;have hi:i<vs.length:=by simpa using h1
 have hj:i<us.length:=by simpa using h2
 rw[List.getElem_map,List.getElem_map,<-fU hi,<-fU hj];exact(h.2 i hi).can
theorem SU(a l:Int)(n:Nat)(fs:List Fc):sZ a l n (fs.map dV)=sZ a l n fs:=by
 have h1:qL a l (fs.map dV)=qL a l fs:=by
  funext i;unfold qL;rw[kF];rfl
 have h2:rI (fs.map dV)=rI fs:=by
  unfold rI;rw[List.length_map];refine gS fun i _=>?_;unfold EV;rw[kF,kF];rfl
 have h3:bG (fs.map dV)=bG fs:=by
  unfold bG;rw[List.flatMap_map];rfl
 unfold sZ;rw[h1,h2,h3]
theorem tM(vid:Int)(rn:Nat)(rs:List Rg)(sn:Nat)(ss:List Sb):bD vid rn rs sn (ss.map cH)=bD vid rn rs sn ss:=by
 have h1:eL rn sn (ss.map cH)=eL rn sn ss:=by
  unfold eL;refine congrArg (fun f=>decide (4<rn)||decide (6<sn)||anyAt sn f) (funext fun i=>?_);rw[eW];unfold fR;refine congrArg (fun f=>decide (8<(sbAt ss i).n)||anyAt (sbAt ss i).n f) (funext fun j=>?_);show decide (4<(fcAt ((sbAt ss i).fs.map dV) j).n)=_;rw[kF];rfl
 have h2:tA rn rs (ss.map cH)=tA rn rs ss:=by
  funext i;unfold tA;rw[eW];have e1:∀c m,C4 (ss.map cH) c m=C4 ss c m:=fun c m=>funext fun j=>by
   unfold C4;rw[eW];rfl
  rw[e1];show(rJ rn rs (sbAt ss i).id (sbAt ss i).a (sbAt ss i).l&&!anyAt i (C4 ss (sbAt ss i).a (sbAt ss i).l)&&sZ (sbAt ss i).a (sbAt ss i).l (sbAt ss i).n ((sbAt ss i).fs.map dV))=_;rw[SU]
 have h3:rH (ss.map cH)=rH ss:=by
  unfold rH;rw[List.length_map];refine gS fun i _=>?_;unfold xY;rw[eW,eW];rfl
 unfold bD B5;rw[h1,h2,h3]
theorem bJ(n:Nat)(vs:List Vn)(id:Int):aJ n (vs.map bA) id=aJ n vs id:=by
 have h:(fun i=>(aE (vs.map bA) i).id==id)=fun i=>(aE vs i).id==id:=funext fun i=>by
  rw[dI];rfl
 unfold aJ;rw[h]
theorem FA(ms:List (Int×Int))(n:Nat)(vs:List Vn):E1 ms n (vs.map bA)=E1 ms n vs:=by
 unfold E1;refine gS fun i _=>?_;unfold R4;refine gS fun j _=>?_;unfold N6;rw[dI,dI];rfl
theorem oW(n:Nat)(vs:List Vn)(ln:Nat)(ls:List (Int×Int)):cW n (vs.map bA) ln ls=cW n vs ln ls:=by
 have h1:jY n (vs.map bA)=jY n vs:=by
  have e1:oO (vs.map bA)=oO vs:=by
   unfold oO;rw[List.length_map];refine gS fun i _=>?_;unfold EZ;rw[dI,dI];rfl
  have e2:(fun i=>mK (aE (vs.map bA) i))=fun i=>mK (aE vs i):=funext fun i=>by
   rw[dI];unfold mK;show(!(bD (aE vs i).id (aE vs i).rn (aE vs i).rs (aE vs i).sn ((aE vs i).ss.map cH)==0))=_;rw[tM]
  unfold jY;rw[e1,e2]
 have h2:eR n (vs.map bA) ln ls=eR n vs ln ls:=by
  have e:uZ n (vs.map bA) ls=uZ n vs ls:=funext fun i=>by
   unfold uZ;rw[bJ,bJ]
  unfold eR;rw[e]
 unfold cW;rw[h1,h2,FA]
theorem vI(n:Nat)(vs:List Vn)(ln:Nat)(ls:List (Int×Int))(id:Int):iS n (vs.map bA) ln ls id=iS n vs ln ls id:=by
 unfold iS;rw[oW,bJ]
theorem DK(n:Nat)(vs:List Vn)(ln:Nat)(ls:List (Int×Int))(a b:Int):lX n (vs.map bA) ln ls a b=lX n vs ln ls a b:=by
 unfold lX;rw[oW]
theorem vJ(n:Nat)(vs:List Vn)(ln:Nat)(ls:List (Int×Int))(a b:Int):oV n (vs.map bA) ln ls a b=oV n vs ln ls a b:=by
 unfold oV;rw[oW,bJ,bJ,FA]
theorem mP(vs:List Vn)(i:Nat)(r:Rg):(eE vs i r).map bA=eE (vs.map bA) i r:=by
 unfold eE;rw[List.map_set,dI];rfl
theorem rQ(n:Nat)(vs:List Vn)(ln:Nat)(ls:List (Int×Int))(id:Int)(r:Rg):iO n (vs.map bA) ln ls id r=iO n vs ln ls id r:=by
 have h:∀i,fW (aE (vs.map bA) i).id (aE (vs.map bA) i).rn (aE (vs.map bA) i).rs (aE (vs.map bA) i).sn (aE (vs.map bA) i).ss r=fW (aE vs i).id (aE vs i).rn (aE vs i).rs (aE vs i).sn (aE vs i).ss r:=fun i=>by
  rw[dI];unfold fW;show(if bD (aE vs i).id (aE vs i).rn (aE vs i).rs (aE vs i).sn ((aE vs i).ss.map cH)≠0 then bD (aE vs i).id (aE vs i).rn (aE vs i).rs (aE vs i).sn ((aE vs i).ss.map cH)else _)=_;rw[tM];rfl
 unfold iO;rw[oW,bJ,h,<-mP,FA]
def AQ(id:Int)(vs:List Vn):Nat:=((List.range vs.length).find? fun i=>decide (id<(aE vs i).id)).getD vs.length
def AR(id:Int)(vs:List Vn):List Vn:=vs.take (AQ id vs)++[newV id]++vs.drop (AQ id vs)
theorem SV{id:Int}(hi:i<=vs.length)(hlo:∀j,j<i->¬id<(aE vs j).id)(hup:i<vs.length->id<(aE vs i).id):AQ id vs=i:=by
 unfold AQ;by_cases h:i<vs.length
 ·have:(List.range vs.length).find? (fun i=>decide (id<(aE vs i).id))=some i:=by
   rw[List.find?_range_eq_some];exact⟨by simpa using hup h,by simpa using h,fun j hj=>by simpa using hlo j hj⟩
  rw[this];rfl
 ·obtain rfl:i=vs.length:=by omega
  have:(List.range vs.length).find? (fun i=>decide (id<(aE vs i).id))=none:=by
   rw[List.find?_eq_none];intro j hj;have:=hlo j (by simpa using hj);simpa using this
  rw[this];rfl
theorem OQ(id:Int)(vs:List Vn):AQ id (vs.map bA)=AQ id vs:=by
 unfold AQ;have h:(fun i=>decide (id<(aE (vs.map bA) i).id))=fun i=>decide (id<(aE vs i).id):=funext fun i=>by
  rw[dI];rfl
 rw[h,List.length_map]
theorem OR(id:Int)(vs:List Vn):(AR id vs).map bA=AR id (vs.map bA):=by
 unfold AR;rw[OQ,List.map_append,List.map_append,List.map_take,List.map_drop];rfl
theorem SK.can{id:Int}(h:SK id vs us):us.map bA=AR id (vs.map bA):=by
 obtain⟨us0,i,hs,hi,hlo,hup,rfl⟩:=h;have e:us0.take i++[newV id]++us0.drop i=AR id us0:=by
  unfold AR;rw[SV hi hlo hup]
 rw[e,OR,hs.can]
theorem SW(h:vs.map bA=us.map bA)(hv:∀v∈vs,kE w v)(hu:∀v∈us,kE w' v):bV vs us:=by
 refine⟨by have:=congrArg List.length h;simpa using this,fun i hi=>?_⟩;have hj:i<us.length:=by have:=congrArg List.length h;simp at this;omega
 have e:=congrArg (fun l=>aE l i) h;simp only[dI]at e;unfold bA at e;simp only[Vn.mk.injEq,true_and]at e;obtain⟨e1,e2,e3,e4,e5⟩:=e;refine⟨e1,e2,e3,e4,?_⟩;have hv':=(hv _ (eA hi)).2.2.2.subs;have hu':=(hu _ (eA hj)).2.2.2.subs;refine⟨by have:=congrArg List.length e5;simpa using this,fun k hk=>?_⟩;have f:=congrArg (fun l=>sbAt l k) e5;simp only[eW]at f;unfold cH at f;simp only[Sb.mk.injEq,true_and]at f;obtain⟨f1,f2,f3,f4,f5⟩:=f;refine⟨f1,f2,f3,f4,?_⟩;refine⟨by have:=congrArg List.length f5;simpa using this,fun q hq=>?_⟩;have g:=congrArg (fun l=>fcAt l q) f5;simp only[kF]at g;unfold dV at g;simp only[Fc.mk.injEq,true_and]at g;exact⟨g.1,g.2.1,g.2.2⟩
theorem FB(x y:Option Addr)(n c d:Nat)(vs us:List Vn)(lx ly:Option Addr)(ln lc ld:Nat)(ls:List (Int×Int))(w:World)(hp:VS w x n vs)(hq:VS w y n us)(hs:bV vs us)(hl:PS w lx ln ls)(hm:PS w ly ln ls)(hn:n<=9223372036854775807)(hln:ln<=9223372036854775807):
  Calls Tryz.prog 18 #[.agg #[.slice x n c, .slice lx ln lc], .agg #[.slice y n d, .slice ly ln ld]] w fun e w'=>e= .returned (.bool true)/\Below w.heap.size w w':=by
 have hs':Hid (bV vs us):=hs;have hvl:Hid (vs.length=n):=hp.len;clear hs;go_enter Tryz.func18,Tryz.ntmps18;go_upto_region 1 with fail
 obtain⟨w2,hw2⟩:∃w2,w2=(w.alloc (nH x n c lx ln lc)).alloc (nH y n d ly ln ld):=⟨_,rfl⟩;rw[<-hw2];have h02:Below w.heap.size w w2:=by rw[hw2];exact bO w _ _
 have hbx:w2.heap[w.heap.size]?=some (nH x n c lx ln lc):=by rw[hw2];exact aG _ (aB _ rfl)
 have hby:w2.heap[w.heap.size+1]?=some (nH y n d ly ln ld):=by rw[hw2];exact aB _ (by simp)
 clear hw2;obtain⟨q0,q1⟩:=aR hbx rfl rfl;obtain⟨q2,q3⟩:=aR hby rfl rfl;have hp2:=hp.later h02;have hq2:=hq.later h02;have hl2:=hl.later h02;have hm2:=hm.later h02;have hsz:Hid (w.heap.size<=w2.heap.size):=h02.size;clear hbx hby hp hq hl hm;generalize hbk:w.heap.size=bk at*;go_wp2;go_loopw [5] (fun i wr=>∃k:Nat,k<=n/\i= .int .i64 k/\Below w2.heap.size w2 wr) (fun i _=>n- (intOf i).toNat)
 case atStart=>exact⟨0,by omega,rfl,zD⟩
 case round=>
  obtain⟨k,hk,rfl,hB⟩:=hrel
  have r0:=cell_later hB q0
  have r2:=cell_later hB q2
  by_cases hlt:k<n
  ·have hlt':Hid (k<n):=hlt;obtain⟨e1,e2,e3,e4,e5⟩:=hs'.out.2 k (by rw[hvl.out];exact hlt);have v1:=(hp2.later hB).vps k hlt;have v2:=(hq2.later hB).vps k hlt;obtain⟨b1,o1,hx1,c0,c1,c2⟩:=(hp2.later hB).cells k hlt;obtain⟨b2,o2,hx2,d0,d1,d2⟩:=(hq2.later hB).cells k hlt;rw[<-e1]at d0;rw[<-e2]at d1;rw[<-e4]at d2;rw[<-e2,<-e3,<-e4]at v2;have hsv:=fun W (hW:Below wr.heap.size wr W)=>E8 (aE vs k).id (aE vs k).rx (aE us k).rx (aE vs k).rn (aE vs k).rc (aE us k).rc (aE vs k).rs (aE vs k).sx (aE us k).sx (aE vs k).sn (aE vs k).sc (aE us k).sc (aE vs k).ss (aE us k).ss W (v1.2.2.2.later hW) (v2.2.2.2.later hW) e5 v1.1 v1.2.1;clear e1 e2 e3 e4 e5 v1 v2;subst hx1;subst hx2;have a0:=Ws.here r0;have a1:=Ws.here r2;have a2:=Ws.here c0;have a3:=Ws.here c1;have a4:=Ws.here c2;have a5:=Ws.here d0;have a6:=Ws.here d1;have a7:=Ws.here d2;go_upto_region 6 with fail
   clear r0 r2 c0 c1 c2 d0 d1 d2;refine aH wr.heap.size (by kernel_rfl) (by kernel_rfl) ?_;repeat(go_big_quiet_step (first|(go_at_call 30;exact Calls.in_ws (zE) (hsv _ (Ws.property _)))))
   refine wpQuiet_nil ?_;rintro _ ⟨u,rfl⟩;have hbu:=u.property;generalize u.val=wu at hbu⊢;clear u a0 a1 a2 a3 a4 a5 a6 a7 hsv;go_wp2;go_roundw
   case rel=>exact⟨k+1,hlt'.out,by go_num,hB.trans (hbu.mono hB.size)⟩
   case measure=>simp[intOf];have:=hlt'.out;omega
  ·obtain rfl:n=k:=by omega
   clear r2 hlt hk;obtain⟨w3,hw3⟩:∃w3,w3=wr:=⟨_,rfl⟩;subst hw3;have h03:Below bk w w3:=h02.trans (hB.mono hsz.out);have hsz3:Hid (bk<=w3.heap.size):=Nat.le_trans hsz.out hB.size;have hl3:=hl2.later hB;have hm3:=hm2.later hB;have s1:=cell_later hB q1;have s3:=cell_later hB q3;clear hB hp2 hq2 hl2 hm2 q0 q1 q2 q3 h02 hsz;go_wp2;clear r0;go_loopw [6] (fun i wr=>∃k:Nat,k<=ln/\i= .int .i64 k/\Below w3.heap.size w3 wr) (fun i _=>ln- (intOf i).toNat)
   case atStart=>exact⟨0,by omega,rfl,zD⟩
   case round=>
    obtain⟨k,hk,rfl,hB⟩:=hrel
    have r1:=cell_later hB s1
    have r3:=cell_later hB s3
    by_cases hlt:k<ln
    ·have hlt':Hid (k<ln):=hlt;obtain⟨b1,o1,hx1,c0,c1⟩:=(hl3.later hB).cells k hlt;obtain⟨b2,o2,hx2,d0,d1⟩:=(hm3.later hB).cells k hlt;subst hx1;subst hx2;have a0:=Ws.here r1;have a1:=Ws.here r3;have a2:=Ws.here c0;have a3:=Ws.here c1;have a5:=Ws.here d0;have a6:=Ws.here d1;go_upto_region 11 with fail
     clear r1 r3 c0 c1 d0 d1;refine aH wr.heap.size (by kernel_rfl) (by kernel_rfl) ?_;repeat(go_big_quiet_step (fail))
     refine wpQuiet_nil ?_;rintro _ ⟨u,rfl⟩;have hbu:=u.property;generalize u.val=wu at hbu⊢;clear u a0 a1 a2 a3 a5 a6;go_wp2;go_roundw
     case rel=>exact⟨k+1,hlt'.out,by go_num,hB.trans (hbu.mono hB.size)⟩
     case measure=>simp[intOf];have:=hlt'.out;omega
    ·obtain rfl:ln=k:=by omega
     go_wp2;go_ret;exact⟨rfl,by first|exact h03.trans (hB.mono hsz3.out)|(rw[hbk];exact h03.trans (hB.mono hsz3.out))⟩
theorem H4{A:Value}(hA:NN w A vs ls)(hB:NN w B us ls)(h:vs.map bA=us.map bA):
  Calls Tryz.prog 18 #[A,B] w fun e w'=>e= .returned (.bool true)/\Below w.heap.size w w':=by
 obtain⟨x,c,lx,lc,rfl,h1,h2,h3,h4,h5,h6⟩:=hA;obtain⟨y,d,ly,ld,rfl,g1,g2,g3,g4,g5,g6⟩:=hB;have hl:us.length=vs.length:=by have:=congrArg List.length h;simpa using this.symm
 have hs:bV vs us:=SW h (fun v hv=>by
  obtain⟨i,hi,rfl⟩:=dH hv;exact h1.vps i hi) (fun v hv=>by
  obtain⟨i,hi,rfl⟩:=dH hv;exact g1.vps i hi)
 rw[hl]at g1 g3⊢;exact FB x y vs.length c d vs us lx ly ls.length lc ld ls w h1 g1 hs h2 g2 (by omega) (by omega)
structure Bx(w W:World)(b:Nat)(X:Option Addr)(C:Nat)(Y:Option Addr)(D:Nat)(us:List Vn)(ms:List (Int×Int)):Prop where
 box:W.heap[b]?=some (eD (.slice X us.length C) (.slice Y ms.length D))
 vs:VS W X us.length us
 ps:PS W Y ms.length ms
 xc:us.length<=C
 c63:C<=9223372036854775807
 yd:ms.length<=D
 d63:D<=9223372036854775807
 below:Below w.heap.size w W
theorem NO.agg(h:NO w base V us ms):∃X C Y D,V= .agg #[.slice X us.length C, .slice Y ms.length D]:=by
 obtain⟨X,C,Y,D,e, -⟩:=h.nn;exact⟨X,C,Y,D,e⟩
def C1:List Vn:=[newV 3]
def C2:List Vn:=[newV 1,newV 3]
def C3:List Vn:=eE C2 1 ⟨256,10,7⟩
theorem SX{ps:List (Int×Int)}:kV ps (i+1)=kD (lkAt ps i) (lkAt ps (i+1)):=by
 unfold kV kD;have e0:∀j,cM ps j=(lkAt ps j).1:=fun _=>rfl;have e1:∀j,eF ps j=(lkAt ps j).2:=fun _=>rfl;rw[Nat.add_sub_cancel,e0,e0,e1,e1];generalize lkAt ps i=p;generalize lkAt ps (i+1)=q;simp only[Bool.false_or,show(i+1==0)=false by simp];by_cases h1:p.1<q.1
 ·simp[h1]
 ·by_cases h2:p.1=q.1
  ·simp[h2]
  ·simp[h1,h2]
open Go.ChangeShapes Go.WideShapes Go.ChangeAt Go.RowKit Go.Joins
section
variable {H : Type} {enc : TypeId × Value → H} {w : World}
end
theorem NN.agg(h:NN w V us ms):∃X C Y D,V= .agg #[.slice X us.length C, .slice Y ms.length D]:=by
 obtain⟨X,C,Y,D,e, -⟩:=h;exact⟨X,C,Y,D,e⟩
def XL(p:Int×Int)(ls:List (Int×Int)):List (Int×Int):=ls.filter fun q=>!(decide (q.1=p.1)&&decide (q.2=p.2))
theorem H5{p q:Int×Int}(h:kD p q=true):kD q p=false:=by
 unfold kD at*;simp only[Bool.or_eq_false_iff,Bool.and_eq_false_iff,decide_eq_false_iff_not,Bool.or_eq_true,zH,decide_eq_true_eq]at*;rcases h with h|⟨h1,h2⟩
 ·exact⟨by omega, .inl (by omega)⟩
 ·exact⟨by omega, .inr (by omega)⟩
theorem KS{p q r:Int×Int}(h:kD p q=true)(g:kD q r=true):kD p r=true:=by
 unfold kD at*;simp only[Bool.or_eq_true,zH,decide_eq_true_eq]at*;omega
theorem AS(h:iM ls=true):∀(k j:Nat),j<k->k<ls.length->kD (lkAt ls j) (lkAt ls k)=true
 |0,j,hj,_=>by omega
 |k+1,j,hj,hk=>by
  have h1:kD (lkAt ls k) (lkAt ls (k+1))=true:=by
   rw[<-SX];unfold iM at h;exact List.all_eq_true.1 h (k+1) (by simpa using hk)
  by_cases e:j=k
  ·subst e;exact h1
  ·exact KS (AS h k j (by omega) (by omega)) h1
theorem bU.cells(h:bU w base (.slice (some ⟨g,0,none⟩) n cap) fs)(q:Nat)(hq:q<fs.length):
  w.cell? ⟨g,q*2,none⟩=some (.int .i64 (lkAt fs q).1)/\w.cell? ⟨g,q*2+1,none⟩=some (.int .i64 (lkAt fs q).2):=by
 obtain⟨x2,c2,he2, -, -, -,hm'⟩:=h.mem;simp only[Value.slice.injEq]at he2;obtain⟨b2,o2,he3,c7,c8⟩:=hm' q hq;rw[<-he2.1]at he3;simp only[Option.some.injEq,Addr.mk.injEq]at he3;obtain⟨rfl,rfl, -⟩:=he3;exact⟨by simpa using c7,by simpa using c8⟩
theorem L2(hr:iM ls=true)(h:XK a b ls ms):ms=XL (min a b,max a b) ls:=by
 obtain⟨i,hi,he,rfl⟩:=h;unfold eqLk at he;simp only[zH,decide_eq_true_eq]at he;have hip:lkAt ls i=(min a b,max a b):=Prod.ext he.1.symm he.2.symm;have hne:∀j,j<ls.length->j≠i->¬((lkAt ls j).1=min a b/\(lkAt ls j).2=max a b):=fun j hj hji e=>by
  have e2:lkAt ls j=lkAt ls i:=by rw[hip];exact Prod.ext e.1 e.2
  rcases Nat.lt_or_gt_of_ne hji with h1|h1
  ·have h2:=AS hr i j h1 hi;rw[e2]at h2;have h3:=H5 h2;rw[h2]at h3
   cases h3
  ·have h2:=AS hr j i h1 hj;rw[e2]at h2;have h3:=H5 h2;rw[h2]at h3
   cases h3
 have hat:∀j (hj:j<ls.length),ls[j]=lkAt ls j:=fun j hj=>by
  unfold lkAt;rw[zF,List.getElem?_eq_getElem hj];rfl
 have hsplit:ls=ls.take i++(lkAt ls i::ls.drop (i+1)):=by
  rw[<-hat i hi,<-List.drop_eq_getElem_cons hi,List.take_append_drop]
 have h1:(ls.take i).filter (fun q=>!(decide (q.1=min a b)&&decide (q.2=max a b)))=ls.take i:=by
  rw[List.filter_eq_self];intro q hq;obtain⟨j,hj,rfl⟩:=List.getElem_of_mem hq;rw[List.length_take]at hj;rw[List.getElem_take,hat j (by omega)];have:=hne j (by omega) (by omega);rw[Bool.not_eq_true',<-Bool.not_eq_true,zH,decide_eq_true_eq,decide_eq_true_eq];exact this
 have h2:(ls.drop (i+1)).filter (fun q=>!(decide (q.1=min a b)&&decide (q.2=max a b)))=ls.drop (i+1):=by
  rw[List.filter_eq_self];intro q hq;obtain⟨j,hj,rfl⟩:=List.getElem_of_mem hq;rw[List.length_drop]at hj;rw[List.getElem_drop,hat _ (by omega)];have:=hne (i+1+j) (by omega) (by omega);rw[Bool.not_eq_true',<-Bool.not_eq_true,zH,decide_eq_true_eq,decide_eq_true_eq];exact this
 unfold XL;show _=ls.filter (fun q=>!(decide (q.1=min a b)&&decide (q.2=max a b)));conv=>rhs;rw[hsplit]
 rw[List.filter_append,List.filter_cons_of_neg (by rw[hip];simp),h1,h2]
theorem KT(h:lX n vs ln ls a b=0):iM ls=true:=by
 unfold lX at h;split at h
 ·rename_i h0;have h1:=(lW h0).2.2.2.1;unfold eR at h1;rw[zH]at h1;exact h1.1
 ·rename_i h0;exact absurd h h0
theorem KU:¬aJ n vs y<0↔∃i,i<n/\(aE vs i).id=y:=by
 constructor
 ·intro h;rcases vplace_cases n vs y with ⟨i,hi,he, -⟩|e
  ·exact⟨i,hi,he⟩
  ·rw[e]at h;exact absurd (by decide) h
 ·rintro⟨i,hi,he⟩ h;unfold aJ at h
  cases hf:(List.range n).find? (fun i=>(aE vs i).id==y)with
  |none=>
   have:=List.find?_eq_none.1 hf i (by simpa using hi)
   simp[he]at this
  |some k=>
   rw[hf]at h
   simp only at h
   omega
theorem AT{f:Nat->Int}(h:∀i,i+1<n->f i<f (i+1)):∀(i k:Nat),k<i->i<n->f k<f i
 |0,k,hk,_=>by omega
 |i+1,k,hk,hi=>by
  have h1:=h i hi;by_cases e:k=i
  ·rw[e];exact h1
  ·have:=AT h i k (by omega) (by omega);omega
structure RV(vid:Int)(rn:Nat)(rs:List Rg)(sn:Nat)(ss:List Sb):Prop where
 r4:rn<=4
 s6:sn<=6
 iw:dE vid 1 65536=true
 rg:∀i,i<rn->IX (aQ rs i)=true
 ap:∀i k,k<i->i<rn->kL (aQ rs k).a (aQ rs k).l (aQ rs i).a (aQ rs i).l=false
 ri:∀i k,k<i->i<rn->(aQ rs k).a<(aQ rs i).a
 sb:∀i,i<sn->rJ rn rs (sbAt ss i).id (sbAt ss i).a (sbAt ss i).l=true
 n8:∀i,i<sn->(sbAt ss i).n<=8
 n4:∀i,i<sn->∀j,j<(sbAt ss i).n->(fcAt (sbAt ss i).fs j).n<=4
 fc:∀i,i<sn->sZ (sbAt ss i).a (sbAt ss i).l (sbAt ss i).n (sbAt ss i).fs=true
 sa:∀i k,k<i->i<sn->kL (sbAt ss k).a (sbAt ss k).l (sbAt ss i).a (sbAt ss i).l=false
 si:∀i k,k<i->i<sn->(sbAt ss k).id<(sbAt ss i).id
theorem aBg(hrl:rs.length=rn)(hsl:ss.length=sn)(h:bD vid rn rs sn ss=0):RV vid rn rs sn ss:=by
 obtain⟨f1,f2,f3,f4⟩:=dU h;obtain⟨g1,g2,g3⟩:=rO h;unfold EY at g2;unfold B5 at g3;rw[zH,AH]at g2 g3;have e1:∀i,i<rn->IX (aQ rs i)=true/\anyAt i (LV rs (aQ rs i).a (aQ rs i).l)=false:=fun i hi=>by
  have:=g2.1 i hi;unfold DA at this;simpa using this
 have e2:∀i,i<sn->(rJ rn rs (sbAt ss i).id (sbAt ss i).a (sbAt ss i).l=true/\anyAt i (C4 ss (sbAt ss i).a (sbAt ss i).l)=false)/\sZ (sbAt ss i).a (sbAt ss i).l (sbAt ss i).n (sbAt ss i).fs=true:=fun i hi=>by
  have:=g3.1 i hi;unfold tA at this;simpa using this
 refine⟨f1,f2,g1,fun i hi=>(e1 i hi).1,fun i k hk hi=>AI.1 (e1 i hi).2 k hk,?_,fun i hi=>(e2 i hi).1.1,f3,f4,fun i hi=>(e2 i hi).2,fun i k hk hi=>AI.1 (e2 i hi).1.2 k hk,?_⟩
 ·refine AT (f:=fun i=>(aQ rs i).a) (fun i hi=>?_);have h2:=g2.2;unfold EU at h2;have h3:=AH.1 h2 (i+1) (by omega);unfold ET at h3;simpa using h3
 ·refine AT (f:=fun i=>(sbAt ss i).id) (fun i hi=>?_);have h2:=g3.2;unfold rH at h2;have h3:=AH.1 h2 (i+1) (by omega);unfold xY at h3;simpa using h3
structure aBh(sn:Nat)(ss:List Sb):Prop where
 subs:ss.length=sn
 fcs:∀i,i<sn->(sbAt ss i).fs.length=(sbAt ss i).n
 ads:∀i,i<sn->∀j,j<(sbAt ss i).n->(fcAt (sbAt ss i).fs j).ns.length=(fcAt (sbAt ss i).fs j).n
theorem Vp.lens{rc sc:Nat}(h:Vp w rx rn rc rs sx sn sc ss):aBh sn ss:=
 ⟨h.subs.len,fun i hi=>(h.subs.faces i hi).2.2.len,fun i hi j hj=>((h.subs.faces i hi).2.2.addrs j hj).2.2.len⟩
open Go.RowKit Go.Maps
abbrev L3(p a l:Int):Value:= .agg #[.int .i64 p, .int .i64 a, .int .i64 l]
def dW(p a l:Int):Lit:= .string (keyBytes [.int .i64 p, .int .i64 a, .int .i64 l])
theorem OS:laidOutB Tryz.prog=true:=by kernel_rfl
theorem OT:(match Tryz.prog.underlying 143 with |some (.array _ _)|some (.struct _)=>true|_=>false)=true:=by kernel_rfl
theorem SY:(143:TypeId)<Tryz.prog.types.size:=of_decide_eq_true (by kernel_rfl)
theorem OU:Tryz.prog.keyTypeAt 3 143=true:=by kernel_rfl
theorem lY:Keyed Tryz.prog 143:=Keyed.of_law (deep_law_laid OS (m:=3) (by omega) SY OU OT)
theorem OV:∃m,Tryz.prog.types.size=m+3:=⟨Tryz.prog.types.size- 3,by kernel_rfl⟩
theorem AU:Tryz.prog.cellsOf 143=3:=by kernel_rfl
theorem wU:Tryz.prog.cellsOf 26=2:=by kernel_rfl
theorem wV:Tryz.prog.cellsOf 3=1:=by kernel_rfl
theorem OW:Tryz.prog.keyType 143=true:=by kernel_rfl
theorem SZ(ha:(Lit.int .i64 a).wf=true)(hl:(Lit.int .i64 l).wf=true):Tryz.prog.keyLits (m+2) 26 [.int .i64 a, .int .i64 l]=some [.int .i64 a, .int .i64 l]:=by
 unfold Program.keyLits;simp only[Tryz.underlying26];rw[if_pos ⟨by rw[wU];rfl,by kernel_rfl⟩];simp[wV,Program.keyLits,Tryz.underlying3,ha,hl]
theorem OX(hp:(Lit.int .i64 p).wf=true)(ha:(Lit.int .i64 a).wf=true)(hl:(Lit.int .i64 l).wf=true):Tryz.prog.keyLits (m+3) 143 [.int .i64 p, .int .i64 a, .int .i64 l]=some [.int .i64 p, .int .i64 a, .int .i64 l]:=by
 unfold Program.keyLits;simp only[Tryz.underlying143];rw[if_pos ⟨by rw[AU];rfl,by kernel_rfl⟩];have h1:Tryz.prog.keyLits (m+2) 3 [.int .i64 p]=some [.int .i64 p]:=by simp[Program.keyLits,Tryz.underlying3,hp]
 have h2:=SZ (m:=m) ha hl;simp[wV,wU,h1,h2]
theorem oX(hp:(Lit.int .i64 p).wf=true)(ha:(Lit.int .i64 a).wf=true)(hl:(Lit.int .i64 l).wf=true):keyOf Tryz.prog 143 (L3 p a l)=some (dW p a l):=by
 obtain⟨m,hm⟩:=OV;have h1:=OX (m:=m+1) hp ha hl;have h2:(L3 p a l).formed Tryz.prog 143=true:=by simp[Value.formed,Tryz.underlying143,AU]
 unfold keyOf dW;simp only[Tryz.underlying143];rw[if_pos (by rw[OW,h2];rfl),hm];show Option.map _ (Tryz.prog.keyLits (m+1+3) 143 [.int .i64 p, .int .i64 a, .int .i64 l])=_;rw[h1];rfl
theorem oY{q m:Int}(hp:(Lit.int .i64 p).wf=true)(ha:(Lit.int .i64 a).wf=true)(hl:(Lit.int .i64 l).wf=true)(hq:(Lit.int .i64 q).wf=true)(hb:(Lit.int .i64 b).wf=true)(hm:(Lit.int .i64 m).wf=true)(h:dW p a l=dW q b m):p=q/\a=b/\l=m:=by
 have h1:=oX hp ha hl;have h2:=oX hq hb hm;rw[<-h]at h2;have:=lY.inj h1 h2;simpa using this
open Go.RowKit Go.Shelf Go.Maps
def kG(p a l:Int)(x:(Int×Int×Int)×Int):Bool:=decide (x.1=(p,a,l))
def rR(L:List ((Int×Int×Int)×Int))(p a l:Int):Int:=match L.find? (kG p a l)with |some x=>x.2|none=>0
def tX(p a l:Int):Prop:=(Lit.int .i64 p).wf=true/\(Lit.int .i64 a).wf=true/\(Lit.int .i64 l).wf=true
structure IY(D:DataW Unit)(L:List ((Int×Int×Int)×Int)):Prop where
 isMap:IsMap D
 at_:∀p a l,tX p a l->D.atKey (dW p a l) (.lit (.int .i64 0))= .lit (.int .i64 (rR L p a l))
 has_:∀p a l,tX p a l->has D (dW p a l)=L.any (kG p a l)
 only:∀kl,has D kl=true->∃x∈L,kl=dW x.1.1 x.1.2.1 x.1.2.2
 wfs:∀x∈L,tX x.1.1 x.1.2.1 x.1.2.2
theorem IY.empty:IY (.map []) []:=⟨isMap_empty,fun _ _ _ _=>rfl,fun _ _ _ _=>rfl,(fun _ h=>by cases h),(fun _ h=>by cases h)⟩
theorem IY.put{D:DataW Unit}(h:IY D L){p a l:Int}(o:Int)(hw:tX p a l):IY (D.put (dW p a l) (.lit (.int .i64 o))) (((p,a,l),o)::L) where
 isMap:=h.isMap.put _ _
 at_:=fun q b m hq=>by
  by_cases e:p=q/\a=b/\l=m
  ·obtain⟨rfl,rfl,rfl⟩:=e;rw[atKey_put_same h.isMap (by trivial)];simp[rR,kG]
  ·have hne:dW q b m≠dW p a l:=fun e2=>by
    obtain⟨h1,h2,h3⟩:=oY hq.1 hq.2.1 hq.2.2 hw.1 hw.2.1 hw.2.2 e2;exact e ⟨h1.symm,h2.symm,h3.symm⟩
   rw[atKey_put_other hne,h.at_ q b m hq];have hk:kG q b m ((p,a,l),o)=false:=by
    unfold kG;rw[decide_eq_false];intro e3;simp only[Prod.mk.injEq]at e3;exact e e3
   simp[rR,hk]
 has_:=fun q b m hq=>by
  by_cases e:p=q/\a=b/\l=m
  ·obtain⟨rfl,rfl,rfl⟩:=e;rw[has_put_same h.isMap (by trivial)];simp[kG]
  ·have hne:dW q b m≠dW p a l:=fun e2=>by
    obtain⟨h1,h2,h3⟩:=oY hq.1 hq.2.1 hq.2.2 hw.1 hw.2.1 hw.2.2 e2;exact e ⟨h1.symm,h2.symm,h3.symm⟩
   rw[has_put_other hne,h.has_ q b m hq];have hk:kG q b m ((p,a,l),o)=false:=by
    unfold kG;rw[decide_eq_false];intro e3;simp only[Prod.mk.injEq]at e3;exact e e3
   simp[hk]
 only:=fun kl h1=>by
  by_cases e:kl=dW p a l
  ·exact⟨_,List.mem_cons_self,e⟩
  ·rw[has_put_other e]at h1;obtain⟨x,hx,h2⟩:=h.only kl h1;exact⟨x,List.mem_cons_of_mem _ hx,h2⟩
 wfs:=fun x hx=>by
  rcases List.mem_cons.1 hx with rfl|hx
  ·exact hw
  ·exact h.wfs x hx
def kH(id:Int)(ls:List Le):List ((Int×Int×Int)×Int):=((ls.filter fun e=>e.kd==1).map fun e=>((id,e.a,e.l),e.ow)).reverse
def bS(ps:List Po):List ((Int×Int×Int)×Int):=ps.reverse.flatMap fun p=>kH p.id p.ls
theorem OY{ls:List Le}(h:i<ls.length):aN ls i=ls[i]:=by unfold aN;rw[zF,List.getElem?_eq_getElem h];rfl
theorem KV{id:Int}{ls:List Le}(h:q<ls.length):kH id (ls.take (q+1))=if(aN ls q).kd=1 then((id,(aN ls q).a,(aN ls q).l),(aN ls q).ow)::kH id (ls.take q)else kH id (ls.take q):=by
 unfold kH;rw[List.take_add_one,List.getElem?_eq_getElem h,OY h,Option.toList_some,List.filter_append];by_cases c:ls[q].kd=1
 ·rw[if_pos c];simp[c]
 ·rw[if_neg c];simp[c]
theorem KW(h:k<ps.length):bS (ps.take (k+1))=kH (poAt ps k).id (poAt ps k).ls++bS (ps.take k):=by
 unfold bS;rw[List.take_add_one,List.getElem?_eq_getElem h,bC h,Option.toList_some,List.reverse_append];simp
theorem DL{id:Int}{ls:List Le}:(kH id ls).length<=ls.length:=by
 unfold kH;rw[List.length_reverse,List.length_map];exact List.length_filter_le _ _
theorem mQ:Tryz.prog.underlying 140=some (.map 143 3):=by kernel_rfl
theorem lG(t:Int)(x:Option Addr)(n c:Nat)(ps:List Po)(w:World)(hp:mX w x n ps)(hn:n<=64)(hm:∀k,k<n->(poAt ps k).n<=64)
 (hW:∀k,k<n->∀q,q<(poAt ps k).n->tX (poAt ps k).id (aN (poAt ps k).ls q).a (aN (poAt ps k).ls q).l/\(Lit.int .i64 (aN (poAt ps k).ls q).ow).wf=true):
  Calls Tryz.prog 65 #[.agg #[.int .i64 t, .slice x n c]] w fun e w'=>∃bm D,e= .returned (.map (some bm))/\w.heap.size<=bm/\w'.ownsMap Tryz.prog 143 (plainElem Tryz.prog 3) bm (bS ps).length D/\IY D (bS ps)/\Below w.heap.size w w':=by
 have hmm:= @run_makeMap Tryz.prog;have hpl:Hid (ps.length=n):=hp.len;go_enter Tryz.func65,Tryz.ntmps65;go_wp2;go_loopw [12] (fun i wr=>∃(k:Nat) (D:DataW Unit),k<=n/\i= .int .i64 k/\Below w.heap.size w wr/\wr.ownsMap Tryz.prog 143 (plainElem Tryz.prog 3) (w.heap.size+1) (bS (ps.take k)).length D/\IY D (bS (ps.take k))/\(bS (ps.take k)).length<=k*64) (fun i _=>n- (intOf i).toNat)
 case atStart=>
  refine⟨0, .map [],by omega,rfl,?_,?_,?_,?_⟩
  ·exact bO w _ _
  ·have:=World.ownsMap_made (H:=Unit) (w.alloc (VD t x n c)) Tryz.prog 143 (plainElem Tryz.prog 3);simpa[bS]using this
  ·exact IY.empty
  ·simp[bS]
 case round=>
  obtain⟨k,D,hk,rfl,hB,hO,hC,hL⟩:=hrel
  by_cases hlt:k<n
  ·have hlt':Hid (k<n):=hlt;have hpr:=hp.later hB;obtain⟨b,o,rfl,c0,c1,c2,c3,c4,c5,c6,c7,c8⟩:=hpr.cells k hlt;have hI:=(hp.leases k hlt).2.2;have hm1:=hm k hlt;have hW1:=hW k hlt;have hsz:=hB.size;have hst:Hid (bS (ps.take (k+1))=kH (poAt ps k).id (poAt ps k).ls++bS (ps.take k)):=KW (by rw[hpl.out];exact hlt);generalize hf:poAt ps k=f at*;clear hf;go_wp2;obtain⟨wo,rfl⟩:∃wo,wo=wr:=⟨_,rfl⟩;clear c0 c1 c2 c3 c4 c5 c6 c7 c8;have hol:Hid (w.heap.size+1<wo.heap.size):=hO.lt;go_loopw [19] (fun i wr=>∃(q:Nat) (D:DataW Unit),q<=f.n/\i= .int .i64 q/\Below w.heap.size w wr/\wr.heap[wo.heap.size]?=some (CP f)/\wr.ownsMap Tryz.prog 143 (plainElem Tryz.prog 3) (w.heap.size+1) (kH f.id (f.ls.take q)++bS (ps.take k)).length D/\IY D (kH f.id (f.ls.take q)++bS (ps.take k))) (fun i _=>f.n- (intOf i).toNat)
   case atStart=>exact⟨0,D,by omega,rfl,hB.trans ((bl1 wo _).mono hsz),aB _ rfl,by simpa[kH]using hO.alloc _,by simpa[kH]using hC⟩
   case round=>
    obtain⟨q,D2,hq,rfl,hB2,hbx,hO2,hC2⟩:=hrel
    by_cases hq2:q<f.n
    ·have hq':Hid (q<f.n):=hq2;obtain⟨b2,o2,hx2,d0,d1,d2,d3,d4⟩:=(hI.later hB2).cells q hq2;have hst2:=KV (id:=f.id) (ls:=f.ls) (q:=q) (by rw[hI.len];exact hq2);have hL2:Hid ((kH f.id (f.ls.take q)++bS (ps.take k)).length<=k*64+64):=by
      show _<=_;rw[List.length_append];have:=DL (id:=f.id) (ls:=f.ls.take q);rw[List.length_take]at this;omega
     obtain⟨hw3,hwo⟩:=hW1 q hq2;have hkey:keyOf Tryz.prog 143 (L3 f.id (aN f.ls q).a (aN f.ls q).l)=some (dW f.id (aN f.ls q).a (aN f.ls q).l):=oX hw3.1 hw3.2.1 hw3.2.2;generalize hLd:kH f.id (f.ls.take q)++bS (ps.take k)=L at*;have hmx:L.length<maxLen:=by have:=hL2.out;unfold maxLen;omega
     rw[hx2];generalize aN f.ls q=e at*;obtain⟨ea,el,ek,eo,eu⟩:=e;simp only at*;have hbx2:=aG (UQ ⟨ea,el,ek,eo,eu⟩) hbx;have hO3:=hO2.alloc (UQ ⟨ea,el,ek,eo,eu⟩);have hB3:=hB2.alloc hB2.size (UQ ⟨ea,el,ek,eo,eu⟩);obtain⟨kb, -⟩:=aC hbx2;have kb0:=kb 0;by_cases hkd:ek=1
     ·subst hkd;rw[if_pos rfl]at hst2;go_wp2_with (first
       |(at_mapUpdate;refine wpList_mapUpdate_own _ rfl _ _ _ 140 rfl 143 3 lY mQ _ (w.heap.size+1) _ _ rfl hO3 hmx _ _ _ rfl rfl hkey _ [] (plainElem_int under_int hwo) ?_;intro w1 hown1 hgrow1)
       |go_in)
      have hP:=hC2.put eo hw3;have hsz3:=hB3.size;go_roundw
      case rel=>
       refine⟨q+1,D2.put (dW f.id ea el) (.lit (.int .i64 eo)),hq'.out,by go_num,hB3.grown hgrow1 hB3.size (fun j hj=>by cases hj;omega),fF hgrow1 hbx2 (by have:=hol.out;omega),?_,?_⟩
       ·rw[hst2,List.cons_append,hLd];exact hown1
       ·rw[hst2,List.cons_append,hLd];exact hP
      case measure=>simp[intOf];have:=hq'.out;omega
     ·rw[if_neg hkd]at hst2;have hkd':(ek==1)=false:=by simpa using hkd
      go_wp2;go_roundw
      case rel=>exact⟨q+1,D2,hq'.out,by go_num,hB3,hbx2,by rw[hst2,hLd];exact hO3,by rw[hst2,hLd];exact hC2⟩
      case measure=>simp[intOf];have:=hq'.out;omega
    ·obtain rfl:q=f.n:=by omega
     have e:f.ls.take f.n=f.ls:=by rw[<-hI.len,List.take_length]
     rw[e,<-hst.out]at hO2 hC2;go_wp2;go_roundw
     case rel=>
      refine⟨k+1,D2,hlt'.out,by go_num,hB2,hO2,hC2,?_⟩
      rw[hst.out,List.length_append]
      have:=DL (id:=f.id) (ls:=f.ls)
      rw[hI.len]at this
      omega
     case measure=>simp[intOf];have:=hlt'.out;omega
  ·obtain rfl:k=n:=by omega
   have e:ps.take k=ps:=by rw[<-hpl.out,List.take_length]
   rw[e]at hO hC;go_wp2;go_ret;exact⟨_,D,rfl,by omega,hO,hC,hB⟩
def FC(L:List ((Int×Int×Int)×Int))(id:Int):Bool:=L.any fun x=>decide (rR L x.1.1 x.1.2.1 x.1.2.2=id)
theorem DM(bm m:Nat)(D:DataW Unit)(L:List ((Int×Int×Int)×Int))(id:Int)(w:World)(hO:w.ownsMap Tryz.prog 143 (plainElem Tryz.prog 3) bm m D)(hC:IY D L):
  Calls Tryz.prog 66 #[.map (some bm), .int .i64 id] w fun e w'=>e= .returned (.bool (FC L id))/\Below w.heap.size w w':=by
 have hDb:Hid (IY D L):=hC;go_enter Tryz.func66,Tryz.ntmps66;go_wp2_with (first|(at_range;refine wpList_range_own _ rfl _ 140 rfl 143 3 lY mQ _ bm m D rfl hO ?_;intro w0 hrg0 hg0 hs0)|go_in)
 go_frame;go_loopw [] (fun wr=>∃left cnt,wr.ranges Tryz.prog 143 (plainElem Tryz.prog 3) bm w.heap.size m D left cnt/\Below w.heap.size w wr/\(∀x∈L,left (dW x.1.1 x.1.2.1 x.1.2.2)=true\/rR L x.1.1 x.1.2.1 x.1.2.2≠id)) (fun wr=>wr.rangeLeft bm w.heap.size)
 case atStart=>exact⟨_,_,hrg0,(zD).grown hg0 (zE) (fun j hj=>by cases hj),fun x hx=> .inl (by rw[hDb.out.has_ _ _ _ (hDb.out.wfs x hx)];exact List.any_eq_true.2 ⟨x,hx,by unfold kG;simp⟩)⟩
 case round=>
  obtain⟨left,cnt,hrg,hB,hall⟩:=hrel
  go_wp2_with (first
   |(at_next;refine wpList_next_ranges (α:=Value) (β:=Int) _ rfl _ rfl 143 lY (plainElem Tryz.prog 3) (fun x=>x) (fun c=> .int .i64 c) (fun key _ _=>⟨key,rfl⟩) (fun v y h=>(plainElem_int_inv under_int h).imp fun _ h=>h.1) bm w.heap.size m _ _ _ rfl hrg ?_ ?_)
   |go_in)
  ·intro hc0 hl0;go_wp2;go_ret;refine⟨aM ?_,hB⟩;symm;unfold FC;rw[List.any_eq_false];intro x hx;rcases hall x hx with h|h
   ·rw[hl0]at h;cases h
   ·simpa using h
  ·intro x c kl y yp w1 cnt1 hkx hlx hvc hat hrg1 hlt hg1 hs1 hen;have hB1:Below w.heap.size w w1:=hB.grown hg1 hB.size (fun j hj=>by cases hj;omega);obtain⟨z,hz,hkl⟩:=hDb.out.only kl (has_true_of_atKey hat);have hcx:rR L z.1.1 z.1.2.1 z.1.2.2=c:=by
    have h1:=hat (.lit (.int .i64 0));rw[hkl,hDb.out.at_ _ _ _ (hDb.out.wfs z hz)]at h1;obtain⟨c',e1,e2, -⟩:=plainElem_int_inv under_int hvc
    cases e1
    cases e2
    cases h1;rfl
   by_cases hgt:c=id
   ·go_wp2;go_ret;exact⟨aM (List.any_eq_true.2 ⟨z,hz,by rw[hcx,hgt];simp⟩).symm,hB1⟩
   ·go_wp2;go_roundw
    case rel=>exact⟨_,cnt1,hrg1,hB1,fun u hu=>by
     by_cases e:dW u.1.1 u.1.2.1 u.1.2.2=kl
     ·refine .inr ?_;obtain⟨e1,e2,e3⟩:=oY (hDb.out.wfs u hu).1 (hDb.out.wfs u hu).2.1 (hDb.out.wfs u hu).2.2 (hDb.out.wfs z hz).1 (hDb.out.wfs z hz).2.1 (hDb.out.wfs z hz).2.2 (e.trans hkl);rw[e1,e2,e3,hcx];exact hgt
     ·rcases hall u hu with h|h
      ·refine .inl ?_;rw[h,sameKey_ne e];rfl
      ·exact .inr h⟩
    case measure=>rw[hrg1.left_eq,hrg.left_eq];omega
theorem oZ{x:(Int×Int×Int)×Int}:kG p a l x=true↔x.1=(p,a,l):=by unfold kG;simp
def S0(id:Int):List ((Int×Int×Int)×Int)->List (Int×Int×Int)->Option (List ((Int×Int×Int)×Int))
 |L,[]=>some L
 |L,k::ks=>if rR L k.1 k.2.1 k.2.2=id then S0 id (L.filter fun x=>!kG k.1 k.2.1 k.2.2 x) ks else none
def IZ:List ((Int×Int×Int)×Int)->List (Int×List (Int×Int×Int))->Bool
 |_,[]=>true
 |L,v::vs=>match S0 v.1 L v.2 with
  |none=>false
  |some M=>!FC M v.1&&IZ M vs
theorem OZ{q m:Int}(e:¬(p=q/\a=b/\l=m)):(L.filter fun x=>!kG p a l x).find? (kG q b m)=L.find? (kG q b m):=
 find_filter_keep (fun x hx=>by
  rw[oZ]at hx
  cases c:kG p a l x
  ·rfl
  ·rw[oZ,hx]at c;simp only[Prod.mk.injEq]at c;exact absurd ⟨c.1.symm,c.2.1.symm,c.2.2.symm⟩ e) L
theorem O0:(L.filter fun x=>!kG p a l x).find? (kG p a l)=none:=by
 rw[List.find?_eq_none];intro x hx h;have:=(List.mem_filter.1 hx).2;rw[h]at this
 cases this
theorem IY.del{D:DataW Unit}(h:IY D L){p a l:Int}(hw:tX p a l):IY (D.del (dW p a l)) (L.filter fun x=>!kG p a l x) where
 isMap:=h.isMap.del _
 at_:=fun q b m hq=>by
  by_cases e:p=q/\a=b/\l=m
  ·obtain⟨rfl,rfl,rfl⟩:=e;rw[atKey_del_same];unfold rR;rw[O0]
  ·have hne:dW q b m≠dW p a l:=fun e2=>by
    obtain⟨h1,h2,h3⟩:=oY hq.1 hq.2.1 hq.2.2 hw.1 hw.2.1 hw.2.2 e2;exact e ⟨h1.symm,h2.symm,h3.symm⟩
   rw[atKey_del_other hne,h.at_ q b m hq];unfold rR;rw[OZ e]
 has_:=fun q b m hq=>by
  by_cases e:p=q/\a=b/\l=m
  ·obtain⟨rfl,rfl,rfl⟩:=e;rw[has_del_same];symm;rw[List.any_eq_false];intro x hx h2;have:=(List.mem_filter.1 hx).2;rw[h2]at this
   cases this
  ·have hne:dW q b m≠dW p a l:=fun e2=>by
    obtain⟨h1,h2,h3⟩:=oY hq.1 hq.2.1 hq.2.2 hw.1 hw.2.1 hw.2.2 e2;exact e ⟨h1.symm,h2.symm,h3.symm⟩
   rw[has_del_other hne,h.has_ q b m hq];symm;exact any_filter_keep (fun x hx=>by
    rw[oZ]at hx
    cases c:kG p a l x
    ·rfl
    ·rw[oZ,hx]at c;simp only[Prod.mk.injEq]at c;exact absurd ⟨c.1.symm,c.2.1.symm,c.2.2.symm⟩ e) L
 only:=fun kl h1=>by
  by_cases e:kl=dW p a l
  ·rw[e,has_del_same]at h1
   cases h1
  ·rw[has_del_other e]at h1;obtain⟨x,hx,h2⟩:=h.only kl h1;refine⟨x,List.mem_filter.2 ⟨hx,?_⟩,h2⟩
   cases c:kG p a l x
   ·rfl
   ·rw[oZ]at c;rw[c]at h2;exact absurd h2 e
 wfs:=fun x hx=>h.wfs x (List.mem_filter.1 hx).1
theorem S1(w:World):(zeroValue 3).run Tryz.prog w= .ok (.int .i64 0) w:=by kernel_rfl
theorem mR{Q:Act->Prop}{o:Oper}(x y:Operand)(b n:Nat)(D:DataW Unit)(p a l c:Int)(hop:o.op= .lookup 140 x y false)(hg:Region.wanted o (yielded ops A.tmps)=true)
 (hx:A.eval x= .map (some b))(hy:A.eval y=L3 p a l)(hC:∀w,C w->w.ownsMap Tryz.prog 143 (plainElem Tryz.prog 3) b n D)(hw:tX p a l)(hat:D.atKey (dW p a l) (.lit (.int .i64 0))= .lit (.int .i64 c))
 (h:wpQuiet Tryz.prog ops C Q rest (A.put o.dst (.int .i64 c))):wpQuiet Tryz.prog ops C Q (o::rest) A:=by
 unfold wpQuiet;rw[if_pos hg];refine⟨_,fun w hw'=>?_,h⟩;obtain⟨c',hrun,hat', -⟩:=(hC w hw').lookup_int lY mQ under_int (S1 w) (oX hw.1 hw.2.1 hw.2.2);have e:c'=c:=by
  rw[hat]at hat'
  cases hat';rfl
 subst e;unfold Oper.quietAt execOp;rw[hop];simp only[hx,hy,Sem.run_bind,hrun,Result.andThen_ok,Sem.run_pure];exact⟨rfl,rfl⟩
def PZ(r:Rg):Int×Int×Int:=(r.p,r.a,r.l)
def nI(vs:List Vn):List (Int×List (Int×Int×Int)):=vs.map fun v=>(v.id,v.rs.map PZ)
theorem O1(h:k<vs.length):nI (vs.drop k)=((aE vs k).id,(aE vs k).rs.map PZ)::nI (vs.drop (k+1)):=by
 have e:aE vs k=vs[k]:=by simp[aE,List.getD_eq_getElem?_getD,h]
 unfold nI;rw[List.drop_eq_getElem_cons h,zK,e]
theorem S2(h:q<rs.length):(rs.drop q).map PZ=PZ (aQ rs q)::(rs.drop (q+1)).map PZ:=by
 have e:aQ rs q=rs[q]:=by simp[aQ,List.getD_eq_getElem?_getD,h]
 rw[List.drop_eq_getElem_cons h,zK,e]
theorem H6{id:Int}:S0 id L ((p,a,l)::ks)=if rR L p a l=id then S0 id (L.filter fun x=>!kG p a l x) ks else none:=rfl
theorem S3{id:Int}{vs:List (Int×List (Int×Int×Int))}(h:S0 id L ks=none):IZ L ((id,ks)::vs)=false:=by
 unfold IZ;simp only[h]
theorem H7{id:Int}{vs:List (Int×List (Int×Int×Int))}(h:S0 id L ks=some M):IZ L ((id,ks)::vs)=(!FC M id&&IZ M vs):=by
 conv=>lhs;unfold IZ
 simp only[h]
theorem jI{k:TypeId}{b:Nat}{D:DataW Unit}{R:Value->Option (DataW Unit×List MemPlace)}(h:w.ownsMap Tryz.prog k R b n D)(hb:Below w.heap.size w w'):w'.ownsMap Tryz.prog k R b n D:=by
 obtain⟨es,clock,h1,h2⟩:=h;exact⟨es,clock,aA hb h1,h2⟩
theorem O2(t:Int)(x:Option Addr)(n c:Nat)(ps:List Po)(vx:Option Addr)(vn vc:Nat)(vs:List Vn)(lx:Option Addr)(ln lc:Nat)(w:World)(hp:mX w x n ps)(hn:n<=64)(hm:∀k,k<n->(poAt ps k).n<=64)
 (hW:∀k,k<n->∀q,q<(poAt ps k).n->tX (poAt ps k).id (aN (poAt ps k).ls q).a (aN (poAt ps k).ls q).l/\(Lit.int .i64 (aN (poAt ps k).ls q).ow).wf=true)
 (hv:VS w vx vn vs)(hvn:vn<=64)(hrn:∀k,k<vn->(aE vs k).rn<=64)(hR:∀k,k<vn->∀q,q<(aE vs k).rn->tX (aQ (aE vs k).rs q).p (aQ (aE vs k).rs q).a (aQ (aE vs k).rs q).l):
  Calls Tryz.prog 33 #[.agg #[.int .i64 t, .slice x n c, .slice vx vn vc, .slice lx ln lc]] w fun e w'=>e= .returned (.bool (IZ (bS ps) (nI vs)))/\Below w.heap.size w w':=by
 have hvl:Hid (vs.length=vn):=hv.len;go_enter Tryz.func33,Tryz.ntmps33;go_upto_region 1 with fail
 obtain⟨w0,hw0⟩:∃w0,w0=w.alloc (.cells #[.int .i64 t, .slice x n c, .slice vx vn vc, .slice lx ln lc] 43):=⟨_,rfl⟩;rw[<-hw0];have hB0:Below w.heap.size w w0:=by rw[hw0];exact bl1 w _
 have hb0:w0.heap[w.heap.size]?=some (.cells #[.int .i64 t, .slice x n c, .slice vx vn vc, .slice lx ln lc] 43):=by rw[hw0];exact aB _ rfl
 clear hw0;obtain⟨kb, -⟩:=aC hb0;have kb0:=kb 0;have kb1:=kb 1;go_wp2_with fail;refine(lG t x n c ps _ (hp.later hB0) hn hm hW).mono ?_;rintro e w1 ⟨bm,D0,rfl,hbm,hO0,hH0,hb1⟩;have hB1:=hB0.trans (hb1.mono hB0.size);have hb1b:=aA hb1 hb0;have hs0:=hB0.size;clear hb1 hb0 kb kb0 kb1;obtain⟨kb, -⟩:=aC hb1b;have kb2:=kb 2;go_wp2;go_loopw [16] (fun i wr=>∃(k:Nat) (L:List ((Int×Int×Int)×Int)) (D:DataW Unit),k<=vn/\i= .int .i64 k/\Below w.heap.size w wr/\wr.ownsMap Tryz.prog 143 (plainElem Tryz.prog 3) bm (bS ps).length D/\IY D L/\Hid (IZ (bS ps) (nI vs)=IZ L (nI (vs.drop k)))) (fun i _=>vn- (intOf i).toNat)
 case atStart=>exact⟨0,_,D0,by omega,rfl,hB1,hO0,hH0,rfl⟩
 case round=>
  obtain⟨k,L,D,hk,rfl,hB,hO,hH,hag⟩:=hrel
  clear hb1b hO0 hH0 kb kb2
  by_cases hlt:k<vn
  ·have hlt':Hid (k<vn):=hlt;have hvr:=hv.later hB;obtain⟨b,o,rfl,c0,c1,c2⟩:=hvr.cells k hlt;have hRS:=(hv.vps k hlt).2.2.2.ranges;have hR1:=hR k hlt;have hr1:=hrn k hlt;have hst:Hid (nI (vs.drop k)=((aE vs k).id,(aE vs k).rs.map PZ)::nI (vs.drop (k+1))):=O1 (by rw[hvl.out];exact hlt);have hsz:=hB.size;have hol:Hid (bm<wr.heap.size):=hO.lt;generalize aE vs k=v at*;obtain⟨vid,rx,rn,rc,rs,sx,sn,sc,ss⟩:=v;simp only at*;go_wp2;obtain⟨wo,rfl⟩:∃wo,wo=wr:=⟨_,rfl⟩;clear c0 c1 c2;go_loopw [23] (fun i wr=>∃(q:Nat) (M:List ((Int×Int×Int)×Int)) (D:DataW Unit),q<=rn/\i= .int .i64 q/\Below w.heap.size w wr/\wr.heap[wo.heap.size]?=some (.cells #[.int .i64 vid, .slice rx rn rc, .slice sx sn sc] 92)/\wr.ownsMap Tryz.prog 143 (plainElem Tryz.prog 3) bm (bS ps).length D/\IY D M/\Hid (S0 vid L (rs.map PZ)=S0 vid M ((rs.drop q).map PZ))) (fun i _=>rn- (intOf i).toNat)
   case atStart=>exact⟨0,L,D,by omega,rfl,hB.trans ((bl1 wo _).mono hsz),aB _ rfl,hO.alloc _,hH,rfl⟩
   case round=>
    obtain⟨q,M,D2,hq,rfl,hB2,hbx,hO2,hH2,har⟩:=hrel
    by_cases hq2:q<rn
    ·have hq':Hid (q<rn):=hq2;obtain⟨b2,o2,hx2,d0,d1,d2⟩:=(hRS.later hB2).cells q hq2;have hw3:=hR1 q hq2;have hst2:Hid ((rs.drop q).map PZ=PZ (aQ rs q)::(rs.drop (q+1)).map PZ):=S2 (by rw[hRS.len];exact hq2);subst hx2;generalize aQ rs q=e at*;obtain⟨ea,el,ep⟩:=e;simp only at*;go_upto_region 9 with fail
     obtain⟨w3,hw3'⟩:∃w3,w3=(wr.alloc (.cells #[.int .i64 ea, .int .i64 el, .int .i64 ep] 127)).alloc (.cells #[.int .i64 ep, .int .i64 ea, .int .i64 el] 143):=⟨_,rfl⟩;rw[<-hw3'];have hb23:Below wr.heap.size wr w3:=by rw[hw3'];exact bO wr _ _
     have hB3:Below w.heap.size w w3:=hB2.trans (hb23.mono hB2.size);have hbx3:=aA hb23 hbx;have hO3:=jI hO2 hb23;have hpb:w3.heap[wr.heap.size+1]?=some (.cells #[.int .i64 ep, .int .i64 ea, .int .i64 el] 143):=by rw[hw3'];exact aB _ (by simp)
     clear hw3' hb23 hbx hO2 hB2 d0 d1 d2;obtain⟨kv, -⟩:=aC hbx3;obtain⟨kp, -⟩:=aC hpb;have e0:=Ws.here (kv 0);have e1:=Ws.here (kp 0);have e2:=Ws.here (kp 1);have e3:=Ws.here (kp 2);have hat:=hH2.at_ ep ea el hw3;by_cases hown:rR M ep ea el=vid
     ·rw[hown]at hat;refine aH w3.heap.size (by kernel_rfl) (by kernel_rfl) ?_;repeat(go_big_quiet_step (fail))
      refine mR _ _ bm _ D2 ep ea el vid rfl (by rfl) rfl rfl (fun u hu=>by obtain⟨u',rfl⟩:=hu;exact jI hO3 u'.property) hw3 hat ?_;simp only[Act.put,List.setIfInBounds_toArray,List.set_cons_zero,List.set_cons_succ];repeat(go_big_quiet_step (fail))
      refine wpQuiet_nil ?_;rintro _ ⟨u,rfl⟩;have hBu:=hB3.trans (u.property.mono hB3.size);have hOu:=jI hO3 u.property;have hbu:=aA u.property hbx3;have hpu:=aA u.property hpb;generalize u.val=wu at hBu hOu hbu hpu⊢;clear u e0 e1 e2 e3 kv kp;obtain⟨kp, -⟩:=aC hpu;have f0:=kp 0;have f1:=kp 1;have f2:=kp 2;have hkey:=oX hw3.1 hw3.2.1 hw3.2.2;go_wp2_with (first
       |(at_delete;refine wpList_delete_own _ rfl _ _ 140 143 rfl 3 lY mQ _ bm _ D2 rfl hOu _ _ rfl hkey ?_;intro w1' hown1 hturn1)
       |go_in)
      go_roundw
      case rel=>
       refine⟨q+1,M.filter fun x=>!kG ep ea el x,D2.del (dW ep ea el),hq'.out,by go_num,hBu.grown hturn1.grown hBu.size (fun j hj=>by cases hj;omega),fF hturn1.grown hbu (by have:=hol.out;omega),hown1,hH2.del hw3,?_⟩
       show _=_
       rw[har.out,hst2.out]
       show S0 vid M ((ep,ea,el)::_)=_
       rw[H6,if_pos hown]
      case measure=>simp[intOf];have:=hq'.out;omega
     ·have hneb:(rR M ep ea el==vid)=false:=by simpa using hown
      refine aH w3.heap.size (by kernel_rfl) (by kernel_rfl) ?_;repeat(go_big_quiet_step (fail))
      refine mR _ _ bm _ D2 ep ea el _ rfl (by rfl) rfl rfl (fun u hu=>by obtain⟨u',rfl⟩:=hu;exact jI hO3 u'.property) hw3 hat ?_;simp only[Act.put,List.setIfInBounds_toArray,List.set_cons_zero,List.set_cons_succ];repeat(go_big_quiet_step (fail))
      refine wpQuiet_nil ?_;rintro _ ⟨u,rfl⟩;have hBu:=hB3.trans (u.property.mono hB3.size);generalize u.val=wu at hBu⊢;clear u e0 e1 e2 e3 kv kp;go_wp2;go_ret;refine⟨aM ?_,hBu⟩;rw[hag.out,hst.out,S3];rw[har.out,hst2.out];show S0 vid M ((ep,ea,el)::_)=none;rw[H6,if_neg hown]
    ·obtain rfl:q=rn:=by omega
     have e:rs.drop q=[]:=by rw[<-hRS.len];exact List.drop_length
     have hsome:S0 vid L (rs.map PZ)=some M:=by
      rw[har.out,e];rfl
     obtain⟨kv, -⟩:=aC hbx;have e0:=kv 0;go_wp2_with fail;refine(DM bm _ D2 M vid _ hO2 hH2).mono ?_;rintro r w4 ⟨rfl,hb4⟩;have hB4:=hB2.trans (hb4.mono hB2.size);have hO4:=jI hO2 hb4;clear kv e0 hbx
     cases hany:FC M vid
     ·go_wp2;go_roundw
      case rel=>exact⟨k+1,M,D2,hlt'.out,by go_num,hB4,hO4,hH2,by show _=_;rw[hag.out,hst.out,H7 hsome,hany];rfl⟩
      case measure=>simp[intOf];have:=hlt'.out;omega
     ·go_wp2;go_ret;exact⟨aM (by rw[hag.out,hst.out,H7 hsome,hany];rfl),hB4⟩
  ·obtain rfl:k=vn:=by omega
   have e:vs.drop k=[]:=by rw[<-hvl.out];exact List.drop_length
   go_wp2;go_ret;refine⟨aM ?_,hB⟩;rw[hag.out,e];rfl
structure Si(w:World)(x:Option Addr)(n c:Nat)(ps:List Po)(vx:Option Addr)(vn vc:Nat)(vs:List Vn)(lx:Option Addr)(ln:Nat)(ls:List (Int×Int)):Prop where
 bk:Bk w x n c ps
 vps:VS w vx vn vs
 vnc:vn<=vc
 v63:vn<=9223372036854775807
 lk:PS w lx ln ls
 l63:ln<=9223372036854775807
theorem Si.later{vn:Nat}(h:Si w x n c ps vx vn vc vs lx ln ls)(hb:Below w.heap.size w w'):Si w' x n c ps vx vn vc vs lx ln ls:=
 ⟨h.bk.later hb,h.vps.later hb,h.vnc,h.v63,h.lk.later hb,h.l63⟩
def mS(t:Int)(ps:List Po)(vn:Nat)(vs:List Vn)(ln:Nat)(ls:List (Int×Int)):Int:=if aS t ps≠0 then aS t ps else if cW vn vs ln ls≠0 then cW vn vs ln ls else if IZ (bS ps) (nI vs)=true then 0 else 1
theorem FD{v:Int}(h:dE v a b=true)(ha:0<=a)(hb:b<=1000000):(Lit.int .i64 v).wf=true:=by
 unfold dE at h;simp only[zH,decide_eq_true_eq]at h;exact fS (by omega) (by omega)
theorem S4(h:rt a l=true):(Lit.int .i64 a).wf=true/\(Lit.int .i64 l).wf=true:=by
 obtain⟨h0,h1,h2,h3, -⟩:=bE h;exact⟨fS h2 (by omega),fS h0 (by omega)⟩
theorem L4(h:RB t ps){p:Po}(hp:p∈ps){e:Le}(he:e∈p.ls):tX p.id e.a e.l/\(Lit.int .i64 e.ow).wf=true:=by
 have h1:=(h.used p hp).inn (e.a,e.l) (by unfold lp;exact List.mem_map.2 ⟨e,he,rfl⟩);obtain⟨w1,w2⟩:=S4 (bF h1).1;refine⟨⟨FD (h.idw p hp) (by decide) (by decide),w1,w2⟩,?_⟩;rcases h.les p hp e he with g|⟨-, -,q,hq,g, -⟩|g
 ·exact FD g.2.1 (by decide) (by decide)
 ·rw[<-g];exact FD (h.idw q hq) (by decide) (by decide)
 ·rw[g.2.1];rfl
theorem vL(h:cW n vs ln ls=0):n<=6/\ln<=12/\oO vs=true/\∀i,i<n->bD (aE vs i).id (aE vs i).rn (aE vs i).rs (aE vs i).sn (aE vs i).ss=0:=by
 unfold cW at h;split at h
 ·omega
 ·rename_i hm;simp only[Bool.or_eq_true,decide_eq_true_eq]at hm;split at h
  ·rename_i hw;simp only[zH]at hw;have hv:=hw.1.1;unfold jY at hv;rw[zH]at hv;refine⟨by omega,by omega,hv.1,fun i hi=>?_⟩;have hb:mK (aE vs i)=false:=by
    cases e:mK (aE vs i)
    ·rfl
    ·rw[bR (f:=fun i=>mK (aE vs i)) hi e]at hv;exact absurd hv.2 (by simp)
   unfold mK at hb;simpa using hb
  ·omega
theorem S5(h:bD vid rn rs sn ss=0):rn<=4/\∀q,q<rn->tX (aQ rs q).p (aQ rs q).a (aQ rs q).l:=by
 unfold bD at h;split at h
 ·omega
 ·rename_i hm;split at h
  ·rename_i hw;simp only[zH]at hw;refine⟨(few (by simpa using hm)).1,fun q hq=>?_⟩;have hr:=hw.1.2;unfold EY at hr;rw[zH,List.all_eq_true]at hr;have h1:=hr.1 q (by simpa using hq);unfold DA at h1;rw[zH]at h1;have h2:=h1.1;unfold IX at h2;rw[zH]at h2;exact⟨FD h2.2 (by decide) (by decide),(S4 h2.1).1,(S4 h2.1).2⟩
  ·omega
theorem rS(t:Int)(x:Option Addr)(n c:Nat)(ps:List Po)(vx:Option Addr)(vn vc:Nat)(vs:List Vn)(lx:Option Addr)(ln lc:Nat)(ls:List (Int×Int))(w:World)(hs:Si w x n c ps vx vn vc vs lx ln ls):
  Calls Tryz.prog 20 #[.agg #[.int .i64 t, .slice x n c, .slice vx vn vc, .slice lx ln lc]] w fun e w'=>e= .returned (.int .i64 (mS t ps vn vs ln ls))/\Below w.heap.size w w':=by
 have hbd:Hid (mS t ps vn vs ln ls=if aS t ps≠0 then aS t ps else if cW vn vs ln ls≠0 then cW vn vs ln ls else if IZ (bS ps) (nI vs)=true then 0 else 1):=rfl;go_enter Tryz.func20,Tryz.ntmps20;go_upto_region 1 with fail
 obtain⟨w0,hw0⟩:∃w0,w0=w.alloc (.cells #[.int .i64 t, .slice x n c, .slice vx vn vc, .slice lx ln lc] 43):=⟨_,rfl⟩;rw[<-hw0];have hB0:Below w.heap.size w w0:=by rw[hw0];exact bl1 w _
 have hb0:w0.heap[w.heap.size]?=some (.cells #[.int .i64 t, .slice x n c, .slice vx vn vc, .slice lx ln lc] 43):=by rw[hw0];exact aB _ rfl
 clear hw0;obtain⟨kb, -⟩:=aC hb0;have kb0:=kb 0;have kb1:=kb 1;go_wp2_with fail;refine(fA t x n c ps _ (hs.bk.later hB0)).mono ?_;rintro e w1 ⟨rfl,hb1⟩;have hB1:=hB0.trans (hb1.mono hB0.size);have hb1b:=aA hb1 hb0;clear hb1 hb0 hB0 kb kb0 kb1;by_cases c0:aS t ps=0
 ·obtain⟨kb, -⟩:=aC hb1b;have kb2:=kb 2;have kb3:=kb 3;have hbd2:Hid (mS t ps vn vs ln ls=if cW vn vs ln ls≠0 then cW vn vs ln ls else if IZ (bS ps) (nI vs)=true then 0 else 1):=by
   show _=_;rw[hbd.out,if_neg (by simp[c0])]
  have hRB:Hid (RB t ps):=nB hs.bk.full c0;rw[c0];clear hbd c0;go_wp2_with fail;refine(AG vx vn vc vs lx ln lc ls _ (hs.vps.later hB1) hs.v63 hs.vnc (hs.lk.later hB1) hs.l63).mono ?_;rintro e w2 ⟨rfl,hb2⟩;have hB2:=hB1.trans (hb2.mono hB1.size);have hb2b:=aA hb2 hb1b;clear hb2 hb1b hB1 kb kb2 kb3;by_cases c1:cW vn vs ln ls=0
  ·obtain⟨kb, -⟩:=aC hb2b;have kb0:=kb 0;have kb1:=kb 1;have kb2:=kb 2;have kb3:=kb 3;obtain⟨n6, -, -,hcv⟩:=vL c1;have hbd3:Hid (mS t ps vn vs ln ls=if IZ (bS ps) (nI vs)=true then 0 else 1):=by
    show _=_;rw[hbd2.out,if_neg (by simp[c1])]
   have hpl:=hs.bk.ps.len;have hn8:=hRB.out.few;have hag:=O2 t x n c ps vx vn vc vs lx ln lc w2 (hs.bk.ps.later hB2) (by omega) (fun k hk=>by
    have:=hRB.out.n32 _ (poAt_mem (i:=k) (by omega));rw[hs.bk.full k (by omega)]at this;omega) (fun k hk q hq=>L4 hRB.out (poAt_mem (i:=k) (by omega)) (fQ (by rw[hs.bk.full k (by omega)];exact hq))) (hs.vps.later hB2) (by omega) (fun k hk=>by
    have:=(S5 (hcv k hk)).1;omega) (fun k hk=>(S5 (hcv k hk)).2)
   rw[c1];clear hbd2 c1 hcv
   cases hab:IZ (bS ps) (nI vs)
   ·rw[hab]at hag;go_wp2_with fail;refine hag.mono ?_;rintro e w3 ⟨rfl,hb3⟩;go_wp2;go_ret;exact⟨cO (by rw[hbd3.out,hab];rfl),hB2.trans (hb3.mono hB2.size)⟩
   ·rw[hab]at hag;go_wp2_with fail;refine hag.mono ?_;rintro e w3 ⟨rfl,hb3⟩;go_wp2;go_ret;exact⟨cO (by rw[hbd3.out,hab];rfl),hB2.trans (hb3.mono hB2.size)⟩
  ·have hne:(cW vn vs ln ls==0)=false:=by simpa using c1
   go_wp2;go_ret;exact⟨cO (by rw[hbd2.out,if_pos c1]),hB2⟩
 ·have hne:(aS t ps==0)=false:=by simpa using c0
  go_wp2;go_ret;exact⟨cO (by rw[hbd.out,if_pos c0]),hB1⟩
theorem H8(id:Int)(p:Vn)(b:Nat)(w:World)(h0:w.cell? ⟨b,0,none⟩=some (.int .i64 id)):
  Calls Tryz.prog 155 #[.agg #[.int .i64 p.id, .slice p.rx p.rn p.rc, .slice p.sx p.sn p.sc], .pointer (some ⟨b,0,none⟩)] w fun e w'=>e= .returned (.bool (p.id==id))/\Below w.heap.size w w':=by
 have k0:∀q,(w.alloc q).cell? ⟨b,0,none⟩=some (.int .i64 id):=fun q=>cell_later (bl1 w q) h0;go_enter Tryz.func155,Tryz.ntmps155;go_wp2;go_ret;exact⟨rfl,bl1 w _⟩
theorem FE(args:Array Value)(W:World):(callFunc 155 args).run Tryz.prog W= .ok (.enter 155 args) W:=by simp[go_sem]
theorem kI(id:Int)(x:Option Addr)(n c:Nat)(vs:List Vn)(lx:Option Addr)(ln lc:Nat)(w:World)(hp:VS w x n vs)(hn:n<=1048576):
  Calls Tryz.prog 96 #[.agg #[.slice x n c, .slice lx ln lc], .int .i64 id] w fun e w'=>e= .returned (.int .i64 (aJ n vs id))/\Below w.heap.size w w':=by
 go_enter Tryz.func96,Tryz.ntmps96;go_wp2_with fail;refine(iL 155 #[.pointer (some ⟨w.heap.size+1,0,none⟩)] x n c vs (fun i=>(aE vs i).id==id) _ (hp.later (bO w _ _)) hn (fun i _ W hW=>H8 id (aE vs i) (w.heap.size+1) W (cell_later hW (by simp))) FE).mono ?_;rintro e w1 ⟨⟨r,rfl,hr⟩,hb1⟩;have hrv:r=aJ n vs id:=by
  rcases hr with ⟨i,hi,hf,hno,rfl⟩|⟨hno,rfl⟩
  ·exact(AB hi hf hno).symm
  ·exact(DB hno).symm
 subst hrv;go_wp2;go_ret;exact⟨rfl,(bO w _ _).trans (hb1.mono (by simp;omega))⟩
theorem vM(id:Int)(x:Option Addr)(n c:Nat)(vs:List Vn)(lx:Option Addr)(ln lc:Nat)(t:Int)(h:aJ n vs id=t)(w:World)(hp:VS w x n vs)(hn:n<=1048576):
  Calls Tryz.prog 96 #[.agg #[.slice x n c, .slice lx ln lc], .int .i64 id] w fun e w'=>e= .returned (.int .i64 t)/\Below w.heap.size w w':=by
 subst h;exact kI id x n c vs lx ln lc w hp hn
abbrev iI(t:Int)(vB vV vK:Value):Obj:= .cells #[.int .i64 t,vB,vV,vK] 43
abbrev AV(t:Int)(vB vV vK:Value):Value:= .agg #[.int .i64 t,vB,vV,vK]
structure Cd where
 op:Int
 A:Int
 B:Int
 C:Int
 a:Int
 l:Int
 mn:Int
 mx:Int
 us:Int
 co:Int
abbrev cmL(c:Cd):Array Value:=#[.int .i64 c.op, .int .i64 c.A, .int .i64 c.B, .int .i64 c.C, .int .i64 c.a, .int .i64 c.l, .int .i64 c.mn, .int .i64 c.mx, .int .i64 c.us, .int .i64 c.co]
abbrev rT(c:Cd):Obj:= .cells (cmL c) 34
abbrev L5(c:Cd):Value:= .agg (cmL c)
abbrev Y0(a l:Int):Obj:= .cells #[.int .i64 a, .int .i64 l] 26
abbrev XM(u:Vn):Value:= .agg #[.int .i64 u.id, .slice u.rx u.rn u.rc, .slice u.sx u.sn u.sc]
def pZ(w:World)(base:Nat)(u:Vn):Prop:=bM w base (.slice u.rx u.rn u.rc) u.rs/\cA w base (.slice u.sx u.sn u.sc) u.ss/\xR w base u.ss
theorem mC.vty(h:mC w base u):pZ w base u:=⟨h.1,h.2.row,h.2.ofa⟩
theorem pZ.later(h:pZ w base u)(hb:Below w.heap.size w w'):pZ w' base u:=⟨bM.later h.1 hb,cA.later h.2.1 hb,fun s hs=>(h.2.2 s hs).later hb⟩
theorem pZ.low(h:pZ w base u)(hb:base'<=base):pZ w base' u:=⟨h.1.low hb,h.2.1.low hb,h.2.2.low hb⟩
theorem pZ.kept{t:TypeId}(h:pZ w base u)(hg:w.grownBy w' (some g))(hb:w.heap[g]?=some (.cells cs t))(h0:t≠127)(h1:t≠130)(h2:t≠133)(h3:t≠3):pZ w' base u:=
 ⟨h.1.kept hg (fun _ hk e=>by subst e;exact h.1.ne hb h0 hk),h.2.1.kept hg (fun _ hk e=>by subst e;exact h.2.1.ne hb h1 hk),h.2.2.keptOf hg hb h2 h3⟩
theorem pZ.ok(h:pZ w base u):kE w u:=by
 obtain⟨x1,c1,e1,h1,h2,h3⟩:=h.1.rs;obtain⟨x2,c2,e2,g1,g2, -,g4⟩:=h.2.1.mem;simp only[Value.slice.injEq]at e1 e2;obtain⟨rfl,hrn,rfl⟩:=e1;obtain⟨rfl,hsn,rfl⟩:=e2;unfold kE;rw[hrn,hsn];exact⟨by omega,by omega,h3,⟨h2,g1,h1,⟨rfl,g4,fun i hi=>h.2.2.fcb _ (tG hi)⟩⟩⟩
theorem HS.vn(h:HS w base vid V rs ss):∃u:Vn,V=XM u/\u.id=vid/\u.rs=rs/\u.rn=rs.length/\u.ss=ss/\u.sn=ss.length/\pZ w base u:=by
 obtain⟨vR,vS,rfl,h1,h2,h3⟩:=h;obtain⟨x1,c1,rfl, -⟩:=h1.rs;obtain⟨x2,c2,rfl, -⟩:=h2.mem;exact⟨⟨vid,x1,rs.length,c1,rs,x2,ss.length,c2,ss⟩,rfl,rfl,rfl,rfl,rfl,rfl,h1,h2,h3⟩
structure SO(w:World)(base:Nat)(ps:List Po)(vs:List Vn)(ls:List (Int×Int))(vB vV vK:Value):Prop where
 bk:dJ w base vB ps ps.length
 row:bZ w base vV vs
 net:∀u∈vs,pZ w base u
 lks:bU w base vK ls
def lH(w:World)(b:Nat)(ty:TypeId):Prop:=∃cs,w.heap[b]?=some (.cells cs ty)
def XN(ty:TypeId):Bool:=decide (ty≠85/\ty≠87/\ty≠92/\ty≠127/\ty≠130/\ty≠133/\ty≠3/\ty≠94)
theorem lH.put{b b':Nat}(h:lH w b ty):lH (w.setCell ⟨b',o,none⟩ v) b ty:=by
 obtain⟨cs,h⟩:=h;by_cases e:b=b'
 ·subst e;exact⟨_,heap_setCell_same w b _ _ _ _ h⟩
 ·exact⟨cs,(zB e).trans h⟩
theorem SO.later(h:SO w base ps vs ls vB vV vK)(hb:Below w.heap.size w w'):SO w' base ps vs ls vB vV vK:=
 ⟨h.bk.later hb,h.row.later hb,fun u hu=>(h.net u hu).later hb,h.lks.later hb⟩
theorem SO.low(h:SO w base ps vs ls vB vV vK)(hb:base'<=base):SO w base' ps vs ls vB vV vK:=
 ⟨h.bk.low hb,h.row.low hb,fun u hu=>(h.net u hu).low hb,h.lks.low hb⟩
theorem SO.put{b:Nat}(h:SO w base ps vs ls vB vV vK)(hb:lH w b ty)(ha:XN ty=true):SO (w.setCell ⟨b,o,none⟩ v) base ps vs ls vB vV vK:=by
 obtain⟨cs,hb⟩:=hb;obtain⟨h1,h2,h3,h4,h5,h6,h7,h8⟩:=of_decide_eq_true ha;exact⟨h.bk.putBox hb h1 h2,h.row.putBox hb h3,fun u hu=>(h.net u hu).kept (aI _ _ _ _) hb h4 h5 h6 h7,h.lks.putBox hb h8⟩
structure kN(w:World)(base bs:Nat)(t:Int)(ps:List Po)(vs:List Vn)(ls:List (Int×Int))(vB vV vK:Value):Prop where
 box:w.heap[bs]?=some (iI t vB vV vK)
 low:base<=bs
 own:SO w base ps vs ls vB vV vK
theorem kN.later(h:kN w base bs t ps vs ls vB vV vK)(hb:Below w.heap.size w w'):kN w' base bs t ps vs ls vB vV vK:=⟨aA hb h.box,h.low,h.own.later hb⟩
theorem kN.put{b:Nat}(h:kN w base bs t ps vs ls vB vV vK)(hb:lH w b ty)(ha:XN ty=true)(hne:bs≠b):kN (w.setCell ⟨b,o,none⟩ v) base bs t ps vs ls vB vV vK:=
 ⟨(zB hne).trans h.box,h.low,h.own.put hb ha⟩
theorem kN.putB{rs:List Po}(h:kN w base bs t ps vs ls vB vV vK)(hv:dJ w base v rs rs.length):kN ((w.setCell ⟨bs,0,none⟩ (.int .i64 t')).setCell ⟨bs,1,none⟩ v) base bs t' rs vs ls v vV vK:=
 have hb:lH w bs 43:=⟨_,h.box⟩
 ⟨heap_setCell_same _ bs _ _ _ _ (heap_setCell_same w bs _ _ _ _ h.box),h.low,((SO.mk hv h.own.row h.own.net h.own.lks).put hb (by decide)).put hb.put (by decide)⟩
theorem kN.putN{k:Value}(h:kN w base bs t ps vs ls vB vV vK)(hv:bZ w base v us)(hu:∀u∈us,pZ w base u)(hk:bU w base k ms):kN ((w.setCell ⟨bs,2,none⟩ v).setCell ⟨bs,3,none⟩ k) base bs t ps us ms vB v k:=
 have hb:lH w bs 43:=⟨_,h.box⟩
 ⟨heap_setCell_same _ bs _ _ _ _ (heap_setCell_same w bs _ _ _ _ h.box),h.low,((SO.mk h.own.bk hv hu hk).put hb (by decide)).put hb.put (by decide)⟩
theorem kN.setV(h:kN w base bs t ps vs ls vB (.slice (some ⟨g,0,none⟩) n cap) vK)(hi:i<vs.length)(hu:pZ w base u):kN (iZ w g i u) base bs t ps (vs.set i u) ls vB (.slice (some ⟨g,0,none⟩) n cap) vK:=by
 obtain⟨hgb,cur,hcur⟩:=h.own.row.block;have hne:bs≠g:=fun e=>by rw[<-e,h.box]at hcur;simp at hcur
 have hV:∀v,pZ w base v->pZ (iZ w g i u) base v:=fun v hv=>by
  have b1:∀(W:World),lH W g 92->pZ W base v->∀o x,pZ (W.setCell ⟨g,o,none⟩ x) base v:=fun W hW hv o x=>by
   obtain⟨cs,hW⟩:=hW;exact hv.kept (aI _ _ _ _) hW (by decide) (by decide) (by decide) (by decide)
  have g0:lH w g 92:=⟨_,hcur⟩;exact b1 _ g0.put.put (b1 _ g0.put (b1 _ g0 hv _ _) _ _) _ _
 have hB:∀(W:World),lH W g 92->dJ W base vB ps ps.length->∀o x,dJ (W.setCell ⟨g,o,none⟩ x) base vB ps ps.length:=fun W hW hv o x=>by
  obtain⟨cs,hW⟩:=hW;exact hv.putBox hW (by decide) (by decide)
 have g0:lH w g 92:=⟨_,hcur⟩;refine⟨(fZ hne).trans h.box,h.low,hB _ g0.put.put (hB _ g0.put (hB _ g0 h.own.bk _ _) _ _) _ _,h.own.row.setE i hi u,fun v hv=>?_,h.own.lks.setN h.own.row⟩;rcases List.mem_or_eq_of_mem_set hv with hv|rfl
 ·exact hV v (h.own.net v hv)
 ·exact hV _ hu
structure eT(base bs:Nat)(w w':World):Prop where
 below:Below base w w'
 box:∀k cs ty,k≠bs->ty≠92->w.heap[k]?=some (.cells cs ty)->w'.heap[k]?=some (.cells cs ty)
theorem eT.of(h:Below w.heap.size w w')(hb:base<=w.heap.size):eT base bs w w':=⟨h.mono hb,fun _ _ _ _ _ g=>aA h g⟩
theorem eT.trans{w'':World}(h:eT base bs w w')(g:eT base bs w' w''):eT base bs w w'':=⟨h.below.trans g.below,fun k cs ty h1 h2 h3=>g.box k cs ty h1 h2 (h.box k cs ty h1 h2 h3)⟩
theorem eT.set(h:eT base bs w w')(hb:base<=bs):eT base bs w (w'.setCell ⟨bs,o,none⟩ v):=
 ⟨h.below.setCell (p:=⟨bs,o,none⟩) hb _,fun k cs ty h1 h2 h3=>(zB h1).trans (h.box k cs ty h1 h2 h3)⟩
theorem eT.put{b:Nat}(h:eT base bs w w')(hb:base<=b)(hw:w.heap.size<=b):eT base bs w (w'.setCell ⟨b,o,none⟩ v):=
 ⟨h.below.setCell (p:=⟨b,o,none⟩) hb _,fun k cs ty h1 h2 h3=>(zB (fun e:k=b=>by have:=(zG h3);omega)).trans (h.box k cs ty h1 h2 h3)⟩
theorem KX{vn:Nat}(h:mS t ps vn vs ln ls=0):aS t ps=0/\cW vn vs ln ls=0/\IZ (bS ps) (nI vs)=true:=by
 unfold mS at h;split at h
 ·rename_i g;exact absurd h g
 ·rename_i g;split at h
  ·rename_i g2;exact absurd h g2
  ·rename_i g2;split at h
   ·rename_i g3;exact⟨by simpa using g,by simpa using g2,g3⟩
   ·cases h
theorem kN.see(h:kN w base bs t ps vs ls vB vV vK)(hB:aS t ps=0):
  ∃x c X C Y D,vB= .slice x ps.length c/\vV= .slice X vs.length C/\vK= .slice Y ls.length D/\Bk w x ps.length c ps/\VS w X vs.length vs/\vs.length<=C/\vs.length<=9223372036854775807/\PS w Y ls.length ls/\ls.length<=9223372036854775807:=by
 have hR:=nB h.own.bk.full hB;obtain⟨x,c,rfl,h1⟩:=h.own.bk.bk (fun i hi=>by
  have:=hR.n32 _ (poAt_mem hi);rw[h.own.bk.full i hi]at this;omega)
 obtain⟨X,C,rfl,h2,h3,h4, -⟩:=h.own.row.vs (fun u hu=>(h.own.net u hu).ok);obtain⟨Y,D,rfl,h5,h6,h7, -⟩:=h.own.lks.ps;exact⟨x,c,X,C,Y,D,rfl,rfl,rfl,h1,h2,h3,Nat.le_trans h3 h4,h5,Nat.le_trans h6 h7⟩
def kJ(ps:List Po)(id z ow a l:Int)(rs:List Po):Prop:=(a,l)=dS (poAt ps (aO ps id).toNat) (jR (poAt ps (aO ps id).toNat) z)/\
 ∃qs x' c' ls',cB ps qs/\gG ⟨a,l,1,ow,0⟩ (poAt ps (aO ps id).toNat).ls ls'/\rs=qs.set (aO ps id).toNat (aW (poAt qs (aO ps id).toNat) x' ls'.length c' ls')
def XO(t:Int)(ps:List Po)(vs:List Vn)(A B C:Int):Int:=if 0<=aJ vs.length vs C then 6 else cE t ps A B C
def Y2(base bs:Nat)(t:Int)(ps:List Po)(vs:List Vn)(ls:List (Int×Int))(A B C:Int)(w:World)(e:Ending)(w':World):Prop:=
 ∃a l,e= .returned (.tuple #[.agg #[.int .i64 a, .int .i64 l], .int .i64 (XO t ps vs A B C)])/\eT base bs w w'/\
  (XO t ps vs A B C=0->∃rs vB vV vK,kN w' base bs t rs vs ls vB vV vK/\kJ ps A B C a l rs)
theorem O3(base bs:Nat)(t:Int)(ps:List Po)(vs:List Vn)(ls:List (Int×Int))(vB vV vK:Value)(cd:Cd)(w:World)(hS:kN w base bs t ps vs ls vB vV vK)(hB:aS t ps=0)(hv6:vs.length<=64):
  Calls Tryz.prog 50 #[.pointer (some ⟨bs,0,none⟩),L5 cd] w (Y2 base bs t ps vs ls cd.A cd.B cd.C w):=by
 have hbl:bs<w.heap.size:=(zG hS.box);have hlow:=hS.low;obtain⟨x,c,X,C,Y,D,rfl,rfl,rfl,hk,hvs,hvc,hv63,hps,hl63⟩:=hS.see hB;go_enter Tryz.func50,Tryz.ntmps50;go_upto_region 1 with fail
 obtain⟨w0,hw0⟩:∃w0,w0=(w.alloc (rT cd)).alloc (Y0 0 0):=⟨_,rfl⟩;rw[<-hw0];have hB0:Below w.heap.size w w0:=by rw[hw0];exact bO w _ _
 have hq0:w0.heap[w.heap.size]?=some (rT cd):=by rw[hw0];exact aG _ (aB _ rfl)
 have hq1:w0.heap[w.heap.size+1]?=some (Y0 0 0):=by rw[hw0];exact aB _ (by simp)
 have hS0:=hS.later hB0;clear hw0;have s2:=Ws.here (aP hS0.box 2 rfl);have s3:=Ws.here (aP hS0.box 3 rfl);have k3:=Ws.here (aP hq0 3 rfl);by_cases hpl:0<=aJ vs.length vs cd.C
 ·have hE:XO t ps vs cd.A cd.B cd.C=6:=if_pos hpl;have hge:decide (aJ vs.length vs cd.C≥0)=true:=by simpa using hpl
  refine aH w0.heap.size (by kernel_rfl) (by kernel_rfl) ?_;repeat(go_big_quiet_step (first|(go_at_call 96;exact Calls.in_ws (zE) (kI cd.C X vs.length C vs Y ls.length D _ (hvs.later (hB0.trans ((Ws.property _).mono hB0.size))) (by omega)))))
  refine wpQuiet_nil ?_;rintro _ ⟨u,rfl⟩;have hBu:=hB0.trans (u.property.mono hB0.size);have hpu:=aA u.property hq1;generalize u.val=wu at hBu hpu⊢;clear u;clear s2 s3 k3 hS0 hq0 hq1;obtain⟨q0,q1⟩:=aR hpu rfl rfl;obtain⟨qz0,qz1⟩:=bW hpu;go_wp2;refine bodyPost_ret (v:= .tuple #[.agg #[.int .i64 0, .int .i64 0], .int .i64 6]) (by simp[results,Tryz.results50,go_sem,q0,q1]) rfl ?_;exact⟨0,0,by rw[hE],((eT.of hBu (by omega)).put (by omega) (by omega)).put (by omega) (by omega),fun h=>absurd (hE.symm.trans h) (by decide)⟩
 ·have hE:Hid (XO t ps vs cd.A cd.B cd.C=cE t ps cd.A cd.B cd.C):=if_neg hpl;have hge:decide (aJ vs.length vs cd.C≥0)=false:=by simpa using hpl
  refine aH w0.heap.size (by kernel_rfl) (by kernel_rfl) ?_;repeat(go_big_quiet_step (first|(go_at_call 96;exact Calls.in_ws (zE) (kI cd.C X vs.length C vs Y ls.length D _ (hvs.later (hB0.trans ((Ws.property _).mono hB0.size))) (by omega)))))
  refine wpQuiet_nil ?_;rintro _ ⟨u,rfl⟩;have hBu:=hB0.trans (u.property.mono hB0.size);have hpu:=aA u.property hq1;have hcu:=aA u.property hq0;have hSu:=hS0.later u.property;generalize u.val=wu at hBu hpu hcu hSu⊢;clear u;clear s2 s3 k3 hS0 hq0 hq1 hge hpl;go_upto_region 3 with fail
  have s0:=Ws.here (aP hSu.box 0 rfl);have s1:=Ws.here (aP hSu.box 1 rfl);have k1:=Ws.here (aP hcu 1 rfl);have k2:=Ws.here (aP hcu 2 rfl);have k3:=Ws.here (aP hcu 3 rfl);refine aT [0,1,2,3,4,5,6,7,8,9,10] 11 [12,13,14,15,16,17] [18,19,20] (by kernel_rfl) (by kernel_rfl) (fun d _ _ _ _ h=>by cases d<;>exact h) ?_;simp only[zK,zM,zI,zJ];repeat(go_big_quiet_step (fail))
  refine wpQuiet_nil ?_;clear s0 s1 k1 k2 k3;intro K hK;go_wp2_with fail;refine(GT t x ps.length c ps cd.A cd.B cd.C wu.drew ((hk.later hBu).later (zD).drew)).mono ?_;rintro e w1 ⟨v,rs,t',a',l',rfl,hb1,hO1,hE1,hE2⟩;have hB1:Below wu.heap.size wu w1:=⟨hb1.os,hb1.tape,hb1.output,hb1.size,hb1.block⟩;go_wp2_with fail;refine aD (hK.out _ _ hB1 ?_);clear hK K;repeat(go_big_quiet_step (fail))
  refine wpQuiet_nil ?_;have hS1:=hSu.later hB1;have hp1:=aA hB1 hpu;have hT1:eT base bs w w1:=eT.of (hBu.trans (hB1.mono hBu.size)) (by omega);have hO2:dJ w1 base v rs rs.length:=hO1.low (Nat.le_trans (by omega) hBu.size);obtain⟨x1,c1,hv1, -⟩:=hO1.row.mem;subst hv1;have hbx:lH w1 (w.heap.size+1) 26:=⟨_,hp1⟩;have ne1:bs≠w.heap.size+1:=by omega
  have ne4:¬w.heap.size+1=bs:=by omega
  clear hb1 hO1;obtain⟨g0,g1,g2,g3⟩:=dL hS1.box rfl rfl rfl rfl;obtain⟨gz0,gz1,gz2,gz3⟩:=iY hS1.box;obtain⟨q0,q1⟩:=aR hp1 rfl rfl;obtain⟨qz0,qz1⟩:=bW hp1;go_upto_region 4 with fail
  obtain⟨w2,hw2⟩:∃w2,w2=(((w1.setCell ⟨bs,0,none⟩ (.int .i64 t')).setCell ⟨bs,1,none⟩ (.slice x1 rs.length c1)).setCell ⟨w.heap.size+1,0,none⟩ (.int .i64 a')).setCell ⟨w.heap.size+1,1,none⟩ (.int .i64 l'):=⟨_,rfl⟩;rw[<-hw2];have hS2:kN w2 base bs t' rs vs ls (.slice x1 rs.length c1) (.slice X vs.length C) (.slice Y ls.length D):=by rw[hw2];exact((hS1.putB hO2).put hbx.put.put (by decide) ne1).put hbx.put.put.put (by decide) ne1
  have hp2:w2.heap[w.heap.size+1]?=some (Y0 a' l'):=by rw[hw2];exact zC (zC ((zB ne4).trans ((zB ne4).trans hp1)))
  have hT2:eT base bs w w2:=by rw[hw2];exact(((hT1.set hlow).set hlow).put (by omega) (by omega)).put (by omega) (by omega)
  have hbx2:lH w2 (w.heap.size+1) 26:=⟨_,hp2⟩;clear hw2 hS1 hp1 hO2 hbx g0 g1 g2 g3 gz0 gz1 gz2 gz3 q0 q1 qz0 qz1;obtain⟨q0,q1⟩:=aR hp2 rfl rfl;obtain⟨qz0,qz1⟩:=bW hp2;go_wp2;refine bodyPost_ret (v:= .tuple #[.agg #[.int .i64 a', .int .i64 l'], .int .i64 (cE t ps cd.A cd.B cd.C)]) (by simp[results,Tryz.results50,go_sem,q0,q1]) rfl ?_;refine⟨a',l',by rw[hE.out],(hT2.put (by omega) (by omega)).put (by omega) (by omega),fun h=>?_⟩;rw[hE.out]at h;obtain⟨rfl,hal,hq⟩:=hE2 h;exact⟨rs,_,_,_,(hS2.put hbx2 (by decide) ne1).put hbx2.put (by decide) ne1,hal,hq⟩
end Go.Proofs.YtjphnaccgfjnjaaGreatDoor
