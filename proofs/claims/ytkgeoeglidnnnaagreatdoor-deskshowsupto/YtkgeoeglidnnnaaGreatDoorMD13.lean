/- A part of the proof. -/
import Derived.Test.YtkgeoeglidnnnaaGreatDoorMD12
set_option maxRecDepth 100000
set_option maxHeartbeats 20000000
namespace Go.Proofs.YtkgeoeglidnnnaaGreatDoor
variable {P : Program} {l : List Oper} {Q : Exit → Act → World → Prop} {S : World → Prop} {T : Nat → Bool} {f c p q n base bs vn ln k : Nat} {listed : Array Bool} {a : Act} {w w' W w3 wr : World} {v u : Vn} {e : Ending} {r : Rg} {cd : Cd} {V vB vK vV uB uV uK : Value} {E t t' : Int} {ss' : List Sb} {ps qs : List Po} {vs us : List Vn} {ls ms : List (Int × Int)} {x : Int × Int × Int × Int} {cs : List Cd}
open Go.RowKit Go.Shelf
theorem O1(i j k:Nat)(D1 D2 D3:Array Bool)(hr:Region.ready .any l.toArray listed=[i,j,k])(hi:decide (i<l.length/\j<l.length/\k<l.length)=true)(h1:listed.setIfInBounds i true=D1)(h2:listed.setIfInBounds j true=D2)(h3:listed.setIfInBounds k true=D3)
 (g1:∀K,B4 P l Q S T f i D1 K->wpList P l.toArray (mP K Q) [l.getD i kM] a w)(g2:∀K,B4 P l Q S T f j D2 K->wpList P l.toArray (mP K Q) [l.getD j kM] a w)(g3:∀K,B4 P l Q S T f k D3 K->wpList P l.toArray (mP K Q) [l.getD k kM] a w):oX P l.toArray Q S T (f+1) listed a w:=by
 subst h1;subst h2;subst h3;obtain⟨b1,b2,b3⟩:=of_decide_eq_true hi;refine⟨fun h1=>(by rw[hr]at h1;cases h1),fun m hm=>?_⟩;rw[hr]at hm;have hm':m=i\/m=j\/m=k:=by simpa using hm
 rcases hm' with rfl|rfl|rfl
 ·exact dT b1 (g1 _ ⟨fun _ _ h1 h2=>⟨fun _=>h1,h2⟩⟩)
 ·exact dT b2 (g2 _ ⟨fun _ _ h1 h2=>⟨fun _=>h1,h2⟩⟩)
 ·exact dT b3 (g3 _ ⟨fun _ _ h1 h2=>⟨fun _=>h1,h2⟩⟩)
structure ZZ(v:Vn)(c m:Int)(i:Nat):Prop where
 lt:i<v.rn
 yes:rpB v.rs c m i=true
 no:∀j,j<i->rpB v.rs c m j=false
def DpA(t:Int)(ps:List Po)(vs:List Vn)(A c m E:Int):Prop:=(aM vs.length vs A<0/\E=5)\/∃k:Nat,k<vs.length/\aM vs.length vs A=k/\
 ((gU (vnAt vs k).id (vnAt vs k).rn (vnAt vs k).rs (vnAt vs k).sn (vnAt vs k).ss c m≠0/\E=gU (vnAt vs k).id (vnAt vs k).rn (vnAt vs k).rs (vnAt vs k).sn (vnAt vs k).ss c m)\/
  (gU (vnAt vs k).id (vnAt vs k).rn (vnAt vs k).rs (vnAt vs k).sn (vnAt vs k).ss c m=0/\∃i,ZZ (vnAt vs k) c m i/\E=nN t ps (rgAt (vnAt vs k).rs i).p (rgAt (vnAt vs k).rs i).a (rgAt (vnAt vs k).rs i).l))
def DpR(t:Int)(ps:List Po)(vs:List Vn)(A c m t':Int)(rs:List Po)(us:List Vn):Prop:=∃(k i:Nat) (u:Vn),k<vs.length/\aM vs.length vs A=k/\gU (vnAt vs k).id (vnAt vs k).rn (vnAt vs k).rs (vnAt vs k).sn (vnAt vs k).ss c m=0/\ZZ (vnAt vs k) c m i/\
 us=vs.set k u/\u.id=(vnAt vs k).id/\u.rs=(vnAt vs k).rs.take i++(vnAt vs k).rs.drop (i+1)/\u.rn=u.rs.length/\cO (vnAt vs k).ss u.ss/\u.sn=u.ss.length/\CC t ps (rgAt (vnAt vs k).rs i).p (rgAt (vnAt vs k).rs i).a (rgAt (vnAt vs k).rs i).l t' rs
def Z0(base bs:Nat)(t:Int)(ps:List Po)(vs:List Vn)(ls:List (Int×Int))(A c m:Int)(w:World)(e:Ending)(w':World):Prop:=
 ∃E,e= .returned (.int .i64 E)/\iA base bs w w'/\DpA t ps vs A c m E/\(E=0->∃t' rs us vB vV vK,lI w' base bs t' rs us ls vB vV vK/\DpR t ps vs A c m t' rs us)
abbrev aDe(u:Vn):Obj:=eH u.id (.slice u.rx u.rn u.rc) (.slice u.sx u.sn u.sc)
def DrK(v:Vn)(c m:Int)(k:Nat)(u:Vn)(r:Rg):Prop:=ZZ v c m k/\r=rgAt v.rs k/\u.id=v.id/\u.rs=v.rs.take k++v.rs.drop (k+1)/\u.rn=u.rs.length/\cO v.ss u.ss/\u.sn=u.ss.length
theorem sN{c m ed:Int}(hed:gU v.id v.rn v.rs v.sn v.ss c m=ed)(h:jL v.id v.rn v.rs v.sn v.ss c m w e w'):∃u r,e= .returned (.tuple #[nwV u, .agg #[.int .i64 (Rg.a r), .int .i64 r.l, .int .i64 r.p], .int .i64 ed])/\Below w.heap.size w w'/\
  (ed=0->oV w' w.heap.size u)/\(ed=0->∃k,DrK v c m k u r):=by
 obtain⟨V,r,rfl,hb,h1,h2⟩:=h;rw[hed]at h1 h2⊢;by_cases h0:ed=0
 ·obtain⟨ts,i,hs,hi,hy,hn,hr,hN⟩:=h2 h0;obtain⟨u,rfl,g1,g2,g3,g4,g5,g6⟩:=hN.vn;exact⟨u,r,rfl,hb,fun _=>g6,fun _=>⟨i,⟨hi,hy,hn⟩,hr,g1,g2,by rw[g3,g2],by rw[g4];exact hs,by rw[g5,g4]⟩⟩
 ·obtain⟨rfl, -⟩:=h1 h0;exact⟨newV 0,r,rfl,hb,fun h=>absurd h h0,fun h=>absurd h h0⟩
theorem bD{E:Prop}(hp:w3.heap[p]?=some (eH 0 (.slice none 0 0) (.slice none 0 0)))(hq:w3.heap[q]?=some (AY ⟨0,0,0⟩))(h1:W.heap.size<=p)(h2:W.heap.size<=q)(hB:Below W.heap.size W w3)(hu:E->oV w3 W.heap.size u)(hk:E->∀k,(Value.slice u.rx u.rn u.rc).ownBlock=some k->k≠q):
  Below W.heap.size W ((((((w3.setCell ⟨p,0,none⟩ (.int .i64 u.id)).setCell ⟨p,1,none⟩ (.slice u.rx u.rn u.rc)).setCell ⟨p,2,none⟩ (.slice u.sx u.sn u.sc)).setCell ⟨q,0,none⟩ (.int .i64 r.a)).setCell ⟨q,1,none⟩ (.int .i64 r.l)).setCell ⟨q,2,none⟩ (.int .i64 r.p))/\
  ((((((w3.setCell ⟨p,0,none⟩ (.int .i64 u.id)).setCell ⟨p,1,none⟩ (.slice u.rx u.rn u.rc)).setCell ⟨p,2,none⟩ (.slice u.sx u.sn u.sc)).setCell ⟨q,0,none⟩ (.int .i64 r.a)).setCell ⟨q,1,none⟩ (.int .i64 r.l)).setCell ⟨q,2,none⟩ (.int .i64 r.p)).heap[p]?=some (aDe u)/\
  ((((((w3.setCell ⟨p,0,none⟩ (.int .i64 u.id)).setCell ⟨p,1,none⟩ (.slice u.rx u.rn u.rc)).setCell ⟨p,2,none⟩ (.slice u.sx u.sn u.sc)).setCell ⟨q,0,none⟩ (.int .i64 r.a)).setCell ⟨q,1,none⟩ (.int .i64 r.l)).setCell ⟨q,2,none⟩ (.int .i64 r.p)).heap[q]?=some (AY r)/\
  (E->oV ((((((w3.setCell ⟨p,0,none⟩ (.int .i64 u.id)).setCell ⟨p,1,none⟩ (.slice u.rx u.rn u.rc)).setCell ⟨p,2,none⟩ (.slice u.sx u.sn u.sc)).setCell ⟨q,0,none⟩ (.int .i64 r.a)).setCell ⟨q,1,none⟩ (.int .i64 r.l)).setCell ⟨q,2,none⟩ (.int .i64 r.p)) W.heap.size u):=by
 have hne:p≠q:=fun e=>by rw[<-e,hp]at hq;simp at hq
 have a1:=heap_setCell_same w3 p 0 _ _ (.int .i64 u.id) hp;have a2:=heap_setCell_same _ p 1 _ _ (.slice u.rx u.rn u.rc) a1;have a3:=heap_setCell_same _ p 2 _ _ (.slice u.sx u.sn u.sc) a2;have b0:=(heap_setCell_other _ ⟨p,2,none⟩ _ (.slice u.sx u.sn u.sc) hne.symm).trans ((heap_setCell_other _ ⟨p,1,none⟩ _ (.slice u.rx u.rn u.rc) hne.symm).trans ((heap_setCell_other w3 ⟨p,0,none⟩ _ (.int .i64 u.id) hne.symm).trans hq));have b1:=heap_setCell_same _ q 0 _ _ (.int .i64 r.a) b0;have b2:=heap_setCell_same _ q 1 _ _ (.int .i64 r.l) b1;have b3:=heap_setCell_same _ q 2 _ _ (.int .i64 r.p) b2;refine⟨(((((hB.setCell (p:=⟨p,0,none⟩) h1 _).setCell (p:=⟨p,1,none⟩) h1 _).setCell (p:=⟨p,2,none⟩) h1 _).setCell (p:=⟨q,0,none⟩) h2 _).setCell (p:=⟨q,1,none⟩) h2 _).setCell (p:=⟨q,2,none⟩) h2 _,(zB hne).trans ((zB hne).trans ((zB hne).trans a3)),b3,fun h=>?_⟩;have v1:=(((hu h).kept (aN _ p 0 (.int .i64 u.id)) hp (by decide) (by decide) (by decide) (by decide)).kept (aN _ p 1 (.slice u.rx u.rn u.rc)) a1 (by decide) (by decide) (by decide) (by decide)).kept (aN _ p 2 (.slice u.sx u.sn u.sc)) a2 (by decide) (by decide) (by decide) (by decide);have st:∀(V:World) (cs:Array Value) (o:Nat) (x:Value),V.heap[q]?=some (.cells cs 59)->oV V W.heap.size u->oV (V.setCell ⟨q,o,none⟩ x) W.heap.size u:=fun V cs o x hV hv=>
  ⟨hv.1.kept (aN _ _ _ _) (fun k e=>hk h k e),hv.2.1.kept (aN _ _ _ _) (fun _ g e=>by subst e;exact hv.2.1.ne hV (by decide) g),hv.2.2.keptOf (aN _ _ _ _) hV (by decide) (by decide)⟩
 exact st _ _ _ _ b2 (st _ _ _ _ b1 (st _ _ _ _ b0 v1))
theorem O2(base bs:Nat)(t:Int)(ps:List Po)(vs:List Vn)(ls:List (Int×Int))(vB vV vK:Value)(cd:Cd)(w:World)(hS:lI w base bs t ps vs ls vB vV vK)(hB:aX t ps=0)(hv6:vs.length<=6):
  Calls Tryz.prog 149 #[.pointer (some ⟨bs,0,none⟩),WF cd] w (Z0 base bs t ps vs ls cd.A cd.a cd.l w):=by
 have hbl:bs<w.heap.size:=(zG hS.box);have hlow:=hS.low;obtain⟨x,c,X,C,Y,D,rfl,rfl,rfl,hk,hvs,hvc,hv63,hps,hl63⟩:=hS.see hB;go_enter Tryz.func149,Tryz.ntmps149;go_upto_region 1 with fail
 obtain⟨w0,hw0⟩:∃w0,w0=w.alloc (AA cd):=⟨_,rfl⟩;rw[<-hw0];have hB0:Below w.heap.size w w0:=by rw[hw0];exact bl1 w _
 have hq0:w0.heap[w.heap.size]?=some (AA cd):=by rw[hw0];exact aB _ rfl
 have hS0:=hS.later hB0;clear hw0;have s2:=Ws.here (aO hS0.box 2 rfl);have s3:=Ws.here (aO hS0.box 3 rfl);have k1:=Ws.here (aO hq0 1 rfl);obtain⟨tp,htp⟩:∃tp,aM vs.length vs cd.A=tp:=⟨_,rfl⟩;have hpc:=vplace_cases vs.length vs cd.A;rw[htp]at hpc;refine aE w0.heap.size (by kernel_rfl) (by kernel_rfl) ?_;repeat(go_big_quiet_step (first|(go_at_call 192;exact Calls.in_ws (zE) (uF cd.A X vs.length C vs Y ls.length D tp htp _ (hvs.later (hB0.trans ((Ws.property _).mono hB0.size))) (by omega)))))
 refine wpQuiet_nil ?_;rintro _ ⟨u,rfl⟩;have hBu:=hB0.trans (u.property.mono hB0.size);have hcu:=aA u.property hq0;have hSu:=hS0.later u.property;generalize u.val=wu at hBu hcu hSu⊢;clear u;clear s2 s3 k1 hS0 hq0;have hpt:Hid (aM vs.length vs cd.A=tp):=htp;clear htp;rcases hpc with ⟨i,hi, -,hti⟩|hti
 ·subst hti;have hi0:¬((i:Int)<0):=by omega
  have hi':Hid (i<vs.length):=hi;obtain⟨g,C2,hvV⟩:=hSu.own.row.held (by omega);simp only[Value.slice.injEq]at hvV;obtain⟨rfl, -,rfl⟩:=hvV;have hvt:=hSu.own.net _ (lE hi);have hvp:=hvt.ok;obtain⟨y0,y1,y2⟩:=hSu.own.row.cells i hi;have hdr:=fun W (hW:Below wu.heap.size wu W)=>N0 (vnAt vs i).id (vnAt vs i).rx (vnAt vs i).rn (vnAt vs i).rc (vnAt vs i).rs (vnAt vs i).sx (vnAt vs i).sn (vnAt vs i).sc (vnAt vs i).ss cd.a cd.l W (hvp.2.2.2.later hW) hvp.1 hvp.2.1 hvp.2.2.1;have hi1:(i:Int)<vs.length:=by omega
  have hi2:(0:Int)<=i:=by omega
  go_upto_region 4 with fail
  have s2:=Ws.here (aO hSu.box 2 rfl);have a0:=Ws.here y0;have a1:=Ws.here y1;have a2:=Ws.here y2;have k4:=Ws.here (aO hcu 4 rfl);have k5:=Ws.here (aO hcu 5 rfl);clear y0 y1 y2;obtain⟨ed,hed⟩:∃ed,gU (vnAt vs i).id (vnAt vs i).rn (vnAt vs i).rs (vnAt vs i).sn (vnAt vs i).ss cd.a cd.l=ed:=⟨_,rfl⟩;go_cut [6,7,8] (fun p q v wd=>v= .int .i64 ed/\∃bp bq u r,p= .pointer (some ⟨bp,0,none⟩)/\q= .pointer (some ⟨bq,0,none⟩)/\wu.heap.size<=bp/\wu.heap.size<=bq/\Below wu.heap.size wu wd/\wd.heap[bp]?=some (aDe u)/\wd.heap[bq]?=some (AY r)/\
   (ed=0->oV wd wu.heap.size u)/\(ed=0->∃k,DrK (vnAt vs i) cd.a cd.l k u r))
  case first=>
   refine bG (fun w'=>∃u:Ws wu.heap.size wu,w'=u.val) (fun j=>decide (j<11)||(decide (j=15)||decide (j=16))) 20 _ (by kernel_rfl) rfl rfl ?_
   refine bE 10 [0,1,2,3,4,5,6,7,8,9] rfl _ rfl (by kernel_rfl) (fun d _ _ _ _ h=>by cases d<;>exact h) ⟨⟨_,(zD).drew⟩,rfl⟩ ?_
   simp only[zK,zM,zI,zJ]
   repeat(go_big_quiet_step (fail))
   refine wpQuiet_nil ?_
   clear s2 a0 a1 a2 k4 k5 hcu hSu hpt hi1 hi2
   refine O1 10 15 16 _ _ _ (by kernel_rfl) (by kernel_rfl) rfl rfl rfl ?_ ?_ ?_
   ·have hW0:Below wu.heap.size wu wu.drew:=(zD).drew;intro K hK;simp only[zI,zJ];go_wp2_with fail;refine(hdr wu.drew hW0).mono ?_;rintro e w1 hpo;obtain⟨u,r,rfl,hbw1,hu,hR⟩:=sN hed hpo;go_wp2_with fail;have hW1:Below wu.heap.size wu w1:=hW0.trans (hbw1.mono hW0.size);refine aC (hK.out _ _ ⟨⟨_,hW1⟩,rfl⟩ ?_);clear hK K;refine jA 5 [11,12,13,14] rfl _ rfl (by kernel_rfl) (fun d _ _ _ _ h=>by cases d<;>exact h) ?_;simp only[zK,zM,zI,zJ];repeat(go_big_quiet_step (fail))
    refine wpQuiet_nil ?_;refine iD 15 16 _ _ _ _ (by kernel_rfl) (by kernel_rfl) rfl rfl rfl rfl ?_ ?_
    ·intro K hK;simp only[zI,zJ];go_wp2_with fail;obtain⟨w2,hww2⟩:∃W,W=w1.alloc (eH 0 (.slice none 0 0) (.slice none 0 0)):=⟨_,rfl⟩;rw[<-hww2];have hbw2:Below w1.heap.size w1 w2:=by rw[hww2];exact bl1 w1 _
     have hx15:w2.heap[w1.heap.size]?=some (eH 0 (.slice none 0 0) (.slice none 0 0)):=by rw[hww2];exact aB _ rfl
     clear hww2;have hW2:Below wu.heap.size wu w2:=hW1.trans (hbw2.mono hW1.size);refine aC (hK.out _ _ ⟨⟨_,hW2⟩,rfl⟩ ?_);clear hK K;refine aY 16 _ _ (by kernel_rfl) (by kernel_rfl) rfl rfl ?_;intro K hK;simp only[zI,zJ];go_wp2_with fail;obtain⟨w3,hww3⟩:∃W,W=w2.alloc (AY ⟨0,0,0⟩):=⟨_,rfl⟩;rw[<-hww3];have hbw3:Below w2.heap.size w2 w3:=by rw[hww3];exact bl1 w2 _
     have hx16:w3.heap[w2.heap.size]?=some (AY ⟨0,0,0⟩):=by rw[hww3];exact aB _ rfl
     clear hww3;have hW3:Below wu.heap.size wu w3:=hW2.trans (hbw3.mono hW2.size);refine aC (hK.out _ _ ⟨⟨_,hW3⟩,rfl⟩ ?_);clear hK K;have hy15:=aA hbw3 (hx15);have hy16:=hx16;have hu3:ed=0->oV w3 wu.heap.size u:=fun h=>((((hu h).low (hW0.size))).later hbw2).later hbw3;have e0:wu.heap.size<=w1.heap.size:=hbw1.size;have e1:w1.heap.size<=w2.heap.size:=hbw2.size;have e2:w2.heap.size<=w3.heap.size:=hbw3.size;have l16:w2.heap.size<w3.heap.size:=(zG hx16);have l15:w1.heap.size<w2.heap.size:=(zG hx15);have nq1:¬w1.heap.size=w2.heap.size:=by omega
     have nq2:¬w2.heap.size=w1.heap.size:=by omega
     have hk3:ed=0->∀k,(Value.slice u.rx u.rn u.rc).ownBlock=some k->k≠w2.heap.size:=fun h k hk=>by
      have e:wu.heap.size<=k/\k<w1.heap.size:=(hu h).1.lt k hk;omega
     have hz15:wu.heap.size<=w1.heap.size:=hW1.size;have hz16:wu.heap.size<=w2.heap.size:=hW2.size;clear hu hdr;refine bB [17,18,19] rfl (by kernel_rfl) ?_;simp only[zK,zM,zI,zJ];obtain⟨p0,p1,p2⟩:=bZ hy15 rfl rfl rfl;obtain⟨pz0,pz1,pz2⟩:=fB hy15;obtain⟨q0,q1,q2⟩:=bZ hy16 rfl rfl rfl;obtain⟨qz0,qz1,qz2⟩:=fB hy16;go_wp2_with fail;go_meet
     case rel=>exact⟨rfl,_,_,u,r,rfl,rfl,hz15,hz16,(bD hy15 hy16 hz15 hz16 hW3 hu3 hk3).1,(bD hy15 hy16 hz15 hz16 hW3 hu3 hk3).2.1,(bD hy15 hy16 hz15 hz16 hW3 hu3 hk3).2.2.1,(bD hy15 hy16 hz15 hz16 hW3 hu3 hk3).2.2.2,hR⟩
    ·intro K hK;simp only[zI,zJ];go_wp2_with fail;obtain⟨w2,hww2⟩:∃W,W=w1.alloc (AY ⟨0,0,0⟩):=⟨_,rfl⟩;rw[<-hww2];have hbw2:Below w1.heap.size w1 w2:=by rw[hww2];exact bl1 w1 _
     have hx16:w2.heap[w1.heap.size]?=some (AY ⟨0,0,0⟩):=by rw[hww2];exact aB _ rfl
     clear hww2;have hW2:Below wu.heap.size wu w2:=hW1.trans (hbw2.mono hW1.size);refine aC (hK.out _ _ ⟨⟨_,hW2⟩,rfl⟩ ?_);clear hK K;refine aY 15 _ _ (by kernel_rfl) (by kernel_rfl) rfl rfl ?_;intro K hK;simp only[zI,zJ];go_wp2_with fail;obtain⟨w3,hww3⟩:∃W,W=w2.alloc (eH 0 (.slice none 0 0) (.slice none 0 0)):=⟨_,rfl⟩;rw[<-hww3];have hbw3:Below w2.heap.size w2 w3:=by rw[hww3];exact bl1 w2 _
     have hx15:w3.heap[w2.heap.size]?=some (eH 0 (.slice none 0 0) (.slice none 0 0)):=by rw[hww3];exact aB _ rfl
     clear hww3;have hW3:Below wu.heap.size wu w3:=hW2.trans (hbw3.mono hW2.size);refine aC (hK.out _ _ ⟨⟨_,hW3⟩,rfl⟩ ?_);clear hK K;have hy15:=hx15;have hy16:=aA hbw3 (hx16);have hu3:ed=0->oV w3 wu.heap.size u:=fun h=>((((hu h).low (hW0.size))).later hbw2).later hbw3;have e0:wu.heap.size<=w1.heap.size:=hbw1.size;have e1:w1.heap.size<=w2.heap.size:=hbw2.size;have e2:w2.heap.size<=w3.heap.size:=hbw3.size;have l16:w1.heap.size<w2.heap.size:=(zG hx16);have l15:w2.heap.size<w3.heap.size:=(zG hx15);have nq1:¬w2.heap.size=w1.heap.size:=by omega
     have nq2:¬w1.heap.size=w2.heap.size:=by omega
     have hk3:ed=0->∀k,(Value.slice u.rx u.rn u.rc).ownBlock=some k->k≠w1.heap.size:=fun h k hk=>by
      have e:wu.heap.size<=k/\k<w1.heap.size:=(hu h).1.lt k hk;omega
     have hz15:wu.heap.size<=w2.heap.size:=hW2.size;have hz16:wu.heap.size<=w1.heap.size:=hW1.size;clear hu hdr;refine bB [17,18,19] rfl (by kernel_rfl) ?_;simp only[zK,zM,zI,zJ];obtain⟨p0,p1,p2⟩:=bZ hy15 rfl rfl rfl;obtain⟨pz0,pz1,pz2⟩:=fB hy15;obtain⟨q0,q1,q2⟩:=bZ hy16 rfl rfl rfl;obtain⟨qz0,qz1,qz2⟩:=fB hy16;go_wp2_with fail;go_meet
     case rel=>exact⟨rfl,_,_,u,r,rfl,rfl,hz15,hz16,(bD hy15 hy16 hz15 hz16 hW3 hu3 hk3).1,(bD hy15 hy16 hz15 hz16 hW3 hu3 hk3).2.1,(bD hy15 hy16 hz15 hz16 hW3 hu3 hk3).2.2.1,(bD hy15 hy16 hz15 hz16 hW3 hu3 hk3).2.2.2,hR⟩
   ·have hW0:Below wu.heap.size wu wu.drew:=(zD).drew;intro K hK;simp only[zI,zJ];go_wp2_with fail;obtain⟨w1,hww1⟩:∃W,W=(wu.alloc (eH 0 (.slice none 0 0) (.slice none 0 0))).drew:=⟨_,rfl⟩;rw[<-hww1];have hbw1:Below wu.drew.heap.size wu.drew w1:=by rw[hww1];exact⟨rfl,rfl,rfl,(bl1 wu _).size,(bl1 wu _).block⟩
    have hx15:w1.heap[wu.heap.size]?=some (eH 0 (.slice none 0 0) (.slice none 0 0)):=by rw[hww1];exact aB (W:=wu) _ rfl
    clear hww1;have hW1:Below wu.heap.size wu w1:=hW0.trans (hbw1.mono hW0.size);refine aC (hK.out _ _ ⟨⟨_,hW1⟩,rfl⟩ ?_);clear hK K;refine iD 10 16 _ _ _ _ (by kernel_rfl) (by kernel_rfl) rfl rfl rfl rfl ?_ ?_
    ·intro K hK;simp only[zI,zJ];go_wp2_with fail;refine(hdr w1 hW1).mono ?_;rintro e w2 hpo;obtain⟨u,r,rfl,hbw2,hu,hR⟩:=sN hed hpo;go_wp2_with fail;have hW2:Below wu.heap.size wu w2:=hW1.trans (hbw2.mono hW1.size);refine aC (hK.out _ _ ⟨⟨_,hW2⟩,rfl⟩ ?_);clear hK K;refine jA 4 [11,12,13,14] rfl _ rfl (by kernel_rfl) (fun d _ _ _ _ h=>by cases d<;>exact h) ?_;simp only[zK,zM,zI,zJ];repeat(go_big_quiet_step (fail))
     refine wpQuiet_nil ?_;refine aY 16 _ _ (by kernel_rfl) (by kernel_rfl) rfl rfl ?_;intro K hK;simp only[zI,zJ];go_wp2_with fail;obtain⟨w3,hww3⟩:∃W,W=w2.alloc (AY ⟨0,0,0⟩):=⟨_,rfl⟩;rw[<-hww3];have hbw3:Below w2.heap.size w2 w3:=by rw[hww3];exact bl1 w2 _
     have hx16:w3.heap[w2.heap.size]?=some (AY ⟨0,0,0⟩):=by rw[hww3];exact aB _ rfl
     clear hww3;have hW3:Below wu.heap.size wu w3:=hW2.trans (hbw3.mono hW2.size);refine aC (hK.out _ _ ⟨⟨_,hW3⟩,rfl⟩ ?_);clear hK K;have hy15:=aA hbw3 (aA hbw2 (hx15));have hy16:=hx16;have hu3:ed=0->oV w3 wu.heap.size u:=fun h=>(((hu h).low (hW1.size))).later hbw3;have e0:wu.heap.size<=w1.heap.size:=hbw1.size;have e1:w1.heap.size<=w2.heap.size:=hbw2.size;have e2:w2.heap.size<=w3.heap.size:=hbw3.size;have l16:w2.heap.size<w3.heap.size:=(zG hx16);have l15:wu.heap.size<w1.heap.size:=(zG hx15);have nq1:¬wu.heap.size=w2.heap.size:=by omega
     have nq2:¬w2.heap.size=wu.heap.size:=by omega
     have hk3:ed=0->∀k,(Value.slice u.rx u.rn u.rc).ownBlock=some k->k≠w2.heap.size:=fun h k hk=>by
      have e:w1.heap.size<=k/\k<w2.heap.size:=(hu h).1.lt k hk;omega
     have hz15:wu.heap.size<=wu.heap.size:=zE;have hz16:wu.heap.size<=w2.heap.size:=hW2.size;clear hu hdr;refine bB [17,18,19] rfl (by kernel_rfl) ?_;simp only[zK,zM,zI,zJ];obtain⟨p0,p1,p2⟩:=bZ hy15 rfl rfl rfl;obtain⟨pz0,pz1,pz2⟩:=fB hy15;obtain⟨q0,q1,q2⟩:=bZ hy16 rfl rfl rfl;obtain⟨qz0,qz1,qz2⟩:=fB hy16;go_wp2_with fail;go_meet
     case rel=>exact⟨rfl,_,_,u,r,rfl,rfl,hz15,hz16,(bD hy15 hy16 hz15 hz16 hW3 hu3 hk3).1,(bD hy15 hy16 hz15 hz16 hW3 hu3 hk3).2.1,(bD hy15 hy16 hz15 hz16 hW3 hu3 hk3).2.2.1,(bD hy15 hy16 hz15 hz16 hW3 hu3 hk3).2.2.2,hR⟩
    ·intro K hK;simp only[zI,zJ];go_wp2_with fail;obtain⟨w2,hww2⟩:∃W,W=w1.alloc (AY ⟨0,0,0⟩):=⟨_,rfl⟩;rw[<-hww2];have hbw2:Below w1.heap.size w1 w2:=by rw[hww2];exact bl1 w1 _
     have hx16:w2.heap[w1.heap.size]?=some (AY ⟨0,0,0⟩):=by rw[hww2];exact aB _ rfl
     clear hww2;have hW2:Below wu.heap.size wu w2:=hW1.trans (hbw2.mono hW1.size);refine aC (hK.out _ _ ⟨⟨_,hW2⟩,rfl⟩ ?_);clear hK K;refine aY 10 _ _ (by kernel_rfl) (by kernel_rfl) rfl rfl ?_;intro K hK;simp only[zI,zJ];go_wp2_with fail;refine(hdr w2 hW2).mono ?_;rintro e w3 hpo;obtain⟨u,r,rfl,hbw3,hu,hR⟩:=sN hed hpo;go_wp2_with fail;have hW3:Below wu.heap.size wu w3:=hW2.trans (hbw3.mono hW2.size);refine aC (hK.out _ _ ⟨⟨_,hW3⟩,rfl⟩ ?_);clear hK K;refine jA 3 [11,12,13,14] rfl _ rfl (by kernel_rfl) (fun d _ _ _ _ h=>by cases d<;>exact h) ?_;simp only[zK,zM,zI,zJ];repeat(go_big_quiet_step (fail))
     refine wpQuiet_nil ?_;have hy15:=aA hbw3 (aA hbw2 (hx15));have hy16:=aA hbw3 (hx16);have hu3:ed=0->oV w3 wu.heap.size u:=fun h=>((hu h).low (hW2.size));have e0:wu.heap.size<=w1.heap.size:=hbw1.size;have e1:w1.heap.size<=w2.heap.size:=hbw2.size;have e2:w2.heap.size<=w3.heap.size:=hbw3.size;have l16:w1.heap.size<w2.heap.size:=(zG hx16);have l15:wu.heap.size<w1.heap.size:=(zG hx15);have nq1:¬wu.heap.size=w1.heap.size:=by omega
     have nq2:¬w1.heap.size=wu.heap.size:=by omega
     have hk3:ed=0->∀k,(Value.slice u.rx u.rn u.rc).ownBlock=some k->k≠w1.heap.size:=fun h k hk=>by
      have e:w2.heap.size<=k/\k<w3.heap.size:=(hu h).1.lt k hk;omega
     have hz15:wu.heap.size<=wu.heap.size:=zE;have hz16:wu.heap.size<=w1.heap.size:=hW1.size;clear hu hdr;refine bB [17,18,19] rfl (by kernel_rfl) ?_;simp only[zK,zM,zI,zJ];obtain⟨p0,p1,p2⟩:=bZ hy15 rfl rfl rfl;obtain⟨pz0,pz1,pz2⟩:=fB hy15;obtain⟨q0,q1,q2⟩:=bZ hy16 rfl rfl rfl;obtain⟨qz0,qz1,qz2⟩:=fB hy16;go_wp2_with fail;go_meet
     case rel=>exact⟨rfl,_,_,u,r,rfl,rfl,hz15,hz16,(bD hy15 hy16 hz15 hz16 hW3 hu3 hk3).1,(bD hy15 hy16 hz15 hz16 hW3 hu3 hk3).2.1,(bD hy15 hy16 hz15 hz16 hW3 hu3 hk3).2.2.1,(bD hy15 hy16 hz15 hz16 hW3 hu3 hk3).2.2.2,hR⟩
   ·have hW0:Below wu.heap.size wu wu.drew:=(zD).drew;intro K hK;simp only[zI,zJ];go_wp2_with fail;obtain⟨w1,hww1⟩:∃W,W=(wu.alloc (AY ⟨0,0,0⟩)).drew:=⟨_,rfl⟩;rw[<-hww1];have hbw1:Below wu.drew.heap.size wu.drew w1:=by rw[hww1];exact⟨rfl,rfl,rfl,(bl1 wu _).size,(bl1 wu _).block⟩
    have hx16:w1.heap[wu.heap.size]?=some (AY ⟨0,0,0⟩):=by rw[hww1];exact aB (W:=wu) _ rfl
    clear hww1;have hW1:Below wu.heap.size wu w1:=hW0.trans (hbw1.mono hW0.size);refine aC (hK.out _ _ ⟨⟨_,hW1⟩,rfl⟩ ?_);clear hK K;refine iD 10 15 _ _ _ _ (by kernel_rfl) (by kernel_rfl) rfl rfl rfl rfl ?_ ?_
    ·intro K hK;simp only[zI,zJ];go_wp2_with fail;refine(hdr w1 hW1).mono ?_;rintro e w2 hpo;obtain⟨u,r,rfl,hbw2,hu,hR⟩:=sN hed hpo;go_wp2_with fail;have hW2:Below wu.heap.size wu w2:=hW1.trans (hbw2.mono hW1.size);refine aC (hK.out _ _ ⟨⟨_,hW2⟩,rfl⟩ ?_);clear hK K;refine jA 4 [11,12,13,14] rfl _ rfl (by kernel_rfl) (fun d _ _ _ _ h=>by cases d<;>exact h) ?_;simp only[zK,zM,zI,zJ];repeat(go_big_quiet_step (fail))
     refine wpQuiet_nil ?_;refine aY 15 _ _ (by kernel_rfl) (by kernel_rfl) rfl rfl ?_;intro K hK;simp only[zI,zJ];go_wp2_with fail;obtain⟨w3,hww3⟩:∃W,W=w2.alloc (eH 0 (.slice none 0 0) (.slice none 0 0)):=⟨_,rfl⟩;rw[<-hww3];have hbw3:Below w2.heap.size w2 w3:=by rw[hww3];exact bl1 w2 _
     have hx15:w3.heap[w2.heap.size]?=some (eH 0 (.slice none 0 0) (.slice none 0 0)):=by rw[hww3];exact aB _ rfl
     clear hww3;have hW3:Below wu.heap.size wu w3:=hW2.trans (hbw3.mono hW2.size);refine aC (hK.out _ _ ⟨⟨_,hW3⟩,rfl⟩ ?_);clear hK K;have hy15:=hx15;have hy16:=aA hbw3 (aA hbw2 (hx16));have hu3:ed=0->oV w3 wu.heap.size u:=fun h=>(((hu h).low (hW1.size))).later hbw3;have e0:wu.heap.size<=w1.heap.size:=hbw1.size;have e1:w1.heap.size<=w2.heap.size:=hbw2.size;have e2:w2.heap.size<=w3.heap.size:=hbw3.size;have l16:wu.heap.size<w1.heap.size:=(zG hx16);have l15:w2.heap.size<w3.heap.size:=(zG hx15);have nq1:¬w2.heap.size=wu.heap.size:=by omega
     have nq2:¬wu.heap.size=w2.heap.size:=by omega
     have hk3:ed=0->∀k,(Value.slice u.rx u.rn u.rc).ownBlock=some k->k≠wu.heap.size:=fun h k hk=>by
      have e:w1.heap.size<=k/\k<w2.heap.size:=(hu h).1.lt k hk;omega
     have hz15:wu.heap.size<=w2.heap.size:=hW2.size;have hz16:wu.heap.size<=wu.heap.size:=zE;clear hu hdr;refine bB [17,18,19] rfl (by kernel_rfl) ?_;simp only[zK,zM,zI,zJ];obtain⟨p0,p1,p2⟩:=bZ hy15 rfl rfl rfl;obtain⟨pz0,pz1,pz2⟩:=fB hy15;obtain⟨q0,q1,q2⟩:=bZ hy16 rfl rfl rfl;obtain⟨qz0,qz1,qz2⟩:=fB hy16;go_wp2_with fail;go_meet
     case rel=>exact⟨rfl,_,_,u,r,rfl,rfl,hz15,hz16,(bD hy15 hy16 hz15 hz16 hW3 hu3 hk3).1,(bD hy15 hy16 hz15 hz16 hW3 hu3 hk3).2.1,(bD hy15 hy16 hz15 hz16 hW3 hu3 hk3).2.2.1,(bD hy15 hy16 hz15 hz16 hW3 hu3 hk3).2.2.2,hR⟩
    ·intro K hK;simp only[zI,zJ];go_wp2_with fail;obtain⟨w2,hww2⟩:∃W,W=w1.alloc (eH 0 (.slice none 0 0) (.slice none 0 0)):=⟨_,rfl⟩;rw[<-hww2];have hbw2:Below w1.heap.size w1 w2:=by rw[hww2];exact bl1 w1 _
     have hx15:w2.heap[w1.heap.size]?=some (eH 0 (.slice none 0 0) (.slice none 0 0)):=by rw[hww2];exact aB _ rfl
     clear hww2;have hW2:Below wu.heap.size wu w2:=hW1.trans (hbw2.mono hW1.size);refine aC (hK.out _ _ ⟨⟨_,hW2⟩,rfl⟩ ?_);clear hK K;refine aY 10 _ _ (by kernel_rfl) (by kernel_rfl) rfl rfl ?_;intro K hK;simp only[zI,zJ];go_wp2_with fail;refine(hdr w2 hW2).mono ?_;rintro e w3 hpo;obtain⟨u,r,rfl,hbw3,hu,hR⟩:=sN hed hpo;go_wp2_with fail;have hW3:Below wu.heap.size wu w3:=hW2.trans (hbw3.mono hW2.size);refine aC (hK.out _ _ ⟨⟨_,hW3⟩,rfl⟩ ?_);clear hK K;refine jA 3 [11,12,13,14] rfl _ rfl (by kernel_rfl) (fun d _ _ _ _ h=>by cases d<;>exact h) ?_;simp only[zK,zM,zI,zJ];repeat(go_big_quiet_step (fail))
     refine wpQuiet_nil ?_;have hy15:=aA hbw3 (hx15);have hy16:=aA hbw3 (aA hbw2 (hx16));have hu3:ed=0->oV w3 wu.heap.size u:=fun h=>((hu h).low (hW2.size));have e0:wu.heap.size<=w1.heap.size:=hbw1.size;have e1:w1.heap.size<=w2.heap.size:=hbw2.size;have e2:w2.heap.size<=w3.heap.size:=hbw3.size;have l16:wu.heap.size<w1.heap.size:=(zG hx16);have l15:w1.heap.size<w2.heap.size:=(zG hx15);have nq1:¬w1.heap.size=wu.heap.size:=by omega
     have nq2:¬wu.heap.size=w1.heap.size:=by omega
     have hk3:ed=0->∀k,(Value.slice u.rx u.rn u.rc).ownBlock=some k->k≠wu.heap.size:=fun h k hk=>by
      have e:w2.heap.size<=k/\k<w3.heap.size:=(hu h).1.lt k hk;omega
     have hz15:wu.heap.size<=w1.heap.size:=hW1.size;have hz16:wu.heap.size<=wu.heap.size:=zE;clear hu hdr;refine bB [17,18,19] rfl (by kernel_rfl) ?_;simp only[zK,zM,zI,zJ];obtain⟨p0,p1,p2⟩:=bZ hy15 rfl rfl rfl;obtain⟨pz0,pz1,pz2⟩:=fB hy15;obtain⟨q0,q1,q2⟩:=bZ hy16 rfl rfl rfl;obtain⟨qz0,qz1,qz2⟩:=fB hy16;go_wp2_with fail;go_meet
     case rel=>exact⟨rfl,_,_,u,r,rfl,rfl,hz15,hz16,(bD hy15 hy16 hz15 hz16 hW3 hu3 hk3).1,(bD hy15 hy16 hz15 hz16 hW3 hu3 hk3).2.1,(bD hy15 hy16 hz15 hz16 hW3 hu3 hk3).2.2.1,(bD hy15 hy16 hz15 hz16 hW3 hu3 hk3).2.2.2,hR⟩
  case rest=>
   clear s2 a0 a1 a2 k4 k5 hdr
   obtain⟨rfl,bp,bq,u,r,rfl,rfl,hbp,hbq,hBc,hxp,hxq,hu,hRk⟩:=hcut
   have hSc:=hSu.later hBc
   have hcc:=aA hBc hcu
   have hBw:=hBu.trans (hBc.mono hBu.size)
   clear hSu hcu
   by_cases h0:ed=0
   ·obtain⟨k,hK0⟩:=hRk h0;have hDk:Hid (DrK (vnAt vs i) cd.a cd.l k u r):=hK0;have hVt:=hu h0;clear hK0;subst h0;clear hu hRk;go_upto_region 7 with fail
    obtain⟨hgb,cur,hcur⟩:=hSc.own.row.block;obtain⟨y0,y1,y2⟩:=hSc.own.row.cells i hi;have z0:=hSc.own.row.frozen (i*3);have z1:=hSc.own.row.frozen (i*3+1);have z2:=hSc.own.row.frozen (i*3+2);have m2:=Ws.here (aO hSc.box 2 rfl);have u0:=Ws.here (aO hxp 0 rfl);have u1:=Ws.here (aO hxp 1 rfl);have u2:=Ws.here (aO hxp 2 rfl);refine bG (fun w'=>∃u:Ws wc.heap.size wc,w'=u.val) (fun j=>decide (j<8)) 9 _ (by kernel_rfl) rfl rfl ?_;refine bE 1 [0,1,2,3,4,5,6,7] rfl _ rfl (by kernel_rfl) (fun d _ _ _ _ h=>by cases d<;>exact h) ⟨⟨_,(zD).drew⟩,rfl⟩ ?_;simp only[zK,zM,zI,zJ];repeat(go_big_quiet_step (fail))
    refine wpQuiet_nil ?_;clear m2 u0 u1 u2;refine bB [8] rfl (by kernel_rfl) ?_;simp only[zK,zM,zI,zJ];have y0:wc.drew.cell? ⟨g,i*3,none⟩=some (.int .i64 (vnAt vs i).id):=y0;have y1:wc.drew.cell? ⟨g,i*3+1,none⟩=some (.slice (vnAt vs i).rx (vnAt vs i).rn (vnAt vs i).rc):=y1;have y2:wc.drew.cell? ⟨g,i*3+2,none⟩=some (.slice (vnAt vs i).sx (vnAt vs i).sn (vnAt vs i).sc):=y2;go_upto_region 8 with fail
    obtain⟨w5,hw5⟩:∃w5,w5=(iI wc g i u).drew:=⟨_,rfl⟩;have hwu:=hBu.size;have hS5:=(hSc.setV hi (hVt.low (base':=base) (by omega))).later (zD).drew;have hng:∀b ty cs,wc.heap[b]?=some (.cells cs ty)->ty≠51->b≠g:=fun b ty cs h1 h2 e=>by rw[e,hcur]at h1;simp only[Option.some.injEq,Obj.cells.injEq]at h1;exact h2 h1.2.1.symm
    have hxq5:(iI wc g i u).drew.heap[bq]?=some (AY r):=(fO (hng _ _ _ hxq (by decide))).trans hxq;have hT5:iA base bs w (iI wc g i u).drew:=⟨(mH (hBw.mono (by omega)) hgb).drew,fun k cs ty _ h2 h3=>(fO (hng _ _ _ (aA hBw h3) h2)).trans (aA hBw h3)⟩;rw[<-hw5]at hS5 hxq5 hT5;unfold iI at hw5;rw[<-hw5];clear hw5 hSc hcc hxp hxq y0 y1 y2 z0 z1 z2 hcur hng hVt;have hO5:=hS5.own.bk;have hk5:Bk w5 x ps.length c ps:=by
     obtain⟨x',c',e',h'⟩:=hO5.bk (fun i hi=>by
      have:=(vC hO5.full hB).n32 _ (cZ hi);rw[hO5.full i hi]at this;omega)
     simp only[Value.slice.injEq]at e';obtain⟨rfl, -,rfl⟩:=e';exact h'
    have s0:=Ws.here (aO hS5.box 0 rfl);have s1:=Ws.here (aO hS5.box 1 rfl);have r0:=Ws.here (aO hxq5 0 rfl);have r1:=Ws.here (aO hxq5 1 rfl);have r2:=Ws.here (aO hxq5 2 rfl);refine bK [0,1,2,3,4,5,6,7,8] 9 [10,11,12,13,14] [15,16] (by kernel_rfl) (by kernel_rfl) (fun d _ _ _ _ h=>by cases d<;>exact h) ?_;simp only[zK,zM,zI,zJ];repeat(go_big_quiet_step (fail))
    refine wpQuiet_nil ?_;clear s0 s1 r0 r1 r2;intro K hK;go_wp2_with fail;refine(F8 t x ps.length c ps r.p r.a r.l w5.drew (hk5.later (zD).drew)).mono ?_;rintro e w6 ⟨v,rs,t',rfl,hb6,hO6,hE0,hE2⟩;have hB1:Below w5.heap.size w5 w6:=⟨hb6.os,hb6.tape,hb6.output,hb6.size,hb6.block⟩;go_wp2_with fail;refine aC (hK.out _ _ hB1 ?_);clear hK K;repeat(go_big_quiet_step (fail))
    refine wpQuiet_nil ?_;have hS6:=hS5.later hB1;have hsz5:base<=w5.heap.size:=Nat.le_trans hlow (Nat.le_of_lt (zG hS5.box));have hT6:iA base bs w w6:=hT5.trans (iA.of hB1 hsz5);have hO7:eT w6 base v rs rs.length:=hO6.low hsz5;obtain⟨x1,c1,hv1, -⟩:=hO6.row.mem;subst hv1;clear hb6 hO6 hE0;obtain⟨g0,g1,g2,g3⟩:=fW hS6.box rfl rfl rfl rfl;obtain⟨gz0,gz1,gz2,gz3⟩:=pG hS6.box;go_wp2;go_ret;obtain⟨hRg,hr,hu1,hu2,hu3,hu4,hu5⟩:=hDk.out;refine⟨_,rfl,(hT6.set hlow).set hlow, .inr ⟨i,hi'.out,hpt.out, .inr ⟨hed,k,hRg,by rw[hr]⟩⟩,fun h=>?_⟩;refine⟨t',rs,_,_,_,_,hS6.putB hO7,i,k,u,hi'.out,hpt.out,hed,hRg,rfl,hu1,hu2,hu3,hu4,hu5,?_⟩;rw[<-hr];exact hE2 h
   ·have hne:(ed !=0)=true:=by simpa using h0
    have h0':Hid (ed≠0):=h0;clear h0 hu hRk;go_wp2;go_ret;exact⟨_,rfl,iA.of hBw (by omega), .inr ⟨i,hi'.out,hpt.out, .inl ⟨by rw[hed];exact h0'.out,hed.symm⟩⟩,fun h=>absurd h h0'.out⟩
 ·subst hti;go_wp2;go_ret;exact⟨5,rfl,iA.of hBu (by omega), .inl ⟨by rw[hpt.out];decide,rfl⟩,fun h=>absurd h (by decide)⟩
def IF(v:Vn)(cd:Cd)(E n:Int):Prop:=
 if cd.op=10 then E=sE v.id v.rn v.rs v.sn v.ss cd.B cd.a cd.l/\n=0 else if cd.op=11 then E=ZM v.id v.rn v.rs v.sn v.ss cd.B/\n=0 else if cd.op=12 then sH v.id v.rn v.rs v.sn v.ss cd.B cd.C E n else if cd.op=13 then aCp v.id v.rn v.rs v.sn v.ss cd.B cd.C E n else E=plE v.id v.rn v.rs v.sn v.ss cd.B cd.C/\n=0
def WiR(v:Vn)(cd:Cd)(y:Int)(ss':List Sb):Prop:=
 if cd.op=10 then∃ts,cO v.ss ts/\X9 ⟨cd.B,cd.a,cd.l,none,0,0,[]⟩ ts ss'
 else if cd.op=11 then∃ts i,cO v.ss ts/\i<ts.length/\(aG v.ss i).id=cd.B/\(∀j,j<i->(aG v.ss j).id≠cd.B)/\ss'=ts.take i++ts.drop (i+1)
 else if cd.op=12 then∃ts i x n c fx gs,G0 v.sn v.ss cd.B i/\sG (aG v.ss i) cd.C 0 y/\cO v.ss ts/\LK ⟨cd.C,fx,1,1,[y]⟩ (aG ts i).fs gs/\n=gs.length/\ss'=ts.set i (kD (aG ts i) x n c gs)
 else if cd.op=13 then∃ts i j x c ns,JZ v.sn v.ss cd.B cd.C i j/\YA (aG v.ss i) (fcAt (aG v.ss i).fs j) 0 y/\cO v.ss ts/\aCq y (fcAt (aG ts i).fs j).ns ns/\ss'=ts.set i (kD (aG ts i) (aG ts i).x (aG ts i).n (aG ts i).c ((aG ts i).fs.set j (sB (fcAt (aG ts i).fs j) x ns.length c ns)))
 else∃ts i j x n c,JZ v.sn v.ss cd.B cd.C i j/\cO v.ss ts/\n=((aG ts i).fs.take j++(aG ts i).fs.drop (j+1)).length/\ss'=ts.set i (kD (aG ts i) x n c ((aG ts i).fs.take j++(aG ts i).fs.drop (j+1)))
def VnR(v:Vn)(cd:Cd)(y:Int)(u:Vn):Prop:=u.id=v.id/\u.rs=v.rs/\u.rn=v.rs.length/\WiR v cd y u.ss/\u.sn=u.ss.length
def EL(F:Value->Int->Int->Value)(v:Vn)(cd:Cd)(w:World)(e:Ending)(w':World):Prop:=
 ∃u n E,e= .returned (F (nwV u) n E)/\Below w.heap.size w w'/\IF v cd E n/\(E=0->oV w' w.heap.size u)/\(E=0->VnR v cd n u)
def WG(V:Value)(_ E:Int):Value:= .tuple #[V, .int .i64 E]
def WH(V:Value)(n E:Int):Value:= .tuple #[V, .int .i64 n, .int .i64 E]
theorem TC{F:Value->Int->Int->Value}{n:Int}(h0:E≠0)(hV:V= .agg #[.int .i64 0, .slice none 0 0, .slice none 0 0])(he:e= .returned (F V n E))(hb:Below w.heap.size w w')(hA:IF v cd E n):EL F v cd w e w':=
 ⟨newV 0,n,E,by rw[he,hV];rfl,hb,hA,fun h=>absurd h h0,fun h=>absurd h h0⟩
theorem YG{F:Value->Int->Int->Value}{n:Int}(h:PU w' w.heap.size v.id V v.rs ss')(he:e= .returned (F V n E))(hb:Below w.heap.size w w')(hA:IF v cd E n)(hR:WiR v cd n ss'):EL F v cd w e w':=by
 obtain⟨u,rfl,g1,g2,g3,g4,g5,g6⟩:=h.vn;exact⟨u,n,E,he,hb,hA,fun _=>g6,fun _=>⟨g1,g2,g3,by rw[g4];exact hR,by rw[g5,g4]⟩⟩
theorem Z1(v:Vn)(cd:Cd)(w:World)(hv:mI w v)(h:cd.op=10):
  Calls Tryz.prog 198 #[nwV v, .int .i64 cd.B, .agg #[.int .i64 cd.a, .int .i64 cd.l]] w (EL WG v cd w):=by
 refine(R6 v.id v.rx v.rn v.rc v.rs v.sx v.sn v.sc v.ss cd.B cd.a cd.l w hv.2.2.2 hv.1 hv.2.1 hv.2.2.1).mono ?_;rintro e w' ⟨V,he,hb,h0,h1⟩;have hA:IF v cd (sE v.id v.rn v.rs v.sn v.ss cd.B cd.a cd.l) 0:=by unfold IF;rw[if_pos h];exact⟨rfl,rfl⟩
 by_cases hE:sE v.id v.rn v.rs v.sn v.ss cd.B cd.a cd.l=0
 ·obtain⟨ts,ss',hN,hs,hp⟩:=h1 hE;exact YG (F:=WG) hN he hb hA (by unfold WiR;rw[if_pos h];exact⟨ts,hs,hp⟩)
 ·exact TC (F:=WG) hE (h0 hE) he hb hA
theorem WI(v:Vn)(cd:Cd)(w:World)(hv:mI w v)(h:cd.op=12):
  Calls Tryz.prog 200 #[nwV v, .int .i64 cd.B, .int .i64 cd.C] w (EL WH v cd w):=by
 refine(N5 v.id v.rx v.rn v.rc v.rs v.sx v.sn v.sc v.ss cd.B cd.C w hv.2.2.2 hv.1 hv.2.1 hv.2.2.1).mono ?_;rintro e w' ⟨V,y,E,he,hb,hA0,h0,h1⟩;have hA:IF v cd E y:=by unfold IF;rw[if_neg (by omega),if_neg (by omega),if_pos h];exact hA0
 by_cases hE:E=0
 ·obtain⟨-,ts,i,x,n,c,fx,gs,g1,g2,g3,g4,g5,hN⟩:=h1 hE;exact YG (F:=WH) hN he hb hA (by unfold WiR;rw[if_neg (by omega),if_neg (by omega),if_pos h];exact⟨ts,i,x,n,c,fx,gs,g1,g2,g3,g4,g5,rfl⟩)
 ·exact TC (F:=WH) hE (h0 hE).1 he hb hA
theorem WJ{n:Int}(h:cd.op≠12/\cd.op≠13)(hA:IF v cd E n):n=0:=by
 unfold IF at hA;rw[if_neg h.1,if_neg h.2]at hA;split at hA
 ·exact hA.2
 ·split at hA
  ·exact hA.2
  ·exact hA.2
def TE(base bs:Nat)(t:Int)(ps:List Po)(vs:List Vn)(ls:List (Int×Int))(cd:Cd)(w:World)(e:Ending)(w':World):Prop:=
 ∃E n,e= .returned (.tuple #[.int .i64 n, .int .i64 E])/\iA base bs w w'/\((aM vs.length vs cd.A<0/\E=5/\n=0)\/∃k:Nat,k<vs.length/\aM vs.length vs cd.A=k/\IF (vnAt vs k) cd E n)/\
  (E=0->∃(k:Nat) (u:Vn) (vB vV vK:Value),k<vs.length/\aM vs.length vs cd.A=k/\VnR (vnAt vs k) cd n u/\lI w' base bs t ps (vs.set k u) ls vB vV vK)
theorem TF{g cap i:Nat}{y:Int}{wu w1:World}(hBw:Below w.heap.size w wu)(hlow:base<=bs)(hbl:bs<w.heap.size)(hS:lI wu base bs t ps vs ls vB (.slice (some ⟨g,0,none⟩) n cap) vK)(hi:i<vs.length)(hpt:aM vs.length vs cd.A=i)(hb:Below wu.heap.size wu w1)
 (hA:IF (vnAt vs i) cd E y)(hV:E=0->oV w1 wu.heap.size u)(hR:E=0->VnR (vnAt vs i) cd y u):TE base bs t ps vs ls cd w (.returned (.tuple #[.int .i64 y, .int .i64 E])) (iI w1 g i u):=by
 have hS1:=hS.later hb;obtain⟨hgb,cur,hcur⟩:=hS1.own.row.block;have hBw1:=hBw.trans (hb.mono hBw.size);have hng:∀b ty cs,w1.heap[b]?=some (.cells cs ty)->ty≠51->b≠g:=fun b ty cs h1 h2 e=>by rw[e,hcur]at h1;simp only[Option.some.injEq,Obj.cells.injEq]at h1;exact h2 h1.2.1.symm
 have hz:=hBw.size;refine⟨E,y,rfl,⟨mH (hBw1.mono (by omega)) hgb,fun k cs ty _ h2 h3=>(fO (hng _ _ _ (aA hBw1 h3) h2)).trans (aA hBw1 h3)⟩, .inr ⟨i,hi,hpt,hA⟩,fun h=>⟨i,u,_,_,_,hi,hpt,hR h,hS1.setV hi ((hV h).low (by omega))⟩⟩
theorem vN(base bs:Nat)(t:Int)(ps:List Po)(vs:List Vn)(ls:List (Int×Int))(vB vV vK:Value)(cd:Cd)(w:World)(hop:Hid (cd.op=10\/cd.op=12))(hS:lI w base bs t ps vs ls vB vV vK)(hB:aX t ps=0)(hv6:vs.length<=6):
  Calls Tryz.prog 150 #[.pointer (some ⟨bs,0,none⟩),WF cd] w (TE base bs t ps vs ls cd w):=by
 have hbl:bs<w.heap.size:=(zG hS.box);have hlow:=hS.low;obtain⟨x,c,X,C,Y,D,rfl,rfl,rfl,hk,hvs,hvc,hv63,hps,hl63⟩:=hS.see hB;go_enter Tryz.func150,Tryz.ntmps150;go_upto_region 1 with fail
 obtain⟨w0,hw0⟩:∃w0,w0=w.alloc (AA cd):=⟨_,rfl⟩;rw[<-hw0];have hB0:Below w.heap.size w w0:=by rw[hw0];exact bl1 w _
 have hq0:w0.heap[w.heap.size]?=some (AA cd):=by rw[hw0];exact aB _ rfl
 have hS0:=hS.later hB0;clear hw0;have s2:=Ws.here (aO hS0.box 2 rfl);have s3:=Ws.here (aO hS0.box 3 rfl);have k1:=Ws.here (aO hq0 1 rfl);obtain⟨tp,htp⟩:∃tp,aM vs.length vs cd.A=tp:=⟨_,rfl⟩;have hpc:=vplace_cases vs.length vs cd.A;rw[htp]at hpc;refine aE w0.heap.size (by kernel_rfl) (by kernel_rfl) ?_;repeat(go_big_quiet_step (first|(go_at_call 192;exact Calls.in_ws (zE) (uF cd.A X vs.length C vs Y ls.length D tp htp _ (hvs.later (hB0.trans ((Ws.property _).mono hB0.size))) (by omega)))))
 refine wpQuiet_nil ?_;rintro _ ⟨u,rfl⟩;have hBu:=hB0.trans (u.property.mono hB0.size);have hcu:=aA u.property hq0;have hSu:=hS0.later u.property;generalize u.val=wu at hBu hcu hSu⊢;clear u;clear s2 s3 k1 hS0 hq0;have hpt:Hid (aM vs.length vs cd.A=tp):=htp;clear htp;rcases hpc with ⟨i,hi, -,hti⟩|hti
 ·subst hti;have hi0:¬((i:Int)<0):=by omega
  have hi':Hid (i<vs.length):=hi;obtain⟨g,C2,hvV⟩:=hSu.own.row.held (by omega);simp only[Value.slice.injEq]at hvV;obtain⟨rfl, -,rfl⟩:=hvV;have hvp:=(hSu.own.net _ (lE hi)).ok;have hi1:(i:Int)<vs.length:=by omega
  have hi2:(0:Int)<=i:=by omega
  have m2:=aO hSu.box 2 rfl;have m0:=aO hcu 0 rfl;obtain⟨y0,y1,y2⟩:=hSu.own.row.cells i hi;by_cases h10:cd.op=10
  ·have hd10:(cd.op==10)=true:=by simpa using h10
   have hq:Hid (cd.op=10):=h10;clear h10;go_upto_region 8 with fail
   have a0:=Ws.here y0;have a1:=Ws.here y1;have a2:=Ws.here y2;have k2:=Ws.here (aO hcu 2 rfl);have k4:=Ws.here (aO hcu 4 rfl);have k5:=Ws.here (aO hcu 5 rfl);refine bK [0,1,2,3,4,5,6,7] 8 [9,10,11,12] [13,14] (by kernel_rfl) (by kernel_rfl) (fun d _ _ _ _ h=>by cases d<;>exact h) ?_;simp only[zK,zM,zI,zJ];repeat(go_big_quiet_step (fail))
   refine wpQuiet_nil ?_;clear a0 a1 a2 k2 k4 k5;intro K hK;go_wp2_with fail;refine(Z1 (vnAt vs i) cd wu.drew (hvp.later (zD).drew) hq.out).mono ?_;rintro e w1 ⟨u,n,E,rfl,hb1,hA,hV,hR⟩;have hB1:Below wu.heap.size wu w1:=⟨hb1.os,hb1.tape,hb1.output,hb1.size,hb1.block⟩;unfold WG;go_wp2_with fail;refine aC (hK.out _ _ hB1 ?_);clear hK K;repeat(go_big_quiet_step (fail))
   refine wpQuiet_nil ?_;obtain⟨b0,b1,b2⟩:=(hSu.later hB1).own.row.cells i hi;have z0:=(hSu.later hB1).own.row.frozen (i*3);have z1:=(hSu.later hB1).own.row.frozen (i*3+1);have z2:=(hSu.later hB1).own.row.frozen (i*3+2);go_wp2;refine bodyPost_ret (v:= .tuple #[.int .i64 0, .int .i64 E]) (by simp[results,Tryz.results150,go_sem]) rfl ?_;have hn0:n=0:=WJ (by have:=hq.out;omega) hA;subst hn0;exact TF hBu hlow hbl hSu hi'.out hpt.out hB1 hA hV hR
  ·have h12:cd.op=12:=by have:=hop.out;omega
   have hd10:(cd.op==10)=false:=by simpa using h10
   have hd11:(cd.op==11)=false:=by rw[h12];rfl
   have hd12:(cd.op==12)=true:=by simpa using h12
   have hq:Hid (cd.op=12):=h12;clear h12;go_upto_region 12 with fail
   have a0:=Ws.here y0;have a1:=Ws.here y1;have a2:=Ws.here y2;have k2:=Ws.here (aO hcu 2 rfl);have k3:=Ws.here (aO hcu 3 rfl);refine bK [0,1,2,3,4,5,6,7] 8 [9,10,11,12,13] [14,15,16] (by kernel_rfl) (by kernel_rfl) (fun d _ _ _ _ h=>by cases d<;>exact h) ?_;simp only[zK,zM,zI,zJ];repeat(go_big_quiet_step (fail))
   refine wpQuiet_nil ?_;clear a0 a1 a2 k2 k3;intro K hK;go_wp2_with fail;refine(WI (vnAt vs i) cd wu.drew (hvp.later (zD).drew) hq.out).mono ?_;rintro e w1 ⟨u,n,E,rfl,hb1,hA,hV,hR⟩;have hB1:Below wu.heap.size wu w1:=⟨hb1.os,hb1.tape,hb1.output,hb1.size,hb1.block⟩;unfold WH;go_wp2_with fail;refine aC (hK.out _ _ hB1 ?_);clear hK K;repeat(go_big_quiet_step (fail))
   refine wpQuiet_nil ?_;obtain⟨b0,b1,b2⟩:=(hSu.later hB1).own.row.cells i hi;have z0:=(hSu.later hB1).own.row.frozen (i*3);have z1:=(hSu.later hB1).own.row.frozen (i*3+1);have z2:=(hSu.later hB1).own.row.frozen (i*3+2);go_wp2;refine bodyPost_ret (v:= .tuple #[.int .i64 n, .int .i64 E]) (by simp[results,Tryz.results150,go_sem]) rfl ?_;exact TF hBu hlow hbl hSu hi'.out hpt.out hB1 hA hV hR
 ·subst hti;go_wp2;refine bodyPost_ret (v:= .tuple #[.int .i64 0, .int .i64 5]) (by simp[results,Tryz.results150,go_sem]) rfl ?_;exact⟨5,0,rfl,iA.of hBu (by omega), .inl ⟨by rw[hpt.out];decide,rfl,rfl⟩,fun h=>absurd h (by decide)⟩
theorem HO(hF:kH ps)(hB:aX t ps=0)(hN:bQ vn vs ln ls=0):ps.length<=8/\vn<=6/\ln<=12/\∀i,i<vn->ZS (vnAt vs i):=
 ⟨(vC hF hB).few,(uA hN).1,(uA hN).2.1,(uA hN).2.2⟩
def Z2(t:Int)(ps:List Po)(vs:List Vn)(ls:List (Int×Int))(w:World)(e:Ending)(w':World):Prop:=
 ∃vB vV vK qs us,e= .returned (IE t vB vV vK)/\Below w.heap.size w w'/\SO w' w.heap.size qs us ls vB vV vK/\eC ps qs/\cQ vs us
theorem CT(t:Int)(x:Option Addr)(n c:Nat)(ps:List Po)(X:Option Addr)(vn C:Nat)(vs:List Vn)(Y:Option Addr)(ln D:Nat)(ls:List (Int×Int))(w:World)(hs:Si w x n c ps X vn C vs Y ln ls)(hB:aX t ps=0)(hN:bQ vn vs ln ls=0):
  Calls Tryz.prog 113 #[IE t (.slice x n c) (.slice X vn C) (.slice Y ln D)] w (Z2 t ps vs ls w):=by
 obtain⟨h8,h6,h12,hfew⟩:=HO hs.bk.full hB hN;have hpl:=hs.bk.ps.len;go_enter Tryz.func113,Tryz.ntmps113;go_upto_region 1 with fail
 obtain⟨w0,hw0⟩:∃w0,w0=(w.alloc (lH t (.slice x n c) (.slice X vn C) (.slice Y ln D))).alloc (lH 0 (.slice none 0 0) (.slice none 0 0) (.slice none 0 0)):=⟨_,rfl⟩;rw[<-hw0];have hB0:Below w.heap.size w w0:=by rw[hw0];exact bP w _ _
 have hq0:w0.heap[w.heap.size]?=some (lH t (.slice x n c) (.slice X vn C) (.slice Y ln D)):=by rw[hw0];exact aH _ (aB _ rfl)
 have hq1:w0.heap[w.heap.size+1]?=some (lH 0 (.slice none 0 0) (.slice none 0 0) (.slice none 0 0)):=by rw[hw0];exact aB _ (by simp)
 clear hw0;have hs0:=hs.later hB0;have s0:=Ws.here (aO hq0 0 rfl);have s1:=Ws.here (aO hq0 1 rfl);have s2:=Ws.here (aO hq0 2 rfl);have s3:=Ws.here (aO hq0 3 rfl);refine bG (fun w'=>∃u:Ws w0.heap.size w0,w'=u.val) (fun j=>decide (j<6)) 8 _ (by kernel_rfl) rfl rfl ?_;refine bE 4 [0,1,3,4] rfl _ rfl (by kernel_rfl) (fun d _ _ _ _ h=>by cases d<;>exact h) ⟨⟨_,(zD).drew⟩,rfl⟩ ?_;simp only[zK,zM,zI,zJ];repeat(go_big_quiet_step (fail))
 refine wpQuiet_nil ?_;clear s0 s1 s2 s3;refine aY 2 _ _ (by kernel_rfl) (by kernel_rfl) rfl rfl ?_;intro K hK;simp only[zI,zJ];go_wp2_with fail;refine(gJ t x n c ps w0.drew (hs0.bk.later (zD).drew) (by omega)).mono ?_;rintro e w1 ⟨vB,qs,rfl,hsq,hOB,hb1⟩;obtain⟨xb,cb,hvb, -⟩:=hOB.row.mem;subst hvb;have hB1:Below w0.heap.size w0 w1:=⟨hb1.os,hb1.tape,hb1.output,hb1.size,hb1.block⟩;go_wp2_with fail;refine aC (hK.out _ _ ⟨⟨_,hB1⟩,rfl⟩ ?_);clear hK K;refine aY 5 _ _ (by kernel_rfl) (by kernel_rfl) rfl rfl ?_;intro K hK;simp only[zI,zJ];go_wp2_with fail;refine(iJ X vn C vs Y ln D ls w1 (hs0.vps.later hB1) (by omega) (hs0.lk.later hB1) (by omega) hfew).mono ?_;rintro e w2 ⟨vV,vK,us,rfl,hsu,hOV,hVo,hOK,hb2⟩;obtain⟨xv,cv,hvv, -⟩:=hOV.mem;subst hvv;obtain⟨xk,ck,hvk, -⟩:=hOK.mem;subst hvk;have hB2:Below w0.heap.size w0 w2:=hB1.trans (hb2.mono hB1.size);go_wp2_with fail;refine aC (hK.out _ _ ⟨⟨_,hB2⟩,rfl⟩ ?_);clear hK K;refine bB [6,7] rfl (by kernel_rfl) ?_;simp only[zK,zM,zI,zJ];have hz1:w.heap.size<=w1.heap.size:=Nat.le_trans hB0.size hB1.size;have hSO:SO w2 w.heap.size qs us ls (.slice xb qs.length cb) (.slice xv us.length cv) (.slice xk ls.length ck):=
  ⟨(hOB.later hb2).low hB0.size,hOV.low hz1,fun u hu=>by
   obtain⟨j,hj,rfl⟩:=eM hu;exact((hVo j hj).low hz1).vty,hOK.low hz1⟩
 have hy:=aA hB2 hq1;have hBw:=hB0.trans (hB2.mono hB0.size);clear hb1 hb2 hOB hOV hVo hOK hB1 hB2 hs0 hq0 hq1;obtain⟨q0,q1,q2,q3⟩:=fW hy rfl rfl rfl rfl;obtain⟨qz0,qz1,qz2,qz3⟩:=pG hy;have hbx:pC w2 (w.heap.size+1) 30:=⟨_,hy⟩;go_wp2;refine bodyPost_ret (v:=IE t (.slice xb qs.length cb) (.slice xv us.length cv) (.slice xk ls.length ck)) (by simp[results,Tryz.results113,go_sem,q0,q1,q2,q3]) rfl ?_;exact⟨_,_,_,qs,us,rfl,(((hBw.setCell (p:=⟨w.heap.size+1,0,none⟩) (zA) _).setCell (p:=⟨w.heap.size+1,1,none⟩) (zA) _).setCell (p:=⟨w.heap.size+1,2,none⟩) (zA) _).setCell (p:=⟨w.heap.size+1,3,none⟩) (zA) _,(((hSO.put hbx (by decide)).put hbx.put (by decide)).put hbx.put.put (by decide)).put hbx.put.put.put (by decide),hsq,hsu⟩
abbrev TI(E a l n:Int):Obj:= .cells #[.int .i64 E, .int .i64 a, .int .i64 l, .int .i64 n] 81
abbrev Z3(E a l n:Int):Value:= .agg #[.int .i64 E, .int .i64 a, .int .i64 l, .int .i64 n]
structure fQ where
 t:Int
 ps:List Po
 vs:List Vn
 ls:List (Int×Int)
def pD(s:fQ)(cd:Cd)(E n:Int):Prop:=
 if cd.op=1 then E=gQ s.t s.ps cd.A cd.a cd.l cd.mn cd.mx cd.us cd.co else
 if cd.op=2 then E=aCe s.t s.ps cd.A cd.B cd.C cd.mn cd.mx cd.us cd.co else
 if cd.op=3 then E=Y8 s.t s.ps cd.A else
 if cd.op=4 then E=aCb s.t s.ps cd.A else
 if cd.op=5 then E=tkE s.t s.ps s.vs cd.A cd.B cd.C else
 if cd.op=6 then E=ZW s.t s.ps s.vs cd.A cd.a cd.l else
 if cd.op=7 then E=ZU s.ps s.vs s.ls cd.A else
 if cd.op=8 then E=UP s.t s.ps s.vs s.ls cd.A cd.B cd.C else
 if cd.op=9 then DpA s.t s.ps s.vs cd.A cd.a cd.l E else
 if cd.op=15 then E=pP s.vs.length s.vs s.ls.length s.ls cd.A cd.B else
 if cd.op=16 then E=aCy s.vs.length s.vs s.ls.length s.ls cd.A cd.B else
 if 10<=cd.op/\cd.op<=14 then(aM s.vs.length s.vs cd.A<0/\E=5/\n=0)\/∃k:Nat,k<s.vs.length/\aM s.vs.length s.vs cd.A=k/\IF (vnAt s.vs k) cd E n else E=4
def uH(s:fQ)(cd:Cd)(a l n:Int)(r:fQ):Prop:=
 if cd.op=1 then a=0/\l=0/\n=0/\r.t=s.t/\r.vs=s.vs/\r.ls=s.ls/\∃qs,eC s.ps qs/\F5 ⟨cd.A,0,cd.a,cd.l,cd.mn,cd.mx,cd.us,cd.co,none,0,0,[]⟩ qs r.ps else
 if cd.op=2 then n=0/\r.t=s.t/\r.vs=s.vs/\r.ls=s.ls/\(a,l)=Q1 s.t s.ps cd.A cd.B cd.C/\ZA s.ps ⟨cd.A,cd.B,a,l,cd.mn,cd.mx,cd.us,cd.co,none,0,0,[]⟩ cd.B r.ps else
 if cd.op=3 then a=0/\l=0/\n=0/\r.vs=s.vs/\r.ls=s.ls/\Y9 s.t s.ps cd.A r.t r.ps else
 if cd.op=4 then a=0/\l=0/\n=0/\r.vs=s.vs/\r.ls=s.ls/\aCc s.t s.ps cd.A r.t r.ps else
 if cd.op=5 then n=0/\r.t=s.t/\r.vs=s.vs/\r.ls=s.ls/\EK s.ps cd.A cd.B cd.C a l r.ps else
 if cd.op=6 then a=0/\l=0/\n=0/\r.vs=s.vs/\r.ls=s.ls/\CC s.t s.ps cd.A cd.a cd.l r.t r.ps else
 if cd.op=7 then a=0/\l=0/\n=0/\r.t=s.t/\r.ps=s.ps/\HE s.vs s.ls cd.A r.vs r.ls else
 if cd.op=8 then n=0/\r.t=s.t/\EK s.ps cd.B cd.C cd.A a l r.ps/\uC s.vs.length s.vs s.ls cd.A ⟨a,l,cd.B⟩ r.vs r.ls else
 if cd.op=9 then a=0/\l=0/\n=0/\r.ls=s.ls/\DpR s.t s.ps s.vs cd.A cd.a cd.l r.t r.ps r.vs else
 if cd.op=15 then a=0/\l=0/\n=0/\r.t=s.t/\r.ps=s.ps/\LM s.vs s.ls cd.A cd.B r.vs r.ls else
 if cd.op=16 then a=0/\l=0/\n=0/\r.t=s.t/\r.ps=s.ps/\aDa s.vs s.ls cd.A cd.B r.vs r.ls else
 a=0/\l=0/\r.t=s.t/\r.ps=s.ps/\r.ls=s.ls/\∃(k:Nat) (u:Vn),k<s.vs.length/\aM s.vs.length s.vs cd.A=k/\VnR (vnAt s.vs k) cd n u/\r.vs=s.vs.set k u
def Z4(base bs:Nat)(s:fQ)(cd:Cd)(w:World)(e:Ending)(w':World):Prop:=
 ∃E a l n,e= .returned (Z3 E a l n)/\iA base bs w w'/\pD s cd E n/\(E=0->∃r vB vV vK,lI w' base bs r.t r.ps r.vs r.ls vB vV vK/\uH s cd a l n r)
def aDf(base bs:Nat)(s:fQ)(cd:Cd)(w wd:World):Prop:=
 ∃E a l n,wd.heap[w.heap.size+1]?=some (TI E a l n)/\iA base bs w wd/\pD s cd E n/\(E=0->∃r vB vV vK,lI wd base bs r.t r.ps r.vs r.ls vB vV vK/\uH s cd a l n r)
def CdP(cd:Cd):Prop:=LR cd.A cd.a cd.l/\(cd.op=1\/cd.op=6\/cd.op=7\/cd.op=8\/cd.op=9\/cd.op=10\/cd.op=12\/cd.op=15)
theorem WK(base bs:Nat)(t:Int)(ps:List Po)(vs:List Vn)(ls:List (Int×Int))(vB vV vK:Value)(cd:Cd)(w:World)(hS:lI w base bs t ps vs ls vB vV vK)(hB:aX t ps=0)(hv6:vs.length<=6)(hcw:CdP cd):
  Calls Tryz.prog 114 #[.pointer (some ⟨bs,0,none⟩),WF cd] w (Z4 base bs ⟨t,ps,vs,ls⟩ cd w):=by
 have hbl:bs<w.heap.size:=(zG hS.box);have hlow:=hS.low;obtain⟨x,c,X,C,Y,D,rfl,rfl,rfl,hk,hvs,hvc,hv63,hps,hl63⟩:=hS.see hB;obtain⟨op,A,B,C0,a,l,mn,mx,us,co⟩:=cd;obtain⟨hcw,hop0⟩:=hcw;have hop:Hid (op=1\/op=6\/op=7\/op=8\/op=9\/op=10\/op=12\/op=15):=hop0;clear hop0;go_enter Tryz.func114,Tryz.ntmps114;go_upto_region 1 with fail
 obtain⟨w0,hw0⟩:∃w0,w0=(w.alloc (AA ⟨op,A,B,C0,a,l,mn,mx,us,co⟩)).alloc (TI 0 0 0 0):=⟨_,rfl⟩;rw[<-hw0];have hB0:Below w.heap.size w w0:=by rw[hw0];exact bP w _ _
 have hq0:w0.heap[w.heap.size]?=some (AA ⟨op,A,B,C0,a,l,mn,mx,us,co⟩):=by rw[hw0];exact aH _ (aB _ rfl)
 have hq1:w0.heap[w.heap.size+1]?=some (TI 0 0 0 0):=by rw[hw0];exact aB _ (by simp)
 have hS0:=hS.later hB0;clear hw0;have hT0:iA base bs w w0:=iA.of hB0 (by omega);have ne1:bs≠w.heap.size+1:=by omega
 have ne4:w.heap.size+1≠bs:=by omega
 have hlo0:base<=w0.heap.size:=Nat.le_trans (by omega) hB0.size;have k0:=aO hq0 0 rfl;go_upto_block 0 with fail
 clear k0;go_cut [4] (fun p wd=>p= .pointer (some ⟨w.heap.size+1,0,none⟩)/\aDf base bs ⟨t,ps,vs,ls⟩ ⟨op,A,B,C0,a,l,mn,mx,us,co⟩ w wd)
 case first=>
  by_cases h1:op=1
  ·subst h1;go_upto_region 4 with fail
   have s0:=Ws.here (aO hS0.box 0 rfl);have s1:=Ws.here (aO hS0.box 1 rfl);have k1:=Ws.here (aO hq0 1 rfl);have k4:=Ws.here (aO hq0 4 rfl);have k5:=Ws.here (aO hq0 5 rfl);have k6:=Ws.here (aO hq0 6 rfl);have k7:=Ws.here (aO hq0 7 rfl);have k8:=Ws.here (aO hq0 8 rfl);have k9:=Ws.here (aO hq0 9 rfl);refine bK [0,1,2,3,4,5,6,7,8,9,10] 11 [12,13,14,15,16] [17,18,19] (by kernel_rfl) (by kernel_rfl) (fun d _ _ _ _ h=>by cases d<;>exact h) ?_;simp only[zK,zM,zI,zJ];repeat(go_big_quiet_step (fail))
   refine wpQuiet_nil ?_;clear s0 s1 k1 k4 k5 k6 k7 k8 k9;intro K hK;go_wp2_with fail;refine(QV t x ps.length c ps A a l mn mx us co w0.drew ((hk.later hB0).later (zD).drew)).mono ?_;rintro e w1 ⟨v,rs,t',rfl,hb1,hO1,hE0,hE2⟩;have hB1:Below w0.heap.size w0 w1:=⟨hb1.os,hb1.tape,hb1.output,hb1.size,hb1.block⟩;obtain⟨x1,c1,hv1, -⟩:=hO1.row.mem;subst hv1;go_wp2_with fail;refine aC (hK.out _ _ hB1 ?_);clear hK K;repeat(go_big_quiet_step (fail))
   refine wpQuiet_nil ?_;have hS1:=hS0.later hB1;have hy1:=aA hB1 hq1;have hT1:iA base bs w w1:=hT0.trans (iA.of hB1 hlo0);have hO2:eT w1 base (.slice x1 rs.length c1) rs rs.length:=hO1.low hlo0;have hbx:pC w1 (w.heap.size+1) 81:=⟨_,hy1⟩;clear hb1 hO1;obtain⟨g0,g1,g2,g3⟩:=fW hS1.box rfl rfl rfl rfl;obtain⟨gz0,gz1,gz2,gz3⟩:=pG hS1.box;obtain⟨q0,q1,q2,q3⟩:=fW hy1 rfl rfl rfl rfl;obtain⟨qz0,qz1,qz2,qz3⟩:=pG hy1;go_wp2_with fail;go_meet
   case rel=>
    refine⟨rfl,gQ t ps A a l mn mx us co,0,0,0,zC ((zB ne4).trans ((zB ne4).trans (hy1))),((hT1.set hlow).set hlow).put (by omega) (by omega),?_,fun h=>?_⟩
    ·unfold pD;rw[if_pos rfl]
    ·obtain⟨rfl,hq⟩:=hE2 h;refine⟨⟨t',rs,vs,ls⟩,_,_,_,(hS1.putB hO2).put hbx.put.put (by decide) ne1,?_⟩;unfold uH;rw[if_pos rfl];exact⟨rfl,rfl,rfl,rfl,rfl,rfl,hq⟩
  have n1:(op==1)=false:=by simpa using h1
  have h2:¬op=2:=by have:=hop.out;omega
  have n2:(op==2)=false:=by simpa using h2
  have h3:¬op=3:=by have:=hop.out;omega
  have n3:(op==3)=false:=by simpa using h3
  have h4:¬op=4:=by have:=hop.out;omega
  have n4:(op==4)=false:=by simpa using h4
  have h5:¬op=5:=by have:=hop.out;omega
  have n5:(op==5)=false:=by simpa using h5
  by_cases h6:op=6
  ·subst h6;obtain⟨k0,k1,k2,k3,k4,k5,k6,k7,k8,k9⟩:=DN hq0 rfl rfl rfl rfl rfl rfl rfl rfl rfl rfl;go_wp2_with fail;refine(OZ base bs t ps vs ls _ _ _ ⟨6,A,B,C0,a,l,mn,mx,us,co⟩ w0 hS0 hB hv6 hcw).mono ?_;rintro e w1 ⟨rfl,hTi,hE2⟩;have hy1:=hTi.box _ _ _ ne4 (by decide) hq1;have hT1:iA base bs w w1:=hT0.trans hTi;have hbx:pC w1 (w.heap.size+1) 81:=⟨_,hy1⟩;clear k0 k1 k2 k3 k4 k5 k6 k7 k8 k9;obtain⟨q0,q1,q2,q3⟩:=fW hy1 rfl rfl rfl rfl;obtain⟨qz0,qz1,qz2,qz3⟩:=pG hy1;go_wp2_with fail;go_meet
   case rel=>
    refine⟨rfl,ZW t ps vs A a l,0,0,0,zC (hy1),(hT1).put (by omega) (by omega),?_,fun h=>?_⟩
    ·unfold pD;(iterate 5 rw[if_neg (by simp)]);rw[if_pos rfl]
    ·obtain⟨t',rs,vB,vV,vK,hSr,hR⟩:=hE2 h;refine⟨⟨t',rs,vs,ls⟩,vB,vV,vK,(hSr).put hbx (by decide) ne1,?_⟩;unfold uH;(iterate 5 rw[if_neg (by simp)]);rw[if_pos rfl]
     exact⟨rfl,rfl,rfl,rfl,rfl,hR⟩
  have n6:(op==6)=false:=by simpa using h6
  by_cases h7:op=7
  ·subst h7;obtain⟨k0,k1,k2,k3,k4,k5,k6,k7,k8,k9⟩:=DN hq0 rfl rfl rfl rfl rfl rfl rfl rfl rfl rfl;go_wp2_with fail;refine(KE base bs t ps vs ls _ _ _ ⟨7,A,B,C0,a,l,mn,mx,us,co⟩ w0 hS0 hB).mono ?_;rintro e w1 ⟨rfl,hTi,hE2⟩;have hy1:=hTi.box _ _ _ ne4 (by decide) hq1;have hT1:iA base bs w w1:=hT0.trans hTi;have hbx:pC w1 (w.heap.size+1) 81:=⟨_,hy1⟩;clear k0 k1 k2 k3 k4 k5 k6 k7 k8 k9;obtain⟨q0,q1,q2,q3⟩:=fW hy1 rfl rfl rfl rfl;obtain⟨qz0,qz1,qz2,qz3⟩:=pG hy1;go_wp2_with fail;go_meet
   case rel=>
    refine⟨rfl,ZU ps vs ls A,0,0,0,zC (hy1),(hT1).put (by omega) (by omega),?_,fun h=>?_⟩
    ·unfold pD;(iterate 6 rw[if_neg (by simp)]);rw[if_pos rfl]
    ·obtain⟨us',ms,vB,vV,vK,hSr,hR⟩:=hE2 h;refine⟨⟨t,ps,us',ms⟩,vB,vV,vK,(hSr).put hbx (by decide) ne1,?_⟩;unfold uH;(iterate 6 rw[if_neg (by simp)]);rw[if_pos rfl]
     exact⟨rfl,rfl,rfl,rfl,rfl,hR⟩
  have n7:(op==7)=false:=by simpa using h7
  by_cases h8:op=8
  ·subst h8;obtain⟨k0,k1,k2,k3,k4,k5,k6,k7,k8,k9⟩:=DN hq0 rfl rfl rfl rfl rfl rfl rfl rfl rfl rfl;go_wp2_with fail;refine(O0 base bs t ps vs ls _ _ _ ⟨8,A,B,C0,a,l,mn,mx,us,co⟩ w0 hS0 hB hv6).mono ?_;rintro e w1 ⟨a',l',rfl,hTi,hE2⟩;have hy1:=hTi.box _ _ _ ne4 (by decide) hq1;have hT1:iA base bs w w1:=hT0.trans hTi;have hbx:pC w1 (w.heap.size+1) 81:=⟨_,hy1⟩;clear k0 k1 k2 k3 k4 k5 k6 k7 k8 k9;obtain⟨q0,q1,q2,q3⟩:=fW hy1 rfl rfl rfl rfl;obtain⟨qz0,qz1,qz2,qz3⟩:=pG hy1;go_wp2_with fail;go_meet
   case rel=>
    refine⟨rfl,UP t ps vs ls A B C0,a',l',0,zC (zC (zC (hy1))),(((hT1).put (by omega) (by omega)).put (by omega) (by omega)).put (by omega) (by omega),?_,fun h=>?_⟩
    ·unfold pD;(iterate 7 rw[if_neg (by simp)]);rw[if_pos rfl]
    ·obtain⟨rs,us',ms,vB,vV,vK,hSr,hR,hR2⟩:=hE2 h;refine⟨⟨t,rs,us',ms⟩,vB,vV,vK,(((hSr).put hbx (by decide) ne1).put hbx.put (by decide) ne1).put hbx.put.put (by decide) ne1,?_⟩;unfold uH;(iterate 7 rw[if_neg (by simp)]);rw[if_pos rfl]
     exact⟨rfl,rfl,hR,hR2⟩
  have n8:(op==8)=false:=by simpa using h8
  by_cases h9:op=9
  ·subst h9;obtain⟨k0,k1,k2,k3,k4,k5,k6,k7,k8,k9⟩:=DN hq0 rfl rfl rfl rfl rfl rfl rfl rfl rfl rfl;go_wp2_with fail;refine(O2 base bs t ps vs ls _ _ _ ⟨9,A,B,C0,a,l,mn,mx,us,co⟩ w0 hS0 hB hv6).mono ?_;rintro e w1 ⟨E,rfl,hTi,hA,hE2⟩;have hy1:=hTi.box _ _ _ ne4 (by decide) hq1;have hT1:iA base bs w w1:=hT0.trans hTi;have hbx:pC w1 (w.heap.size+1) 81:=⟨_,hy1⟩;clear k0 k1 k2 k3 k4 k5 k6 k7 k8 k9;obtain⟨q0,q1,q2,q3⟩:=fW hy1 rfl rfl rfl rfl;obtain⟨qz0,qz1,qz2,qz3⟩:=pG hy1;go_wp2_with fail;go_meet
   case rel=>
    refine⟨rfl,E,0,0,0,zC (hy1),(hT1).put (by omega) (by omega),?_,fun h=>?_⟩
    ·unfold pD;(iterate 8 rw[if_neg (by simp)]);rw[if_pos rfl];exact hA
    ·obtain⟨t',rs,us',vB,vV,vK,hSr,hR⟩:=hE2 h;refine⟨⟨t',rs,us',ls⟩,vB,vV,vK,(hSr).put hbx (by decide) ne1,?_⟩;unfold uH;(iterate 8 rw[if_neg (by simp)]);rw[if_pos rfl]
     exact⟨rfl,rfl,rfl,rfl,hR⟩
  have n9:(op==9)=false:=by simpa using h9
  by_cases h10:op=10
  ·subst h10;obtain⟨k0,k1,k2,k3,k4,k5,k6,k7,k8,k9⟩:=DN hq0 rfl rfl rfl rfl rfl rfl rfl rfl rfl rfl;go_wp2_with fail;refine(vN base bs t ps vs ls _ _ _ ⟨10,A,B,C0,a,l,mn,mx,us,co⟩ w0 (Or.inl rfl) hS0 hB hv6).mono ?_;rintro e w1 ⟨E,n,rfl,hTi,hA,hE2⟩;have hy1:=hTi.box _ _ _ ne4 (by decide) hq1;have hT1:iA base bs w w1:=hT0.trans hTi;have hbx:pC w1 (w.heap.size+1) 81:=⟨_,hy1⟩;clear k0 k1 k2 k3 k4 k5 k6 k7 k8 k9;obtain⟨q0,q1,q2,q3⟩:=fW hy1 rfl rfl rfl rfl;obtain⟨qz0,qz1,qz2,qz3⟩:=pG hy1;go_wp2_with fail;go_meet
   case rel=>
    refine⟨rfl,E,0,0,n,zC (zC (hy1)),((hT1).put (by omega) (by omega)).put (by omega) (by omega),?_,fun h=>?_⟩
    ·unfold pD;(iterate 11 rw[if_neg (by simp)]);rw[if_pos (show(10:Int)<=10/\(10:Int)<=14 by decide)];exact hA
    ·obtain⟨k,u,vB,vV,vK,hk1,hk2,hR,hSr⟩:=hE2 h;refine⟨⟨t,ps,vs.set k u,ls⟩,vB,vV,vK,((hSr).put hbx (by decide) ne1).put hbx.put (by decide) ne1,?_⟩;unfold uH;(iterate 11 rw[if_neg (by simp)])
     exact⟨rfl,rfl,rfl,rfl,rfl,k,u,hk1,hk2,hR,rfl⟩
  have n10:(op==10)=false:=by simpa using h10
  have h11:¬op=11:=by have:=hop.out;omega
  have n11:(op==11)=false:=by simpa using h11
  by_cases h12:op=12
  ·subst h12;obtain⟨k0,k1,k2,k3,k4,k5,k6,k7,k8,k9⟩:=DN hq0 rfl rfl rfl rfl rfl rfl rfl rfl rfl rfl;go_wp2_with fail;refine(vN base bs t ps vs ls _ _ _ ⟨12,A,B,C0,a,l,mn,mx,us,co⟩ w0 (Or.inr rfl) hS0 hB hv6).mono ?_;rintro e w1 ⟨E,n,rfl,hTi,hA,hE2⟩;have hy1:=hTi.box _ _ _ ne4 (by decide) hq1;have hT1:iA base bs w w1:=hT0.trans hTi;have hbx:pC w1 (w.heap.size+1) 81:=⟨_,hy1⟩;clear k0 k1 k2 k3 k4 k5 k6 k7 k8 k9;obtain⟨q0,q1,q2,q3⟩:=fW hy1 rfl rfl rfl rfl;obtain⟨qz0,qz1,qz2,qz3⟩:=pG hy1;go_wp2_with fail;go_meet
   case rel=>
    refine⟨rfl,E,0,0,n,zC (zC (hy1)),((hT1).put (by omega) (by omega)).put (by omega) (by omega),?_,fun h=>?_⟩
    ·unfold pD;(iterate 11 rw[if_neg (by simp)]);rw[if_pos (show(10:Int)<=12/\(12:Int)<=14 by decide)];exact hA
    ·obtain⟨k,u,vB,vV,vK,hk1,hk2,hR,hSr⟩:=hE2 h;refine⟨⟨t,ps,vs.set k u,ls⟩,vB,vV,vK,((hSr).put hbx (by decide) ne1).put hbx.put (by decide) ne1,?_⟩;unfold uH;(iterate 11 rw[if_neg (by simp)])
     exact⟨rfl,rfl,rfl,rfl,rfl,k,u,hk1,hk2,hR,rfl⟩
  have n12:(op==12)=false:=by simpa using h12
  have h13:¬op=13:=by have:=hop.out;omega
  have n13:(op==13)=false:=by simpa using h13
  have h14:¬op=14:=by have:=hop.out;omega
  have n14:(op==14)=false:=by simpa using h14
  by_cases h15:op=15
  ·subst h15;go_upto_region 28 with fail
   have s2:=Ws.here (aO hS0.box 2 rfl);have s3:=Ws.here (aO hS0.box 3 rfl);have k1:=Ws.here (aO hq0 1 rfl);have k2:=Ws.here (aO hq0 2 rfl);refine bK [0,1,2,3,4,5,6,7,8] 9 [10,11,12,13,14] [15,16,17] (by kernel_rfl) (by kernel_rfl) (fun d _ _ _ _ h=>by cases d<;>exact h) ?_;simp only[zK,zM,zI,zJ];repeat(go_big_quiet_step (fail))
   refine wpQuiet_nil ?_;clear s2 s3 k1 k2;intro K hK;go_wp2_with fail;refine(ST X vs.length C vs Y ls.length D ls A B w0.drew ((hvs.later hB0).later (zD).drew) hv63 hvc ((hps.later hB0).later (zD).drew) hl63).mono ?_;rintro e w1 ⟨V,rfl,hb3,hV0,hV1⟩;have hB1:Below w0.heap.size w0 w1:=⟨hb3.os,hb3.tape,hb3.output,hb3.size,hb3.block⟩;obtain⟨y1,m1,d1,y2,m2,d2,rfl⟩:=uG hV0 hV1;clear hV0;go_wp2_with fail;refine aC (hK.out _ _ hB1 ?_);clear hK K;repeat(go_big_quiet_step (fail))
   refine wpQuiet_nil ?_;have hS1:=hS0.later hB1;have hy1:=aA hB1 hq1;have hT1:iA base bs w w1:=hT0.trans (iA.of hB1 hlo0);have hbx:pC w1 (w.heap.size+1) 81:=⟨_,hy1⟩;obtain⟨g0,g1,g2,g3⟩:=fW hS1.box rfl rfl rfl rfl;obtain⟨gz0,gz1,gz2,gz3⟩:=pG hS1.box;obtain⟨q0,q1,q2,q3⟩:=fW hy1 rfl rfl rfl rfl;obtain⟨qz0,qz1,qz2,qz3⟩:=pG hy1;go_wp2_with fail;go_meet
   case rel=>
    refine⟨rfl,pP vs.length vs ls.length ls A B,0,0,0,zC ((zB ne4).trans ((zB ne4).trans (hy1))),((hT1.set hlow).set hlow).put (by omega) (by omega),?_,fun h=>?_⟩
    ·unfold pD;(iterate 9 rw[if_neg (by simp)]);rw[if_pos rfl]
    ·obtain⟨us',ms,⟨v',k',e',hOV,hVo,hOK⟩,hR⟩:=hV1 h
     cases e';have hlo:base<=w0.drew.heap.size:=hlo0;refine⟨⟨t,ps,us',ms⟩,_,_,_,(hS1.putN (hOV.low hlo) (fun u hu=>((hVo u hu).low hlo).vty) (hOK.low hlo)).put hbx.put.put (by decide) ne1,?_⟩;unfold uH;(iterate 9 rw[if_neg (by simp)]);rw[if_pos rfl]
     exact⟨rfl,rfl,rfl,rfl,rfl,hR⟩
  have n15:(op==15)=false:=by simpa using h15
  have h16:¬op=16:=by have:=hop.out;omega
  exact absurd hop.out (by omega)
 case rest=>
  obtain⟨rfl,E,a',l',n,hy,hTc,hE,hR⟩:=hcut
  have hbx:pC wc (w.heap.size+1) 81:=⟨_,hy⟩
  obtain⟨q0,q1,q2,q3⟩:=fW hy rfl rfl rfl rfl
  obtain⟨qz0,qz1,qz2,qz3⟩:=pG hy
  go_wp2
  refine bodyPost_ret (v:=Z3 E a' l' n) (by simp[results,Tryz.results114,go_sem,q0,q1,q2,q3]) rfl ?_
  refine⟨E,a',l',n,rfl,(((hTc.put (by omega) (by omega)).put (by omega) (by omega)).put (by omega) (by omega)).put (by omega) (by omega),hE,fun h=>?_⟩
  obtain⟨r,vB,vV,vK,hSr,hr⟩:=hR h
  exact⟨r,vB,vV,vK,(((hSr.put hbx (by decide) ne1).put hbx.put (by decide) ne1).put hbx.put.put (by decide) ne1).put hbx.put.put.put (by decide) ne1,hr⟩
def lJ(s q:fQ):Prop:=q.t=s.t/\eC s.ps q.ps/\cQ s.vs q.vs/\q.ls=s.ls
def EM(s:fQ)(cd:Cd)(E a l n:Int)(r:fQ):Prop:=∃q,lJ s q/\((E≠0/\(∃n',pD q cd E n')/\a=0/\l=0/\n=0/\lJ s r)\/(E=0/\pD q cd 0 n/\uH q cd a l n r))
def Z5(s:fQ)(cd:Cd)(w:World)(e:Ending)(w':World):Prop:=
 ∃E a l n r vB vV vK,e= .returned (.tuple #[IE r.t vB vV vK,Z3 E a l n])/\Below w.heap.size w w'/\SO w' w.heap.size r.ps r.vs r.ls vB vV vK/\EM s cd E a l n r
structure vO(w:World)(b c:Nat):Type where
 val:World
 p1:val.heap[b]?=w.heap[b]?
 p2:val.heap[c]?=w.heap[c]?
@[simp] theorem vO.all_const(w:World)(b c:Nat)(p:Prop):(vO w b c->p)↔p:=⟨fun h=>h ⟨w,rfl,rfl⟩,fun h _=>h⟩
theorem SO.slices(h:SO w base ps vs ls vB vV vK):∃x c X C Y D,vB= .slice x ps.length c/\vV= .slice X vs.length C/\vK= .slice Y ls.length D:=by
 obtain⟨x,c,h1, -⟩:=h.bk.row.mem;obtain⟨X,C,h2, -⟩:=h.row.mem;obtain⟨Y,D,h3, -⟩:=h.lks.mem;exact⟨x,c,X,C,Y,D,h1,h2,h3⟩
theorem HP(t:Int)(x:Option Addr)(n c:Nat)(ps:List Po)(X:Option Addr)(vn C:Nat)(vs:List Vn)(Y:Option Addr)(ln D:Nat)(ls:List (Int×Int))(cd:Cd)(w:World)(hs:Si w x n c ps X vn C vs Y ln ls)(hB:aX t ps=0)(hN:bQ vn vs ln ls=0)(hcw:CdP cd):
  Calls Tryz.prog 73 #[IE t (.slice x n c) (.slice X vn C) (.slice Y ln D),WF cd] w (Z5 ⟨t,ps,vs,ls⟩ cd w):=by
 obtain⟨-,h6, -, -⟩:=HO hs.bk.full hB hN;have hvl:Hid (vs.length=vn):=hs.vps.len;go_enter Tryz.func73,Tryz.ntmps73;go_upto_region 1 with fail
 obtain⟨w0,hw0⟩:∃w0,w0=(((w.alloc (lH t (.slice x n c) (.slice X vn C) (.slice Y ln D))).alloc (AA cd)).alloc (lH 0 (.slice none 0 0) (.slice none 0 0) (.slice none 0 0))).alloc (TI 0 0 0 0):=⟨_,rfl⟩;rw[<-hw0];have hB0:Below w.heap.size w w0:=by rw[hw0];exact((bP w _ _).alloc (by simp;omega) _).alloc (by simp;omega) _
 have hq0:w0.heap[w.heap.size]?=some (lH t (.slice x n c) (.slice X vn C) (.slice Y ln D)):=by rw[hw0];exact aH _ (aH _ (aH _ (aB _ rfl)))
 have hq1:w0.heap[w.heap.size+1]?=some (AA cd):=by rw[hw0];exact aH _ (aH _ (aB _ (by simp)))
 have hq2:w0.heap[w.heap.size+2]?=some (lH 0 (.slice none 0 0) (.slice none 0 0) (.slice none 0 0)):=by rw[hw0];exact aH _ (aB _ (by simp))
 have hq3:w0.heap[w.heap.size+3]?=some (TI 0 0 0 0):=by rw[hw0];exact aB _ (by simp)
 clear hw0;have hz3:w.heap.size+3<w0.heap.size:=(zG hq3);obtain⟨s0,s1,s2,s3⟩:=fW hq0 rfl rfl rfl rfl;go_wp2_with fail;refine(CT t x n c ps X vn C vs Y ln D ls w0 (hs.later hB0) hB hN).mono ?_;rintro e w1 ⟨vB,vV,vK,qs,us,rfl,hb1,hO1,hsq,hsu⟩;obtain⟨x1,c1,X1,C1,Y1,D1,rfl,rfl,rfl⟩:=hO1.slices;clear s0 s1 s2 s3;go_upto_region 2 with fail
 obtain⟨w2,hw2⟩:∃w2,w2=w1.alloc (lH t (.slice x1 qs.length c1) (.slice X1 us.length C1) (.slice Y1 ls.length D1)):=⟨_,rfl⟩;rw[<-hw2];have hb2:Below w1.heap.size w1 w2:=by rw[hw2];exact bl1 w1 _
 have hbx2:w2.heap[w1.heap.size]?=some (lH t (.slice x1 qs.length c1) (.slice X1 us.length C1) (.slice Y1 ls.length D1)):=by rw[hw2];exact aB _ rfl
 clear hw2;have hz1:=hb1.size;have hS2:lI w2 w.heap.size w1.heap.size t qs us ls (.slice x1 qs.length c1) (.slice X1 us.length C1) (.slice Y1 ls.length D1):=⟨hbx2,by omega,(hO1.low hB0.size).later hb2⟩;have hB2:Below w0.heap.size w0 w2:=hb1.trans (hb2.mono hz1);have hp1:=aA hB2 hq1;have hqB:aX t qs=0:=(RG hs.bk.full hsq hB).1;have hu6:us.length<=6:=by rw[<-hsu.1,hvl.out];exact h6
 obtain⟨k0,k1,k2,k3,k4,k5,k6,k7,k8,k9⟩:=DN hp1 rfl rfl rfl rfl rfl rfl rfl rfl rfl rfl;go_wp2_with fail;refine(WK w.heap.size w1.heap.size t qs us ls _ _ _ cd w2 hS2 hqB hu6 hcw).mono ?_;rintro e w3 ⟨E,a,l,n',rfl,hT3,hE,hR⟩;clear k0 k1 k2 k3 k4 k5 k6 k7 k8 k9;have hn:∀k,k<w0.heap.size->k≠w1.heap.size:=fun k hk=>by omega
 have h30:=hT3.box _ _ _ (hn _ (by omega)) (by decide) (aA hB2 hq0);have h32:=hT3.box _ _ _ (hn _ (by omega)) (by decide) (aA hB2 hq2);have h33:=hT3.box _ _ _ (hn _ (by omega)) (by decide) (aA hB2 hq3);have h3x:w1.heap.size<w3.heap.size:=Nat.lt_of_lt_of_le (zG hbx2) hT3.below.size;have hBw3:Below w.heap.size w w3:=(hB0.trans (hB2.mono hB0.size)).trans hT3.below;go_upto_region 3 with fail
 obtain⟨w4,hw4⟩:∃w4,w4=w3.alloc (TI E a l n'):=⟨_,rfl⟩;rw[<-hw4];have hb4:Below w3.heap.size w3 w4:=by rw[hw4];exact bl1 w3 _
 have h4a:w4.heap[w3.heap.size]?=some (TI E a l n'):=by rw[hw4];exact aB _ rfl
 clear hw4;have h40:=aA hb4 h30;have h42:=aA hb4 h32;have h43:=aA hb4 h33;have hBw4:Below w.heap.size w w4:=hBw3.trans (hb4.mono hBw3.size);have hsq':Hid (lJ ⟨t,ps,vs,ls⟩ ⟨t,qs,us,ls⟩):=⟨rfl,hsq,hsu,rfl⟩;have hE':Hid (pD ⟨t,qs,us,ls⟩ cd E n'):=hE;have e0:=aO h4a 0 rfl;clear hE h30 h32 h33 hsq hsu hbx2 hp1 hq0 hq1 hq2 hq3;by_cases h0:E=0
 ·subst h0;obtain⟨r,vB,vV,vK,hSr,hRr⟩:=hR rfl;have hR':Hid (uH ⟨t,qs,us,ls⟩ cd a l n' r):=hRr;clear hRr hR;obtain⟨x5,c5,X5,C5,Y5,D5,rfl,rfl,rfl⟩:=hSr.own.slices;have hS4:=hSr.later hb4;go_upto_region 5 with fail
  clear e0;have s0:∀u:vO w4 w1.heap.size w3.heap.size,u.val.cell? ⟨w1.heap.size,0,none⟩=some (.int .i64 r.t):=fun u=>(aD (u.p1.trans hS4.box)).1 0;have s1:∀u:vO w4 w1.heap.size w3.heap.size,u.val.cell? ⟨w1.heap.size,1,none⟩=some (.slice x5 r.ps.length c5):=fun u=>(aD (u.p1.trans hS4.box)).1 1;have s2:∀u:vO w4 w1.heap.size w3.heap.size,u.val.cell? ⟨w1.heap.size,2,none⟩=some (.slice X5 r.vs.length C5):=fun u=>(aD (u.p1.trans hS4.box)).1 2;have s3:∀u:vO w4 w1.heap.size w3.heap.size,u.val.cell? ⟨w1.heap.size,3,none⟩=some (.slice Y5 r.ls.length D5):=fun u=>(aD (u.p1.trans hS4.box)).1 3;have a0:∀u:vO w4 w1.heap.size w3.heap.size,u.val.cell? ⟨w3.heap.size,0,none⟩=some (.int .i64 0):=fun u=>(aD (u.p2.trans h4a)).1 0;have a1:∀u:vO w4 w1.heap.size w3.heap.size,u.val.cell? ⟨w3.heap.size,1,none⟩=some (.int .i64 a):=fun u=>(aD (u.p2.trans h4a)).1 1;have a2:∀u:vO w4 w1.heap.size w3.heap.size,u.val.cell? ⟨w3.heap.size,2,none⟩=some (.int .i64 l):=fun u=>(aD (u.p2.trans h4a)).1 2;have a3:∀u:vO w4 w1.heap.size w3.heap.size,u.val.cell? ⟨w3.heap.size,3,none⟩=some (.int .i64 n'):=fun u=>(aD (u.p2.trans h4a)).1 3;refine bG (fun w'=>∃u:vO w4 w1.heap.size w3.heap.size,w'=u.val) (fun j=>decide (j<3)) 4 _ (by kernel_rfl) rfl rfl ?_;refine bE 2 [0,1] rfl _ rfl (by kernel_rfl) (fun d _ _ _ _ h=>by cases d<;>exact h) ⟨⟨w4.drew,rfl,rfl⟩,rfl⟩ ?_;simp only[zK,zM,zI,zJ];repeat(go_big_quiet_step (fail))
  refine wpQuiet_nil ?_;clear s0 s1 s2 s3 a0 a1 a2 a3;have b2:pC w4 (w.heap.size+2) 30:=⟨_,h42⟩;have hO5:=hS4.own;obtain⟨p0,p1,p2,p3⟩:=fW h42 rfl rfl rfl rfl;obtain⟨pz0,pz1,pz2,pz3⟩:=pG h42;refine aY 2 _ _ (by kernel_rfl) (by kernel_rfl) rfl rfl ?_;intro K hK;simp only[zI,zJ];go_wp2_with fail;obtain⟨w6,hw6⟩:∃w6,w6=((((w4.setCell ⟨w.heap.size+2,0,none⟩ (.int .i64 r.t)).setCell ⟨w.heap.size+2,1,none⟩ (.slice x5 r.ps.length c5)).setCell ⟨w.heap.size+2,2,none⟩ (.slice X5 r.vs.length C5)).setCell ⟨w.heap.size+2,3,none⟩ (.slice Y5 r.ls.length D5)).drew:=⟨_,rfl⟩;rw[<-hw6];have hoth:∀k,k≠w.heap.size+2->w6.heap[k]?=w4.heap[k]?:=fun k hk=>by rw[hw6];exact(zB hk).trans ((zB hk).trans ((zB hk).trans (zB hk)))
  have h62:w6.heap[w.heap.size+2]?=some (lH r.t (.slice x5 r.ps.length c5) (.slice X5 r.vs.length C5) (.slice Y5 r.ls.length D5)):=by rw[hw6];exact zC (zC (zC (zC h42)))
  have hB6:Below w.heap.size w w6:=by rw[hw6];exact(((((hBw4).setCell (p:=⟨w.heap.size+2,0,none⟩) (zA) _).setCell (p:=⟨w.heap.size+2,1,none⟩) (zA) _).setCell (p:=⟨w.heap.size+2,2,none⟩) (zA) _).setCell (p:=⟨w.heap.size+2,3,none⟩) (zA) _).drew
  have hO7:SO w6 w.heap.size r.ps r.vs r.ls (.slice x5 r.ps.length c5) (.slice X5 r.vs.length C5) (.slice Y5 r.ls.length D5):=by rw[hw6];exact(((((hO5).put b2 (by decide)).put b2.put (by decide)).put b2.put.put (by decide)).put b2.put.put.put (by decide)).later (zD).drew
  have h63:=(hoth _ (by omega)).trans h43;have h3w:w3.heap.size≠w.heap.size+2:=by omega
  refine aC (hK.out _ _ ⟨⟨w6,hoth _ (by omega),hoth _ h3w⟩,rfl⟩ ?_);clear hK K hw6 p0 p1 p2 p3 pz0 pz1 pz2 pz3 hoth h42 h43 hO5 b2;refine bB [3] rfl (by kernel_rfl) ?_;simp only[zK,zM,zI,zJ];have b3:pC w6 (w.heap.size+3) 81:=⟨_,h63⟩;obtain⟨p0,p1,p2,p3⟩:=fW h62 rfl rfl rfl rfl;obtain⟨pz0,pz1,pz2,pz3⟩:=pG h62;obtain⟨q0,q1,q2,q3⟩:=fW h63 rfl rfl rfl rfl;obtain⟨qz0,qz1,qz2,qz3⟩:=pG h63;go_wp2;refine bodyPost_ret (v:= .tuple #[IE r.t (.slice x5 r.ps.length c5) (.slice X5 r.vs.length C5) (.slice Y5 r.ls.length D5),Z3 0 a l n']) (by simp[results,Tryz.results73,go_sem,p0,p1,p2,p3,q0,q1,q2,q3]) rfl ?_;exact⟨0,a,l,n',r,_,_,_,rfl,((((hB6).setCell (p:=⟨w.heap.size+3,0,none⟩) (zA) _).setCell (p:=⟨w.heap.size+3,1,none⟩) (zA) _).setCell (p:=⟨w.heap.size+3,2,none⟩) (zA) _).setCell (p:=⟨w.heap.size+3,3,none⟩) (zA) _,((((hO7).put b3 (by decide)).put b3.put (by decide)).put b3.put.put (by decide)).put b3.put.put.put (by decide),⟨t,qs,us,ls⟩,hsq'.out, .inr ⟨rfl,hE'.out,hR'.out⟩⟩
 ·have hne:(E !=0)=true:=by simpa using h0
  have h0':Hid (E≠0):=h0;clear hR h0;go_upto_region 4 with fail
  clear e0 hne;have s0:∀u:vO w4 w.heap.size w3.heap.size,u.val.cell? ⟨w.heap.size,0,none⟩=some (.int .i64 t):=fun u=>(aD (u.p1.trans h40)).1 0;have s1:∀u:vO w4 w.heap.size w3.heap.size,u.val.cell? ⟨w.heap.size,1,none⟩=some (.slice x n c):=fun u=>(aD (u.p1.trans h40)).1 1;have s2:∀u:vO w4 w.heap.size w3.heap.size,u.val.cell? ⟨w.heap.size,2,none⟩=some (.slice X vn C):=fun u=>(aD (u.p1.trans h40)).1 2;have s3:∀u:vO w4 w.heap.size w3.heap.size,u.val.cell? ⟨w.heap.size,3,none⟩=some (.slice Y ln D):=fun u=>(aD (u.p1.trans h40)).1 3;have a0:∀u:vO w4 w.heap.size w3.heap.size,u.val.cell? ⟨w3.heap.size,0,none⟩=some (.int .i64 E):=fun u=>(aD (u.p2.trans h4a)).1 0;have hl3:w3.heap.size<w4.heap.size:=(zG h4a);have hl0:w.heap.size<w4.heap.size:=(zG h40);refine bG (fun w'=>∃u:vO w4 w.heap.size w3.heap.size,w'=u.val) (fun j=>decide (j<6)) 7 _ (by kernel_rfl) rfl rfl ?_;refine bE 3 [0,2,3,4] rfl _ rfl (by kernel_rfl) (fun d _ _ _ _ h=>by cases d<;>exact h) ⟨⟨w4.drew,rfl,rfl⟩,rfl⟩ ?_;simp only[zK,zM,zI,zJ];repeat(go_big_quiet_step (fail))
  refine wpQuiet_nil ?_;clear s0 s1 s2 s3 a0;refine aY 1 _ _ (by kernel_rfl) (by kernel_rfl) rfl rfl ?_;intro K hK;simp only[zI,zJ];go_wp2_with fail;refine(CT t x n c ps X vn C vs Y ln D ls w4.drew ((hs.later hBw4).later (zD).drew) hB hN).mono ?_;rintro e w5 ⟨vB,vV,vK,qs2,us2,rfl,hb5,hO5,hsq2,hsu2⟩;have hB1:Below w4.heap.size w4 w5:=⟨hb5.os,hb5.tape,hb5.output,hb5.size,hb5.block⟩;obtain⟨x5,c5,X5,C5,Y5,D5,rfl,rfl,rfl⟩:=hO5.slices;go_wp2_with fail;refine aC (hK.out _ _ ⟨⟨w5,hB1.block _ hl0,hB1.block _ hl3⟩,rfl⟩ ?_);clear hK K;have h52:=aA hB1 h42;have h53:=aA hB1 h43;have hB5:Below w.heap.size w w5:=hBw4.trans (hB1.mono hBw4.size);have hO6:SO w5 w.heap.size qs2 us2 ls (.slice x5 qs2.length c5) (.slice X5 us2.length C5) (.slice Y5 ls.length D5):=hO5.low hBw4.size;have b2:pC w5 (w.heap.size+2) 30:=⟨_,h52⟩;have b3:pC w5 (w.heap.size+3) 81:=⟨_,h53⟩;have hsT:Hid (lJ ⟨t,ps,vs,ls⟩ ⟨t,qs2,us2,ls⟩):=⟨rfl,hsq2,hsu2,rfl⟩;clear hb5 hO5 hsq2 hsu2;obtain⟨p0,p1,p2,p3⟩:=fW h52 rfl rfl rfl rfl;obtain⟨pz0,pz1,pz2,pz3⟩:=pG h52;refine aY 5 _ _ (by kernel_rfl) (by kernel_rfl) rfl rfl ?_;intro K hK;simp only[zI,zJ];go_wp2_with fail;obtain⟨w6,hw6⟩:∃w6,w6=(((w5.setCell ⟨w.heap.size+2,0,none⟩ (.int .i64 t)).setCell ⟨w.heap.size+2,1,none⟩ (.slice x5 qs2.length c5)).setCell ⟨w.heap.size+2,2,none⟩ (.slice X5 us2.length C5)).setCell ⟨w.heap.size+2,3,none⟩ (.slice Y5 ls.length D5):=⟨_,rfl⟩;rw[<-hw6];have hoth:∀k,k≠w.heap.size+2->w6.heap[k]?=w5.heap[k]?:=fun k hk=>by rw[hw6];exact(zB hk).trans ((zB hk).trans ((zB hk).trans (zB hk)))
  have h62:w6.heap[w.heap.size+2]?=some (lH t (.slice x5 qs2.length c5) (.slice X5 us2.length C5) (.slice Y5 ls.length D5)):=by rw[hw6];exact zC (zC (zC (zC h52)))
  have hB6:Below w.heap.size w w6:=by rw[hw6];exact((((hB5).setCell (p:=⟨w.heap.size+2,0,none⟩) (zA) _).setCell (p:=⟨w.heap.size+2,1,none⟩) (zA) _).setCell (p:=⟨w.heap.size+2,2,none⟩) (zA) _).setCell (p:=⟨w.heap.size+2,3,none⟩) (zA) _
  have hO7:SO w6 w.heap.size qs2 us2 ls (.slice x5 qs2.length c5) (.slice X5 us2.length C5) (.slice Y5 ls.length D5):=by rw[hw6];exact((((hO6).put b2 (by decide)).put b2.put (by decide)).put b2.put.put (by decide)).put b2.put.put.put (by decide)
  have h63:=(hoth _ (by omega)).trans h53;have h3w:w3.heap.size≠w.heap.size+2:=by omega
  refine aC (hK.out _ _ ⟨⟨w6,(hoth _ (by omega)).trans (hB1.block _ hl0),(hoth _ h3w).trans (hB1.block _ hl3)⟩,rfl⟩ ?_);clear hK K hw6 p0 p1 p2 p3 pz0 pz1 pz2 pz3 hoth h52 h53 hO6 hB5 b2 b3;refine bB [6] rfl (by kernel_rfl) ?_;simp only[zK,zM,zI,zJ];have b3:pC w6 (w.heap.size+3) 81:=⟨_,h63⟩;obtain⟨p0,p1,p2,p3⟩:=fW h62 rfl rfl rfl rfl;obtain⟨pz0,pz1,pz2,pz3⟩:=pG h62;obtain⟨q0,q1,q2,q3⟩:=fW h63 rfl rfl rfl rfl;obtain⟨qz0,qz1,qz2,qz3⟩:=pG h63;go_wp2;refine bodyPost_ret (v:= .tuple #[IE t (.slice x5 qs2.length c5) (.slice X5 us2.length C5) (.slice Y5 ls.length D5),Z3 E 0 0 0]) (by simp[results,Tryz.results73,go_sem,p0,p1,p2,p3,q0,q1,q2,q3]) rfl ?_;exact⟨E,0,0,0,⟨t,qs2,us2,ls⟩,_,_,_,rfl,((((hB6).setCell (p:=⟨w.heap.size+3,0,none⟩) (zA) _).setCell (p:=⟨w.heap.size+3,1,none⟩) (zA) _).setCell (p:=⟨w.heap.size+3,2,none⟩) (zA) _).setCell (p:=⟨w.heap.size+3,3,none⟩) (zA) _,((((hO7).put b3 (by decide)).put b3.put (by decide)).put b3.put.put (by decide)).put b3.put.put.put (by decide),⟨t,qs,us,ls⟩,hsq'.out, .inl ⟨h0'.out,⟨n',hE'.out⟩,rfl,rfl,rfl,hsT.out⟩⟩
structure CU(v:Vn):Prop where
 rl:v.rs.length=v.rn
 sl:aDb v.sn v.ss
theorem mI.full(h:mI w v):CU v:=⟨h.2.2.2.ranges.len,h.2.2.2.lens⟩
theorem TJ(vs:List Vn):gV (vs.map cY)=gV vs:=by
 unfold gV;rw[List.map_map];rfl
theorem sO{x:Int×List (Int×Int×Int)}:x∈gV vs↔∃i,i<vs.length/\x=((vnAt vs i).id,(vnAt vs i).rs.map E7):=by
 unfold gV;rw[List.mem_map];constructor
 ·rintro⟨v,hv,rfl⟩;obtain⟨i,hi,rfl⟩:=eM hv;exact⟨i,hi,rfl⟩
 ·rintro⟨i,hi,rfl⟩;exact⟨_,lE hi,rfl⟩
theorem KF(hf:CU v)(hc:bN v.id v.rn v.rs v.sn v.ss=0):(v.rs.map E7).Nodup:=by
 have hR:=LP hf.rl hf.sl.subs hc;unfold List.Nodup;rw[List.pairwise_iff_getElem];intro i j hi hj hij e;rw[List.length_map]at hi hj;rw[List.getElem_map,List.getElem_map,<-nY hi,<-nY hj]at e;have h1:=hR.ri j i hij (by rw[<-hf.rl];exact hj);have h2:(rgAt v.rs i).a=(rgAt v.rs j).a:=by
  unfold E7 at e;simp only[Prod.mk.injEq]at e;exact e.2.1
 omega
theorem SO.fullV(h:SO w base ps vs ls vB vV vK):∀v∈vs,CU v:=fun v hv=>(h.net v hv).ok.full
def cdAt(cs:List Cd)(i:Nat):Cd:=cs.getD i ⟨0,0,0,0,0,0,0,0,0,0⟩
structure YH(w:World)(x:Option Addr)(n:Nat)(cs:List Cd):Prop where
 len:cs.length=n
 wf:∀i,i<n->CdP (cdAt cs i)
 cells:∀i,i<n->∃b o,x=some ⟨b,o,none⟩/\w.cell? ⟨b,o+i*10,none⟩=some (.int .i64 (cdAt cs i).op)/\w.cell? ⟨b,o+i*10+1,none⟩=some (.int .i64 (cdAt cs i).A)/\w.cell? ⟨b,o+i*10+2,none⟩=some (.int .i64 (cdAt cs i).B)/\w.cell? ⟨b,o+i*10+3,none⟩=some (.int .i64 (cdAt cs i).C)/\w.cell? ⟨b,o+i*10+4,none⟩=some (.int .i64 (cdAt cs i).a)/\w.cell? ⟨b,o+i*10+5,none⟩=some (.int .i64 (cdAt cs i).l)/\w.cell? ⟨b,o+i*10+6,none⟩=some (.int .i64 (cdAt cs i).mn)/\w.cell? ⟨b,o+i*10+7,none⟩=some (.int .i64 (cdAt cs i).mx)/\w.cell? ⟨b,o+i*10+8,none⟩=some (.int .i64 (cdAt cs i).us)/\w.cell? ⟨b,o+i*10+9,none⟩=some (.int .i64 (cdAt cs i).co)
theorem YH.later{x:Option Addr}(h:YH w x n cs)(hb:Below w.heap.size w w'):YH w' x n cs where
 len:=h.len
 wf:=h.wf
 cells:=fun i hi=>by
  obtain⟨b,o,hx,c0,c1,c2,c3,c4,c5,c6,c7,c8,c9⟩:=h.cells i hi;exact⟨b,o,hx,cell_later hb c0,cell_later hb c1,cell_later hb c2,cell_later hb c3,cell_later hb c4,cell_later hb c5,cell_later hb c6,cell_later hb c7,cell_later hb c8,cell_later hb c9⟩
def anC(x:Int×Int×Int×Int):Nat->Int
 |0=>x.1
 |1=>x.2.1
 |2=>x.2.2.1
 |_=>x.2.2.2
def anF(g:Nat->Int×Int×Int×Int)(k c:Nat):Value:= .int .i64 (if c<k*4 then anC (g (c/4)) (c%4)else 0)
structure Rgt(R:Nat->fQ->Prop)(cs:List Cd):Prop where
 zero:R 0 ⟨0,[],[],[]⟩
 ok:∀j s,R j s->aX s.t s.ps=0/\bQ s.vs.length s.vs s.ls.length s.ls=0
 step:∀j s r E a l n,j<cs.length->R j s->EM s (cdAt cs j) E a l n r->(∀v∈r.vs,CU v)->R (j+1) r
structure HQ(R:Nat->fQ->Prop)(cs:List Cd)(f:Nat->fQ)(g:Nat->Int×Int×Int×Int)(k:Nat):Prop where
 first:f 0=⟨0,[],[],[]⟩
 right:∀j,j<=k->R j (f j)
 steps:∀j,j<k->EM (f j) (cdAt cs j) (g j).1 (g j).2.1 (g j).2.2.1 (g j).2.2.2 (f (j+1))
theorem HQ.snoc{R:Nat->fQ->Prop}{f:Nat->fQ}{g:Nat->Int×Int×Int×Int}{r:fQ}(h:HQ R cs f g k)(hr:R (k+1) r)(hN:EM (f k) (cdAt cs k) x.1 x.2.1 x.2.2.1 x.2.2.2 r):
  HQ R cs (fun j=>if j<=k then f j else r) (fun j=>if j<k then g j else x) (k+1):=by
 refine⟨by simp only[Nat.zero_le,if_true];exact h.first,fun j hj=>?_,fun j hj=>?_⟩
 ·split
  ·exact h.right j (by omega)
  ·obtain rfl:j=k+1:=by omega
   exact hr
 ·by_cases e:j<k
  ·rw[if_pos e,if_pos (by omega),if_pos (by omega)];exact h.steps j e
  ·obtain rfl:j=k:=by omega
   rw[if_neg e,if_pos (zE),if_neg (by omega)];exact hN
structure Z6(R:Nat->fQ->Prop)(w:World)(n:Nat)(cs:List Cd)(k:Nat)(f:Nat->fQ)(g:Nat->Int×Int×Int×Int)(vB vV vK:Value)(wr:World):Prop where
 below:Below w.heap.size w wr
 res:wr.heap[w.heap.size]?=some (lH 0 (.slice none 0 0) (.slice none 0 0) (.slice none 0 0))
 site:lI wr w.heap.size (w.heap.size+1) (f k).t (f k).ps (f k).vs (f k).ls vB vV vK
 row:wr.rowIs (w.heap.size+1+1) 81 (n*4) (anF g k)
 plays:HQ R cs f g k
theorem Z6.later{R:Nat->fQ->Prop}{f:Nat->fQ}{g:Nat->Int×Int×Int×Int}(h:Z6 R w n cs k f g vB vV vK wr)(hb:Below wr.heap.size wr w'):Z6 R w n cs k f g vB vV vK w':=
 ⟨h.below.trans (hb.mono h.below.size),aA hb h.res,h.site.later hb,h.row.of_block (hb.block _ h.row.lt),h.plays⟩
def Z7(R:Nat->fQ->Prop)(n:Nat)(cs:List Cd)(w:World)(e:Ending)(w':World):Prop:=
 (200<n->e= .returned (.tuple #[IE 0 (.slice none 0 0) (.slice none 0 0) (.slice none 0 0), .slice none 0 0, .int .i64 2])/\Below w.heap.size w w')/\
 (n<=200->∃f g vB vV vK ba,e= .returned (.tuple #[IE (f n).t vB vV vK, .slice (some ⟨ba,0,none⟩) n n, .int .i64 0])/\Below w.heap.size w w'/\SO w' w.heap.size (f n).ps (f n).vs (f n).ls vB vV vK/\w'.rowIs ba 81 (n*4) (anF g n)/\HQ R cs f g n)
theorem WL:(Tryz.prog.info? 81).map (fun i=>(i.zero,i.size,i.bytes))=some (some (.agg #[.int .i64 0, .int .i64 0, .int .i64 0, .int .i64 0]),4,32):=by kernel_rfl
theorem TK:Tryz.prog.underlying 116=some (.slice 81):=by kernel_rfl
theorem WM(n:Nat)(h:n<=200)(w:World):(Instr.makeSlice 116 (.int .i64 (n:Int)) (.int .i64 (n:Int))).run Tryz.prog w= .ok (.slice (some ⟨w.heap.size,0,none⟩) n n) (w.alloc (.cells (madeCells #[.int .i64 0, .int .i64 0, .int .i64 0, .int .i64 0] (n*4)) 81)):=by
 obtain⟨i,hi,hzz⟩:=Option.map_eq_some_iff.1 WL;simp only[Prod.mk.injEq]at hzz;obtain⟨hz,hs,hb⟩:=hzz;have hr:=run_makeSlice (P:=Tryz.prog) w _ _ i _ TK hi hz .i64 .i64 n n (by omega) (Int.le_refl _) (by rw[hs];omega) (by rw[hb];omega) (by omega);simp only[Int.toNat_natCast,hs]at hr;exact hr
theorem Z8(w:World)(n:Nat):(w.alloc (.cells (madeCells #[.int .i64 0, .int .i64 0, .int .i64 0, .int .i64 0] (n*4)) 81)).rowIs w.heap.size 81 (n*4) (fun _=> .int .i64 0):=by
 refine⟨_,aB _ rfl,size_madeCells _ _,fun i hi=>?_⟩;have h4:i%4=0\/i%4=1\/i%4=2\/i%4=3:=by omega
 rcases h4 with h|h|h|h<;>simp[madeCells,hi,h]
theorem lI.all(h:lI w base bs t ps vs ls vB vV vK)(g:SO w base qs us ms uB uV uK):
  lI ((((w.setCell ⟨bs,0,none⟩ (.int .i64 t')).setCell ⟨bs,1,none⟩ uB).setCell ⟨bs,2,none⟩ uV).setCell ⟨bs,3,none⟩ uK) base bs t' qs us ms uB uV uK:=
 have hb:pC w bs 30:=⟨_,h.box⟩
 ⟨zC (zC (zC (zC h.box))),h.low,(((g.put hb (by decide)).put hb.put (by decide)).put hb.put.put (by decide)).put hb.put.put.put (by decide)⟩
theorem LY(w:World)(base:Nat):SO w base [] [] [] (.slice none 0 0) (.slice none 0 0) (.slice none 0 0):=
 ⟨⟨World.ownsRow_nil _ _ _ _,fun i hi=>absurd hi (Nat.not_lt_zero _),fun i _ hi=>absurd hi (Nat.not_lt_zero _),fun i j hi=>absurd hi (Nat.not_lt_zero _)⟩,World.ownsRow_nil _ _ _ _,fun u hu=>absurd hu (by simp),World.ownsRow_nil _ _ _ _⟩
theorem TL{g:Nat->Int×Int×Int×Int}:(if c=k*4+3 then .int .i64 x.2.2.2 else if c=k*4+2 then .int .i64 x.2.2.1 else if c=k*4+1 then .int .i64 x.2.1 else if c=k*4 then .int .i64 x.1 else anF g k c)=anF (fun j=>if j<k then g j else x) (k+1) c:=by
 unfold anF;by_cases h1:c<k*4
 ·rw[if_neg (by omega),if_neg (by omega),if_neg (by omega),if_neg (by omega),if_pos h1,if_pos (by omega),show(fun j=>if j<k then g j else x) (c/4)=g (c/4)from if_pos (by omega)]
 ·by_cases h2:c<k*4+4
  ·have hd:c/4=k:=by omega
   rw[if_pos (show c<(k+1)*4 by omega),hd,show(fun j=>if j<k then g j else x) k=x from if_neg (Nat.lt_irrefl k)];by_cases e3:c=k*4+3
   ·rw[if_pos e3,show c%4=3 by omega];rfl
   rw[if_neg e3];by_cases e2:c=k*4+2
   ·rw[if_pos e2,show c%4=2 by omega];rfl
   rw[if_neg e2];by_cases e1:c=k*4+1
   ·rw[if_pos e1,show c%4=1 by omega];rfl
   rw[if_neg e1,if_pos (by omega),show c%4=0 by omega];rfl
  ·rw[if_neg (by omega),if_neg (by omega),if_neg (by omega),if_neg (by omega),if_neg h1,if_neg (by omega)]
theorem WN{R:Nat->fQ->Prop}{f:Nat->fQ}{g:Nat->Int×Int×Int×Int}{r:fQ}(h:Z6 R w n cs k f g vB vV vK wr)(hO:SO wr w.heap.size r.ps r.vs r.ls uB uV uK)(hr:R (k+1) r)(hN:EM (f k) (cdAt cs k) x.1 x.2.1 x.2.2.1 x.2.2.2 r):
  Z6 R w n cs (k+1) (fun j=>if j<=k then f j else r) (fun j=>if j<k then g j else x) uB uV uK ((((((((wr.setCell ⟨w.heap.size+1,0,none⟩ (.int .i64 r.t)).setCell ⟨w.heap.size+1,1,none⟩ uB).setCell ⟨w.heap.size+1,2,none⟩ uV).setCell ⟨w.heap.size+1,3,none⟩ uK).setCell ⟨w.heap.size+1+1,k*4,none⟩ (.int .i64 x.1)).setCell ⟨w.heap.size+1+1,k*4+1,none⟩ (.int .i64 x.2.1)).setCell ⟨w.heap.size+1+1,k*4+2,none⟩ (.int .i64 x.2.2.1)).setCell ⟨w.heap.size+1+1,k*4+3,none⟩ (.int .i64 x.2.2.2)):=by
 have hS:=h.site.all (t':=r.t) hO;have h1:w.heap.size<=w.heap.size+1:=Nat.le_succ _;have h2:w.heap.size<=w.heap.size+1+1:=by omega
 have hne:w.heap.size+1+1≠w.heap.size+1:=by omega
 have ho:∀(V:World) (o:Nat) (v:Value),(V.setCell ⟨w.heap.size+1,o,none⟩ v).heap[w.heap.size]?=V.heap[w.heap.size]?:=fun V o v=>zB (by show w.heap.size≠w.heap.size+1;omega);have ho2:∀(V:World) (o:Nat) (v:Value),(V.setCell ⟨w.heap.size+1+1,o,none⟩ v).heap[w.heap.size]?=V.heap[w.heap.size]?:=fun V o v=>zB (by show w.heap.size≠w.heap.size+1+1;omega);have hrow:=((((((((h.row.setOther (a:=⟨w.heap.size+1,0,none⟩) hne (.int .i64 r.t)).setOther (a:=⟨w.heap.size+1,1,none⟩) hne uB).setOther (a:=⟨w.heap.size+1,2,none⟩) hne uV).setOther (a:=⟨w.heap.size+1,3,none⟩) hne uK).set (k*4) (.int .i64 x.1)).set (k*4+1) (.int .i64 x.2.1)).set (k*4+2) (.int .i64 x.2.2.1)).set (k*4+3) (.int .i64 x.2.2.2));have hbt:pC wr (w.heap.size+1+1) 81:=by
  obtain⟨c,hb, -⟩:=h.row;exact⟨c,hb⟩
 refine⟨(((((((h.below.setCell (p:=⟨w.heap.size+1,0,none⟩) h1 _).setCell (p:=⟨w.heap.size+1,1,none⟩) h1 _).setCell (p:=⟨w.heap.size+1,2,none⟩) h1 _).setCell (p:=⟨w.heap.size+1,3,none⟩) h1 _).setCell (p:=⟨w.heap.size+1+1,k*4,none⟩) h2 _).setCell (p:=⟨w.heap.size+1+1,k*4+1,none⟩) h2 _).setCell (p:=⟨w.heap.size+1+1,k*4+2,none⟩) h2 _).setCell (p:=⟨w.heap.size+1+1,k*4+3,none⟩) h2 _,?_,?_,hrow.congr fun i _=>TL,h.plays.snoc hr hN⟩
 ·rw[ho2,ho2,ho2,ho2,ho,ho,ho,ho];exact h.res
 ·rw[if_neg (show¬k+1<=k by omega)];exact(((hS.put hbt.put.put.put.put (by decide) hne.symm).put hbt.put.put.put.put.put (by decide) hne.symm).put hbt.put.put.put.put.put.put (by decide) hne.symm).put hbt.put.put.put.put.put.put.put (by decide) hne.symm
theorem TP{R:Nat->fQ->Prop}(x:Option Addr)(n c:Nat)(cs:List Cd)(w:World)(hc:YH w x n cs)(hn63:n<=9223372036854775807)(hR:Rgt R cs):
  Calls Tryz.prog 47 #[.slice x n c] w (Z7 R n cs w):=by
 go_enter Tryz.func47,Tryz.ntmps47;by_cases h200:200<n
 ·have hg:decide ((n:Int)>200)=true:=by simp;omega
  go_wp2;refine bodyPost_ret (v:= .tuple #[IE 0 (.slice none 0 0) (.slice none 0 0) (.slice none 0 0), .slice none 0 0, .int .i64 2]) (by simp[results,Tryz.results47,go_sem]) rfl ?_;exact⟨fun _=>⟨rfl,bl1 w _⟩,fun h=>absurd h200 (by omega)⟩
 ·have hg:decide ((n:Int)>200)=false:=by simp;omega
  have hmk:=WM n (by omega);go_upto_region 5 with fail
  obtain⟨w1,hw1⟩:∃w1,w1=((w.alloc (lH 0 (.slice none 0 0) (.slice none 0 0) (.slice none 0 0))).alloc (lH 0 (.slice none 0 0) (.slice none 0 0) (.slice none 0 0))).alloc (.cells (madeCells #[.int .i64 0, .int .i64 0, .int .i64 0, .int .i64 0] (n*4)) 81):=⟨_,rfl⟩;rw[<-hw1];have hP0:Z6 R w n cs 0 (fun _=>⟨0,[],[],[]⟩) (fun _=>(0,0,0,0)) (.slice none 0 0) (.slice none 0 0) (.slice none 0 0) w1:=by
   have hr:=Z8 ((w.alloc (lH 0 (.slice none 0 0) (.slice none 0 0) (.slice none 0 0))).alloc (lH 0 (.slice none 0 0) (.slice none 0 0) (.slice none 0 0))) n;rw[<-hw1,show((w.alloc (lH 0 (.slice none 0 0) (.slice none 0 0) (.slice none 0 0))).alloc (lH 0 (.slice none 0 0) (.slice none 0 0) (.slice none 0 0))).heap.size=w.heap.size+1+1 by simp]at hr;refine⟨by rw[hw1];exact(bP w _ _).alloc (by simp;omega) _,by rw[hw1];exact aH _ (aH _ (aB _ rfl)),⟨by rw[hw1];exact aH _ (aB _ (by simp)),Nat.le_succ _,LY _ _⟩,hr.congr fun i _=>by simp[anF],⟨rfl,fun j hj=>(Nat.le_zero.1 hj)▸hR.zero,fun j hj=>absurd hj (Nat.not_lt_zero _)⟩⟩
  clear hw1 hmk hg;go_wp2;go_loopw [18] (fun i wr=>∃(k:Nat) (f:Nat->fQ) (g:Nat->Int×Int×Int×Int) (vB vV vK:Value),k<=n/\i= .int .i64 k/\Z6 R w n cs k f g vB vV vK wr) (fun i _=>n- (intOf i).toNat)
  case atStart=>exact⟨0,_,_,_,_,_,Nat.zero_le _,rfl,hP0⟩
  case round=>
   obtain⟨k,f,g,vB,vV,vK,hk,rfl,hP⟩:=hrel
   clear hP0
   obtain⟨x1,c1,X1,C1,Y1,D1,rfl,rfl,rfl⟩:=hP.site.own.slices
   by_cases hlt:k<n
   ·obtain⟨b,o,hx,d0,d1,d2,d3,d4,d5,d6,d7,d8,d9⟩:=(hc.later hP.below).cells k hlt;have hw3:=hc.wf k hlt;subst hx;have hlt':Hid (k<n):=hlt;have hi1:(k:Int)<n:=by omega
    have hi2:(0:Int)<=k:=by omega
    go_upto_region 8 with fail
    clear d0 d1 d2 d3 d4 d5 d6 d7 d8 d9;obtain⟨w2,hw2⟩:∃w2,w2=wr.alloc (AA (cdAt cs k)):=⟨_,rfl⟩;rw[<-hw2];have hb2:Below wr.heap.size wr w2:=by rw[hw2];exact bl1 wr _
    have hq2:w2.heap[wr.heap.size]?=some (AA (cdAt cs k)):=by rw[hw2];exact aB _ rfl
    clear hw2;have hP2:=hP.later hb2;clear hP hb2;have hRk:=hP2.plays.right k (zE);obtain⟨x',c',X',C',Y',D',e1,e2,e3,hbk,hvs,hvc,hv63,hps,hl63⟩:=hP2.site.see (hR.ok _ _ hRk).1;simp only[Value.slice.injEq]at e1 e2 e3;obtain⟨rfl, -,rfl⟩:=e1;obtain⟨rfl, -,rfl⟩:=e2;obtain⟨rfl, -,rfl⟩:=e3;obtain⟨k0,k1,k2,k3,k4,k5,k6,k7,k8,k9⟩:=DN hq2 rfl rfl rfl rfl rfl rfl rfl rfl rfl rfl;obtain⟨s0,s1,s2,s3⟩:=fW hP2.site.box rfl rfl rfl rfl;have hnx:=HP (f k).t x1 (f k).ps.length c1 (f k).ps X1 (f k).vs.length C1 (f k).vs Y1 (f k).ls.length D1 (f k).ls (cdAt cs k) w2 ⟨hbk,hvs,hvc,hv63,hps,hl63⟩ (hR.ok _ _ hRk).1 (hR.ok _ _ hRk).2 hw3;go_wp2_with fail;refine hnx.mono ?_;rintro e w3 ⟨E,a,l,n',r,uB,uV,uK,rfl,hb3,hO3,hN⟩;obtain⟨x3,c3,X3,C3,Y3,D3,rfl,rfl,rfl⟩:=hO3.slices;clear hnx k0 k1 k2 k3 k4 k5 k6 k7 k8 k9 s0 s1 s2 s3 hbk hvs hvc hv63 hps hl63 hq2 hw3;have hP3:=hP2.later hb3;have hO4:SO w3 w.heap.size r.ps r.vs r.ls (.slice x3 r.ps.length c3) (.slice X3 r.vs.length C3) (.slice Y3 r.ls.length D3):=hO3.low hP2.below.size;have hrr:Hid (R (k+1) r):=hR.step k _ r E a l n' (by rw[hc.len];exact hlt'.out) hRk hN hO3.fullV;have hN':Hid (EM (f k) (cdAt cs k) E a l n' r):=hN;have hlt2:=hlt'.out;clear hP2 hb3 hO3 hRk hN hlt';obtain⟨s0,s1,s2,s3⟩:=fW hP3.site.box rfl rfl rfl rfl;obtain⟨z0,z1,z2,z3⟩:=pG hP3.site.box;have m0:=hP3.row.cell (i:=k*4) (by omega);have m1:=hP3.row.cell (i:=k*4+1) (by omega);have m2:=hP3.row.cell (i:=k*4+2) (by omega);have m3:=hP3.row.cell (i:=k*4+3) (by omega);have y0:=hP3.row.frozen (k*4);have y1:=hP3.row.frozen (k*4+1);have y2:=hP3.row.frozen (k*4+2);have y3:=hP3.row.frozen (k*4+3);go_wp2;go_roundw
    case rel=>
     exact⟨k+1,_,_,_,_,_,hlt2,by go_num,WN (x:=(E,a,l,n')) hP3 hO4 hrr.out hN'.out⟩
    case measure=>simp[intOf];omega
   ·obtain rfl:k=n:=by omega
    have hO:=hP.site.own;obtain⟨s0,s1,s2,s3⟩:=fW hP.site.box rfl rfl rfl rfl;obtain⟨p0,p1,p2,p3⟩:=fW hP.res rfl rfl rfl rfl;obtain⟨pz0,pz1,pz2,pz3⟩:=pG hP.res;have hbt:pC wr w.heap.size 30:=⟨_,hP.res⟩;have hne:w.heap.size+1+1≠w.heap.size:=by omega
    go_wp2;refine bodyPost_ret (v:= .tuple #[IE (f k).t (.slice x1 (f k).ps.length c1) (.slice X1 (f k).vs.length C1) (.slice Y1 (f k).ls.length D1), .slice (some ⟨w.heap.size+1+1,0,none⟩) k k, .int .i64 0]) (by simp[results,Tryz.results47,go_sem,p0,p1,p2,p3]) rfl ?_;exact⟨fun h=>absurd h h200,fun _=>⟨f,g,_,_,_,w.heap.size+1+1,rfl,((((hP.below).setCell (p:=⟨w.heap.size,0,none⟩) (zE) _).setCell (p:=⟨w.heap.size,1,none⟩) (zE) _).setCell (p:=⟨w.heap.size,2,none⟩) (zE) _).setCell (p:=⟨w.heap.size,3,none⟩) (zE) _,((((hO).put hbt (by decide)).put hbt.put (by decide)).put hbt.put.put (by decide)).put hbt.put.put.put (by decide),((((hP.row).setOther (a:=⟨w.heap.size,0,none⟩) hne _).setOther (a:=⟨w.heap.size,1,none⟩) hne _).setOther (a:=⟨w.heap.size,2,none⟩) hne _).setOther (a:=⟨w.heap.size,3,none⟩) hne _,hP.plays⟩⟩
end Go.Proofs.YtkgeoeglidnnnaaGreatDoor
