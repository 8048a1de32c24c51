/- A part of the proof. -/
import Derived.Test.YtkgeoeglidnnnaaGreatDoorMD10
set_option maxRecDepth 100000
set_option maxHeartbeats 20000000
namespace Go.Proofs.YtkgeoeglidnnnaaGreatDoor
variable {w w' W W' : World} {v vV vK V u : Value} {i base base' n c ln lc b o rn sn : Nat} {us : List Vn} {ms ls fs : List (Int × Int)} {E vid eg y : Int} {t : TypeId} {x lx : Option Addr} {cs : List Value} {p q : Int × Int} {f g : Nat → Bool} {rs rs' : List Rg} {ss ts : List Sb} {r : Rg} {e : Ending} {gs : List Fc}
open Go.RowKit Go.Shelf
def mI(w:World)(v:Vn):Prop:=v.rn<=9223372036854775807/\v.sn<=9223372036854775807/\v.rc<=9223372036854775807/\Vp w v.rx v.rn v.rc v.rs v.sx v.sn v.sc v.ss
theorem mI.later{v:Vn}(h:mI w v)(hb:Below w.heap.size w w'):mI w' v:=⟨h.1,h.2.1,h.2.2.1,h.2.2.2.later hb⟩
def newV(id:Int):Vn:=⟨id,none,0,0,[],none,0,0,[]⟩
theorem lE{vs:List Vn}(h:i<vs.length):vnAt vs i∈vs:=by
 rw[dW h];exact List.getElem_mem h
theorem eM{vs:List Vn}{v:Vn}(h:v∈vs):∃i,i<vs.length/\vnAt vs i=v:=by
 obtain⟨i,hi,rfl⟩:=List.getElem_of_mem h;exact⟨i,hi,dW hi⟩
theorem cD.vs(h:cD w base v us)(hv:∀u∈us,mI w u):∃X C,v= .slice X us.length C/\VS w X us.length us/\us.length<=C/\C<=9223372036854775807/\((X=none/\C=0)\/∃b o,X=some ⟨b,o,none⟩):=by
 obtain⟨X,C,e,h1,h2,h3,h4⟩:=h.mem;refine⟨X,C,e,⟨rfl,h4,fun i hi=>hv _ (lE hi)⟩,h1,h2,?_⟩;rcases h.2 with ⟨e1,e2⟩|⟨g,cap,cur,e1, -⟩
 ·rw[e]at e1;simp only[Value.slice.injEq]at e1;exact .inl ⟨e1.1,e1.2.2⟩
 ·rw[e]at e1;simp only[Value.slice.injEq]at e1;exact .inr ⟨g,0,e1.1⟩
theorem cJ.ps(h:cJ w base v ms):∃X C,v= .slice X ms.length C/\PS w X ms.length ms/\ms.length<=C/\C<=9223372036854775807/\((X=none/\C=0)\/∃b o,X=some ⟨b,o,none⟩):=by
 obtain⟨X,C,e,h1,h2,h3,h4⟩:=h.mem;refine⟨X,C,e,⟨rfl,h4⟩,h1,h2,?_⟩;rcases h.2 with ⟨e1,e2⟩|⟨g,cap,cur,e1, -⟩
 ·rw[e]at e1;simp only[Value.slice.injEq]at e1;exact .inl ⟨e1.1,e1.2.2⟩
 ·rw[e]at e1;simp only[Value.slice.injEq]at e1;exact .inr ⟨g,0,e1.1⟩
def NN(w:World)(V:Value)(us:List Vn)(ms:List (Int×Int)):Prop:=
 ∃X C LX LC,V= .agg #[.slice X us.length C, .slice LX ms.length LC]/\VS w X us.length us/\PS w LX ms.length ms/\us.length<=C/\C<=9223372036854775807/\ms.length<=LC/\LC<=9223372036854775807
theorem NN.of(h:cD w base vV us)(hv:∀u∈us,mI w u)(g:cJ w base' vK ms):NN w (.agg #[vV,vK]) us ms:=by
 obtain⟨X,C,rfl,h1,h2,h3, -⟩:=h.vs hv;obtain⟨Y,D,rfl,g1,g2,g3, -⟩:=g.ps;exact⟨X,C,Y,D,rfl,h1,g1,h2,h3,g2,g3⟩
theorem VT(w:World)(base:Nat)(id:Int):oB w base (newV id):=⟨World.ownsRow_nil _ _ _ _,kN.nil w base⟩
def NO(w:World)(base:Nat)(V:Value)(us:List Vn)(ms:List (Int×Int)):Prop:=∃vV vK,V= .agg #[vV,vK]/\cD w base vV us/\(∀u∈us,oB w base u)/\cJ w base vK ms
theorem NO.of{b1 b2 b3:Nat}(h:cD w b1 vV us)(h1:base<=b1)(hv:∀u∈us,oB w b2 u)(h2:base<=b2)(g:cJ w b3 vK ms)(h3:base<=b3):NO w base (.agg #[vV,vK]) us ms:=
 ⟨vV,vK,rfl,h.low h1,fun u hu=>(hv u hu).low h2,g.low h3⟩
theorem NO.nn(h:NO w base V us ms):NN w V us ms:=by
 obtain⟨vV,vK,rfl,h1,h2,h3⟩:=h;exact NN.of h1 (fun u hu=>(h2 u hu).vp) h3
def dM(E:Int)(R:List Vn->List (Int×Int)->Prop)(w:World)(e:Ending)(w':World):Prop:=
 ∃V,e= .returned (.tuple #[V, .int .i64 E])/\Below w.heap.size w w'/\(E≠0->V= .agg #[.slice none 0 0, .slice none 0 0])/\(E=0->∃us ms,NO w' w.heap.size V us ms/\R us ms)
theorem dM.err{t:Int}{R:List Vn->List (Int×Int)->Prop}(hE:E=t/\t≠0)(hb:Below w.heap.size w w'):dM E R w (.returned (.tuple #[.agg #[.slice none 0 0, .slice none 0 0], .int .i64 t])) w':=
 ⟨_,by rw[hE.1],hb,fun _=>rfl,fun h=>absurd (hE.1.symm.trans h) hE.2⟩
theorem dM.ok{R:List Vn->List (Int×Int)->Prop}(hE:E=0)(hb:Below w.heap.size w w')(h:NO w' w.heap.size V us ms)(hR:R us ms):dM E R w (.returned (.tuple #[V, .int .i64 0])) w':=
 ⟨V,by rw[hE],hb,fun h=>absurd hE h,fun _=>⟨us,ms,h,hR⟩⟩
structure TM(w W:World)(x:Option Addr)(n c:Nat)(lx:Option Addr)(ln lc:Nat):Prop where
 hb:W.heap[w.heap.size]?=some (jR x n c lx ln lc)
 hs:W.heap[w.heap.size+1]?=some (eG (.slice none 0 0) (.slice none 0 0))
 below:Below w.heap.size w W
theorem TM.later(h:TM w W x n c lx ln lc)(hb:Below W.heap.size W W'):TM w W' x n c lx ln lc:=
 ⟨aA hb h.hb,aA hb h.hs,h.below.trans (hb.mono h.below.size)⟩
theorem uA{vs:List Vn}(h:bQ n vs ln ls=0):n<=6/\ln<=12/\∀i,i<n->ZS (vnAt vs i):=by
 obtain⟨h6,h12,hv, -, -⟩:=oS h;refine⟨h6,h12,fun i hi=>?_⟩;obtain⟨f1,f2,f3,f4⟩:=jK (G4 hv i hi);exact⟨by omega,by omega,fun i hi=>by have:=f3 i hi;omega,fun i hi j hj=>by have:=f4 i hi j hj;omega⟩
theorem cD.putBox{vs:List Vn}{cs:Array Value}(h:cD w base v vs)(hb:w.heap[b]?=some (.cells cs t))(h1:t≠51):cD (w.setCell ⟨b,o,none⟩ u) base v vs:=
 h.kept (aN _ _ _ _) (fun k hk e=>by subst e;exact h.ne hb h1 hk)
theorem cJ.putBox{cs:Array Value}(h:cJ w base v ls)(hb:w.heap[b]?=some (.cells cs t))(h1:t≠77):cJ (w.setCell ⟨b,o,none⟩ u) base v ls:=
 h.kept (aN _ _ _ _) (fun k hk e=>by subst e;exact h.ne hb h1 hk)
theorem mI.of{v:Vn}(h:oB w base v):mI w v:=h.vp
def jM(n:Nat)(vs:List Vn)(ln:Nat)(ls:List (Int×Int))(id:Int):Int:=
 if bQ n vs ln ls=0 then(if bV id 1 65536=false then 3 else if 0<=aM n vs id then 6 else if n=6 then 2 else 0)else bQ n vs ln ls
def SN(id:Int)(vs us:List Vn):Prop:=∃us0 i,cQ vs us0/\i<=us0.length/\(∀j,j<i->¬id<(vnAt us0 j).id)/\(i<us0.length->id<(vnAt us0 i).id)/\us=us0.take i++[newV id]++us0.drop i
def HE(vs:List Vn)(ls:List (Int×Int))(id:Int)(us:List Vn)(ms:List (Int×Int)):Prop:=SN id vs us/\ms=ls
theorem SP(x:Option Addr)(n c:Nat)(vs:List Vn)(lx:Option Addr)(ln lc:Nat)(ls:List (Int×Int))(id:Int)(w:World)(hp:VS w x n vs)(hn:n<=9223372036854775807)(hnc:n<=c)(hl:PS w lx ln ls)(hln:ln<=9223372036854775807):
  Calls Tryz.prog 195 #[.agg #[.slice x n c, .slice lx ln lc], .int .i64 id] w (dM (jM n vs ln ls id) (HE vs ls id) w):=by
 have hvl:Hid (vs.length=n):=hp.len;have hE:Hid (jM n vs ln ls id=if bQ n vs ln ls=0 then(if bV id 1 65536=false then 3 else if 0<=aM n vs id then 6 else if n=6 then 2 else 0)else bQ n vs ln ls):=rfl;go_enter Tryz.func195,Tryz.ntmps195;go_upto_region 1 with fail
 obtain⟨w0,hw0⟩:∃w0,w0=(w.alloc (jR x n c lx ln lc)).alloc (eG (.slice none 0 0) (.slice none 0 0)):=⟨_,rfl⟩;rw[<-hw0];have hT0:TM w w0 x n c lx ln lc:=by
  rw[hw0];exact⟨aH _ (aB _ rfl),aB _ (by simp),bP w _ _⟩
 clear hw0;obtain⟨k0,k1⟩:=aZ hT0.hb rfl rfl;obtain⟨ks0,ks1⟩:=aZ hT0.hs rfl rfl;obtain⟨kz0,kz1⟩:=eA hT0.hs;by_cases hc0:bQ n vs ln ls=0
 ·have hck:=iS x n c vs lx ln lc ls 0 hc0 w0 (hp.later hT0.below) hn hnc (hl.later hT0.below) hln;obtain⟨h6,h12,hfew⟩:=uA hc0;have hE1:Hid (jM n vs ln ls id=if bV id 1 65536=false then 3 else if 0<=aM n vs id then 6 else if n=6 then 2 else 0):=hE.out.trans (if_pos hc0);clear hc0 hE;go_wp2_with fail;refine hck.mono ?_;rintro e w1 ⟨rfl,hb⟩;have hT1:=hT0.later hb;clear k0 k1 ks0 ks1 kz0 kz1;obtain⟨k0,k1⟩:=aZ hT1.hb rfl rfl;obtain⟨ks0,ks1⟩:=aZ hT1.hs rfl rfl;obtain⟨kz0,kz1⟩:=eA hT1.hs;clear hck
  cases hwi:bV id 1 65536 with
  |false=>
   have hi:=isId_is id false hwi w1
   have hE2:Hid (jM n vs ln ls id=3/\(3:Int)≠0):=⟨hE1.out.trans (if_pos hwi),by decide⟩
   clear hwi hE1
   go_wp2_with fail
   refine hi.mono ?_
   rintro e w2 ⟨rfl,rfl⟩
   clear hi
   go_wp2
   refine bodyPost_ret (v:= .tuple #[.agg #[.slice none 0 0, .slice none 0 0], .int .i64 3]) (by simp[results,Tryz.results195,go_sem,ks0,ks1]) rfl ?_
   exact dM.err hE2.out ((hT1.below.setCell (p:=⟨w.heap.size+1,0,none⟩) (zA) _).setCell (p:=⟨w.heap.size+1,1,none⟩) (zA) _)
  |true=>
   have hi:=isId_is id true hwi w1
   have hE2:Hid (jM n vs ln ls id=if 0<=aM n vs id then 6 else if n=6 then 2 else 0):=hE1.out.trans (if_neg (c:=bV id 1 65536=false) (by rw[hwi];decide))
   clear hwi hE1
   go_wp2_with fail
   refine hi.mono ?_
   rintro e w2 ⟨rfl,rfl⟩
   clear hi
   obtain⟨t,ht⟩:∃t,aM n vs id=t:=⟨_,rfl⟩
   have hpl:=rW id x n c vs lx ln lc t ht w2 (hp.later hT1.below) (by omega)
   rw[ht]at hE2
   clear ht
   go_wp2_with fail
   refine hpl.mono ?_
   rintro e w3 ⟨rfl,hb⟩
   have hT3:=hT1.later hb
   clear k0 k1 ks0 ks1 kz0 kz1
   obtain⟨k0,k1⟩:=aZ hT3.hb rfl rfl
   obtain⟨ks0,ks1⟩:=aZ hT3.hs rfl rfl
   obtain⟨kz0,kz1⟩:=eA hT3.hs
   clear hpl
   by_cases ht0:t<0
   ·have ht1:¬(t≥0):=by omega
    by_cases hn6:n=6
    ·have hE3:Hid (jM n vs ln ls id=2/\(2:Int)≠0):=⟨hE2.out.trans (by rw[if_neg (show¬(0:Int)<=t by omega),if_pos hn6]),by decide⟩;have hn6':((n:Int)==6)=true:=by simp;omega
     have hn6'':(n:Int)=6:=by omega
     clear hE2 hn6;go_wp2;refine bodyPost_ret (v:= .tuple #[.agg #[.slice none 0 0, .slice none 0 0], .int .i64 2]) (by simp[results,Tryz.results195,go_sem,ks0,ks1]) rfl ?_;exact dM.err hE3.out ((hT3.below.setCell (p:=⟨w.heap.size+1,0,none⟩) (zA) _).setCell (p:=⟨w.heap.size+1,1,none⟩) (zA) _)
    ·have hE3:Hid (jM n vs ln ls id=0):=hE2.out.trans (by rw[if_neg (show¬(0:Int)<=t by omega),if_neg hn6]);have hn6':((n:Int)==6)=false:=by simp;omega
     have hn6'':¬(n:Int)=6:=by omega
     have hfn:=iJ x n c vs lx ln lc ls w3 (hp.later hT3.below) (by omega) (hl.later hT3.below) (by omega) hfew;clear hE2 hn6;go_wp2_with fail;refine hfn.mono ?_;rintro e w4 ⟨vV,vK,us,rfl,hsv,hOV,hVo,hOK,hb4⟩;have hT4:=hT3.later hb4;clear hfn hn6' hn6'';obtain⟨X,C,hvV,hVS4,hXC,hC63,hX0⟩:=hOV.vs (fun u hu=>by
      obtain⟨i,hi,rfl⟩:=eM hu;exact mI.of (hVo i hi))
     obtain⟨Y,D,hvK,hPS4, -, -, -⟩:=hOK.ps;subst hvV;subst hvK;have hul:Hid (us.length=n):=by show _=_;rw[<-hsv.1];exact hvl.out
     have hw3s:Hid (w.heap.size+1<w3.heap.size):=(zG hT3.hs);clear k0 k1 ks0 ks1 kz0 kz1;go_upto_region 12 with fail
     obtain⟨w5,hw5⟩:∃w5,w5=w4.alloc (eG (.slice X us.length C) (.slice Y ls.length D)):=⟨_,rfl⟩;rw[<-hw5];have hb5:Below w4.heap.size w4 w5:=by rw[hw5];exact bl1 w4 _
     have hbx5:w5.heap[w4.heap.size]?=some (eG (.slice X us.length C) (.slice Y ls.length D)):=by rw[hw5];exact aB _ rfl
     clear hw5;have hT5:=hT4.later hb5;have m0:=aO hbx5 0 rfl;have hVS5:=hVS4.later hb5;have hput:=fun W hW bf hby=>SJ (newV id) X us.length C us bf 1 W (hVS5.later hW) (by rw[hul.out];omega) hXC hC63 hX0 hby;go_wp2_with fail;have hba:Below w5.heap.size w5 (w5.alloc (.cells #[.func (.func 87) #[] #[]] 158)):=bl1 w5 _;refine(hput _ hba w5.heap.size (by simp)).mono ?_;rintro e w6 ⟨v6,rfl,hb6,i,hi,hlo,hup,hO6⟩;have hb56:Below w5.heap.size w5 w6:=hba.trans (hb6.mono hba.size);have hT6:=hT5.later hb56;have hbx6:=aA hb56 hbx5;have hVo6:∀u∈us.take i++[newV id]++us.drop i,oB w6 w3.heap.size u\/u=newV id:=fun u hu=>by
      rcases List.mem_append.1 hu with hu|hu
      ·rcases List.mem_append.1 hu with hu|hu
       ·obtain⟨j,hj,rfl⟩:=eM (List.mem_of_mem_take hu);exact .inl (((hVo j hj).later hb5).later hb56)
       ·exact .inr (by simpa using hu)
      ·obtain⟨j,hj,rfl⟩:=eM (List.mem_of_mem_drop hu);exact .inl (((hVo j hj).later hb5).later hb56)
     have hOK6:=(hOK.later hb5).later hb56;have hR:Hid (HE vs ls id (us.take i++[newV id]++us.drop i) ls):=⟨⟨us,i,hsv,hi,hlo,hup,rfl⟩,rfl⟩;obtain⟨u6,hu6⟩:∃u6,u6=us.take i++[newV id]++us.drop i:=⟨_,rfl⟩;rw[<-hu6]at hVo6 hO6 hR;have hO6b:cD w6 w3.heap.size v6 u6:=hO6.low (by have:=hb4.size;have:=hb5.size;have:=hba.size;omega);obtain⟨X6,C6,hv6, -⟩:=hO6.mem;subst hv6;have g0:=aO hbx6 0 rfl;have gz:=(aD hbx6).2 0;clear m0 hput hlo hup hu6 hO6;go_upto_region 13 with fail
     obtain⟨w7,hw7⟩:∃w7,w7=w6.setCell ⟨w4.heap.size,0,none⟩ (.slice X6 u6.length C6):=⟨_,rfl⟩;rw[<-hw7];have hbx7:w7.heap[w4.heap.size]?=some (eG (.slice X6 u6.length C6) (.slice Y ls.length D)):=by
      rw[hw7];simpa using heap_setCell_same w6 w4.heap.size 0 _ _ (.slice X6 u6.length C6) hbx6
     have hne0:w.heap.size≠w4.heap.size:=by have:=hw3s.out;have:=hb4.size;omega
     have hne1:w.heap.size+1≠w4.heap.size:=by have:=hw3s.out;have:=hb4.size;omega
     have hT7:TM w w7 x n c lx ln lc:=by
      rw[hw7];exact⟨(zB hne0).trans hT6.hb,(zB hne1).trans hT6.hs,hT6.below.setCell (p:=⟨w4.heap.size,0,none⟩) (by show w.heap.size<=w4.heap.size;have:=hw3s.out;have:=hb4.size;omega) _⟩
     have hO7:cD w7 w3.heap.size (.slice X6 u6.length C6) u6:=by rw[hw7];exact hO6b.putBox hbx6 (by decide)
     have hVo7:∀u∈u6,oB w7 w3.heap.size u\/u=newV id:=fun u hu=>by
      rw[hw7];rcases hVo6 u hu with h|h
      ·exact .inl (h.putBox hbx6 (by decide) (by decide) (by decide) (by decide))
      ·exact .inr h
     have hOK7:cJ w7 w3.heap.size (.slice Y ls.length D) ls:=by rw[hw7];exact hOK6.putBox hbx6 (by decide)
     clear hw7 g0 gz hO6b hVo6 hOK6 hbx6 hT6;obtain⟨g0,g1⟩:=aZ hbx7 rfl rfl;obtain⟨k0,k1⟩:=aZ hT7.hb rfl rfl;obtain⟨ks0,ks1⟩:=aZ hT7.hs rfl rfl;obtain⟨kz0,kz1⟩:=eA hT7.hs;go_wp2;refine bodyPost_ret (v:= .tuple #[.agg #[.slice X6 u6.length C6, .slice Y ls.length D], .int .i64 0]) (by simp[results,Tryz.results195,go_sem,ks0,ks1]) rfl ?_;refine dM.ok hE3.out ((hT7.below.setCell (p:=⟨w.heap.size+1,0,none⟩) (zA) _).setCell (p:=⟨w.heap.size+1,1,none⟩) (zA) _) (us:=u6) (ms:=ls) (NO.of ((hO7.put hw3s.out).put hw3s.out) (by have:=hw3s.out;omega) (b2:=w3.heap.size) (fun u hu=>?_) (by have:=hw3s.out;omega) ((hOK7.put hw3s.out).put hw3s.out) (by have:=hw3s.out;omega)) hR.out;rcases hVo7 u hu with h|h
     ·exact(h.put hw3s.out).put hw3s.out
     ·rw[h];exact VT _ _ _
   ·have ht1:t≥0:=by omega
    have hE3:Hid (jM n vs ln ls id=6/\(6:Int)≠0):=⟨hE2.out.trans (if_pos (show(0:Int)<=t by omega)),by decide⟩;clear hE2;go_wp2;refine bodyPost_ret (v:= .tuple #[.agg #[.slice none 0 0, .slice none 0 0], .int .i64 6]) (by simp[results,Tryz.results195,go_sem,ks0,ks1]) rfl ?_;exact dM.err hE3.out ((hT3.below.setCell (p:=⟨w.heap.size+1,0,none⟩) (zA) _).setCell (p:=⟨w.heap.size+1,1,none⟩) (zA) _)
 ·obtain⟨t,ht⟩:∃t,bQ n vs ln ls=t:=⟨_,rfl⟩;have hck:=iS x n c vs lx ln lc ls t ht w0 (hp.later hT0.below) hn hnc (hl.later hT0.below) hln;rw[ht]at hc0;have hE1:Hid (jM n vs ln ls id=t/\t≠0):=⟨by rw[hE.out,ht,if_neg hc0],hc0⟩;have hne:(t !=0)=true:=by simpa using hc0
  clear hE ht;go_wp2_with fail;refine hck.mono ?_;rintro e w1 ⟨rfl,hb⟩;have hT1:=hT0.later hb;clear k0 k1 ks0 ks1 kz0 kz1;obtain⟨k0,k1⟩:=aZ hT1.hb rfl rfl;obtain⟨ks0,ks1⟩:=aZ hT1.hs rfl rfl;obtain⟨kz0,kz1⟩:=eA hT1.hs;clear hck;go_wp2;refine bodyPost_ret (v:= .tuple #[.agg #[.slice none 0 0, .slice none 0 0], .int .i64 t]) (by simp[results,Tryz.results195,go_sem,ks0,ks1]) rfl ?_;exact dM.err hE1.out ((hT1.below.setCell (p:=⟨w.heap.size+1,0,none⟩) (zA) _).setCell (p:=⟨w.heap.size+1,1,none⟩) (zA) _)
def aCy(n:Nat)(vs:List Vn)(ln:Nat)(ls:List (Int×Int))(a b:Int):Int:=
 if bQ n vs ln ls=0 then(if PV ln ls a b=true then 0 else 5)else bQ n vs ln ls
def aCz(a b:Int)(ls ms:List (Int×Int)):Prop:=∃i,i<ls.length/\lC ls (min a b) (max a b) i=true/\ms=ls.take i++ls.drop (i+1)
def aDa(vs:List Vn)(ls:List (Int×Int))(a b:Int)(us:List Vn)(ms:List (Int×Int)):Prop:=cQ vs us/\aCz a b ls ms
theorem Hid.mk'{p:Prop}(h:p):Hid p:=h
def zR(p:Int×Int)(ls:List (Int×Int)):Nat:=((List.range ls.length).find? fun i=>wN p (kK ls i)).getD ls.length
def jN(p:Int×Int)(ls:List (Int×Int)):List (Int×Int):=ls.take (zR p ls)++[p]++ls.drop (zR p ls)
theorem SQ(hi:i<=ls.length)(hlo:∀j,j<i->wN p (kK ls j)=false)(hup:i<ls.length->wN p (kK ls i)=true):zR p ls=i:=by
 unfold zR;by_cases h:i<ls.length
 ·have:(List.range ls.length).find? (fun i=>wN p (kK ls i))=some i:=by
   rw[List.find?_range_eq_some];exact⟨hup h,by simpa using h,fun j hj=>by simpa using hlo j hj⟩
  rw[this];rfl
 ·obtain rfl:i=ls.length:=by omega
  have:(List.range ls.length).find? (fun i=>wN p (kK ls i))=none:=by
   rw[List.find?_eq_none];intro j hj;rw[hlo j (by simpa using hj)];decide
  rw[this];rfl
theorem SR(hi:i<=ls.length)(hlo:∀j,j<i->wN p (kK ls j)=false)(hup:i<ls.length->wN p (kK ls i)=true):jN p ls=ls.take i++[p]++ls.drop i:=by
 unfold jN;rw[SQ hi hlo hup]
theorem VU:q∈jN p ls↔q=p\/q∈ls:=by
 unfold jN;conv=>rhs;rw[<-List.take_append_drop (zR p ls) ls]
 simp only[List.mem_append,List.mem_cons,List.not_mem_nil,or_false];constructor
 ·rintro((h|h)|h)
  ·exact .inr (.inl h)
  ·exact .inl h
  ·exact .inr (.inr h)
 ·rintro(h|h|h)
  ·exact .inl (.inr h)
  ·exact .inl (.inl h)
  ·exact .inr h
theorem VV:(jN p ls).length=ls.length+1:=by
 have h1:ls.length=(ls.take (zR p ls)).length+(ls.drop (zR p ls)).length:=by
  rw[<-List.length_append,List.take_append_drop]
 unfold jN;rw[List.length_append,List.length_append,List.length_singleton];omega
theorem gE(h:∀i,i<n->f i=g i):(List.range n).all f=(List.range n).all g:=by
 rw[Bool.eq_iff_iff,List.all_eq_true,List.all_eq_true];constructor
 ·intro h1 i hi;rw[<-h i (by simpa using hi)];exact h1 i hi
 ·intro h1 i hi;rw[h i (by simpa using hi)];exact h1 i hi
theorem HG{vs:List Vn}(h:cQ vs us):bF us=bF vs:=by
 unfold bF;refine List.ext_getElem (by simp[h.1]) fun i h1 h2=>?_;have hi:i<vs.length:=by simpa using h2
 have hj:i<us.length:=by rw[<-h.1];exact hi
 rw[List.getElem_map,List.getElem_map,<-dW hi,<-dW hj,(h.2 i hi).1]
theorem HH{vs:List Vn}(hl:vs.length=n)(h:cQ vs us):tS ms n us=tS ms n vs:=by
 unfold tS;refine gE fun i hi=>?_;unfold JS;refine gE fun j hj=>?_;unfold yM;obtain⟨a1,a2,a3, -⟩:=h.2 i (by omega);obtain⟨b1,b2,b3, -⟩:=h.2 j (by omega);rw[a1,a2,a3,b1,b2,b3]
def pP(n:Nat)(vs:List Vn)(ln:Nat)(ls:List (Int×Int))(a b:Int):Int:=
 if bQ n vs ln ls=0 then(if a=b then 3 else if aM n vs a<0 then 5 else if aM n vs b<0 then 5 else if PV ln ls a b=true then 6 else if tS (jN (min a b,max a b) ls) n vs=false then 9 else if ln=12 then 2 else 0)else bQ n vs ln ls
def LM(vs:List Vn)(ls:List (Int×Int))(a b:Int)(us:List Vn)(ms:List (Int×Int)):Prop:=cQ vs us/\ms=jN (min a b,max a b) ls
theorem ST(x:Option Addr)(n c:Nat)(vs:List Vn)(lx:Option Addr)(ln lc:Nat)(ls:List (Int×Int))(a b:Int)(w:World)(hp:VS w x n vs)(hn:n<=9223372036854775807)(hnc:n<=c)(hl:PS w lx ln ls)(hln:ln<=9223372036854775807):
  Calls Tryz.prog 151 #[.agg #[.slice x n c, .slice lx ln lc], .int .i64 a, .int .i64 b] w (dM (pP n vs ln ls a b) (LM vs ls a b) w):=by
 have hvl:Hid (vs.length=n):=hp.len;have hll:Hid (ls.length=ln):=hl.len;obtain⟨E,hEE⟩:∃E,E=pP n vs ln ls a b:=⟨_,rfl⟩;rw[<-hEE];unfold pP at hEE;replace hEE:=Hid.mk' hEE;go_enter Tryz.func151,Tryz.ntmps151;go_upto_region 1 with fail
 obtain⟨w0,hw0⟩:∃w0,w0=(w.alloc (jR x n c lx ln lc)).alloc (eG (.slice none 0 0) (.slice none 0 0)):=⟨_,rfl⟩;rw[<-hw0];have hT0:TM w w0 x n c lx ln lc:=by
  rw[hw0];exact⟨aH _ (aB _ rfl),aB _ (by simp),bP w _ _⟩
 clear hw0;obtain⟨k0,k1⟩:=aZ hT0.hb rfl rfl;obtain⟨ks0,ks1⟩:=aZ hT0.hs rfl rfl;obtain⟨kz0,kz1⟩:=eA hT0.hs;by_cases hc0:bQ n vs ln ls=0
 ·have hck:=iS x n c vs lx ln lc ls 0 hc0 w0 (hp.later hT0.below) hn hnc (hl.later hT0.below) hln;obtain⟨h6,h12,hfew⟩:=uA hc0;rw[if_pos hc0]at hEE;obtain⟨-, -,hvb,hlb, -⟩:=oS hc0;have hvf:=rY hvb;have hlk0:Hid (∀q∈ls,q.1∈bF vs/\q.2∈bF vs):=fun q hq=>by
   obtain⟨-,⟨k1,h1,e1⟩,k2,h2,e2⟩:=G9 hvl.out hll.out hlb q hq;rw[<-e1,<-e2];exact⟨wV (by rw[hvl.out];exact h1),wV (by rw[hvl.out];exact h2)⟩
  clear hc0 hvb hlb;by_cases hab:a=b
  ·rw[if_pos hab]at hEE;have hE2:Hid (E=3/\(3:Int)≠0):=⟨hEE.out,by decide⟩;have hab':(a==b)=true:=by simpa using hab
   clear hEE hab;go_wp2_with fail;refine hck.mono ?_;rintro e w1 ⟨rfl,hb⟩;have hT1:=hT0.later hb;clear k0 k1 ks0 ks1 kz0 kz1;obtain⟨k0,k1⟩:=aZ hT1.hb rfl rfl;obtain⟨ks0,ks1⟩:=aZ hT1.hs rfl rfl;obtain⟨kz0,kz1⟩:=eA hT1.hs;clear hck;go_wp2;refine bodyPost_ret (v:= .tuple #[.agg #[.slice none 0 0, .slice none 0 0], .int .i64 3]) (by simp[results,Tryz.results151,go_sem,ks0,ks1]) rfl ?_;exact dM.err hE2.out ((hT1.below.setCell (p:=⟨w.heap.size+1,0,none⟩) (zA) _).setCell (p:=⟨w.heap.size+1,1,none⟩) (zA) _)
  rw[if_neg hab]at hEE;have hab':(a==b)=false:=by simpa using hab
  clear hab;go_wp2_with fail;refine hck.mono ?_;rintro e w1 ⟨rfl,hb⟩;have hT1:=hT0.later hb;clear k0 k1 ks0 ks1 kz0 kz1;obtain⟨k0,k1⟩:=aZ hT1.hb rfl rfl;obtain⟨ks0,ks1⟩:=aZ hT1.hs rfl rfl;obtain⟨kz0,kz1⟩:=eA hT1.hs;clear hck;obtain⟨ta,hta⟩:∃t,aM n vs a=t:=⟨_,rfl⟩;obtain⟨tb,htb⟩:∃t,aM n vs b=t:=⟨_,rfl⟩;have hpa:=rW a x n c vs lx ln lc ta hta w1 (hp.later hT1.below) (by omega);have hmA:Hid (0<=ta->a∈bF vs):=fun h=>mE hvl.out (by rw[hta];omega);have hmB:Hid (0<=tb->b∈bF vs):=fun h=>mE hvl.out (by rw[htb];omega);have hpb:=fun W (hW:Below w1.heap.size w1 W)=>rW b x n c vs lx ln lc tb htb W ((hp.later hT1.below).later hW) (by omega);rw[hta,htb]at hEE;clear hta htb;by_cases ha0:ta<0
  ·rw[if_pos ha0]at hEE;have hE2:Hid (E=5/\(5:Int)≠0):=⟨hEE.out,by decide⟩;clear hEE hpb hmA hmB;go_wp2_with fail;refine hpa.mono ?_;rintro e w2 ⟨rfl,hb⟩;have hT2:=hT1.later hb;clear k0 k1 ks0 ks1 kz0 kz1;obtain⟨k0,k1⟩:=aZ hT2.hb rfl rfl;obtain⟨ks0,ks1⟩:=aZ hT2.hs rfl rfl;obtain⟨kz0,kz1⟩:=eA hT2.hs;clear hpa;go_wp2;refine bodyPost_ret (v:= .tuple #[.agg #[.slice none 0 0, .slice none 0 0], .int .i64 5]) (by simp[results,Tryz.results151,go_sem,ks0,ks1]) rfl ?_;exact dM.err hE2.out ((hT2.below.setCell (p:=⟨w.heap.size+1,0,none⟩) (zA) _).setCell (p:=⟨w.heap.size+1,1,none⟩) (zA) _)
  rw[if_neg ha0]at hEE;have hma:=hmA.out (by omega);go_wp2_with fail;refine hpa.mono ?_;rintro e w2 ⟨rfl,hb2⟩;have hT2:=hT1.later hb2;have hpb2:=hpb w2 hb2;clear k0 k1 ks0 ks1 kz0 kz1;obtain⟨k0,k1⟩:=aZ hT2.hb rfl rfl;obtain⟨ks0,ks1⟩:=aZ hT2.hs rfl rfl;obtain⟨kz0,kz1⟩:=eA hT2.hs;clear hpa hpb hmA;by_cases hb0:tb<0
  ·rw[if_pos hb0]at hEE;have hE2:Hid (E=5/\(5:Int)≠0):=⟨hEE.out,by decide⟩;clear hEE hmB;go_wp2_with fail;refine hpb2.mono ?_;rintro e w3 ⟨rfl,hb⟩;have hT3:=hT2.later hb;clear k0 k1 ks0 ks1 kz0 kz1;obtain⟨k0,k1⟩:=aZ hT3.hb rfl rfl;obtain⟨ks0,ks1⟩:=aZ hT3.hs rfl rfl;obtain⟨kz0,kz1⟩:=eA hT3.hs;clear hpb2;go_wp2;refine bodyPost_ret (v:= .tuple #[.agg #[.slice none 0 0, .slice none 0 0], .int .i64 5]) (by simp[results,Tryz.results151,go_sem,ks0,ks1]) rfl ?_;exact dM.err hE2.out ((hT3.below.setCell (p:=⟨w.heap.size+1,0,none⟩) (zA) _).setCell (p:=⟨w.heap.size+1,1,none⟩) (zA) _)
  rw[if_neg hb0]at hEE;have hmb:=hmB.out (by omega);go_wp2_with fail;refine hpb2.mono ?_;rintro e w3 ⟨rfl,hb3⟩;have hT3:=hT2.later hb3;clear k0 k1 ks0 ks1 kz0 kz1;obtain⟨k0,k1⟩:=aZ hT3.hb rfl rfl;obtain⟨ks0,ks1⟩:=aZ hT3.hs rfl rfl;obtain⟨kz0,kz1⟩:=eA hT3.hs;clear hpb2 hmB;have hma':Hid (a∈bF vs/\b∈bF vs):=⟨hma,hmb⟩;clear hma hmb;obtain⟨tj,htj⟩:∃t,PV ln ls a b=t:=⟨_,rfl⟩;have htj':anyAt ln (lC ls (min a b) (max a b))=tj:=htj;have hcn:=fun W (hW:Below w3.heap.size w3 W)=>zL (min a b) (max a b) lx ln lc ls W ((hl.later hT3.below).later hW) (by omega);rw[htj']at hcn;rw[htj]at hEE;clear htj htj';have a0:=Ws.here k1;go_upto_region 7 with fail
  go_cut [30] (fun v wc=>v= .bool tj/\Below w3.heap.size w3 wc)
  case first=>
   clear k0 k1 ks0 ks1 kz0 kz1
   refine aE w3.heap.size (by kernel_rfl) (by kernel_rfl) ?_
   repeat(go_big_quiet_step (first|(go_at_call 204;exact Calls.in_ws (zE) (oA _ _ _))|(go_at_call 203;exact Calls.in_ws (zE) (hcn _ (Ws.property _)))))
   refine wpQuiet_nil ?_
   rintro _ ⟨u,rfl⟩
   have hu:=u.property
   generalize u.val=wu at hu⊢
   clear u a0
   go_wp2
   go_meet
   case rel=>exact⟨rfl,hu⟩
  case rest=>
   obtain⟨rfl,hBc⟩:=hcut
   obtain⟨wo,hwo⟩:∃wo,wo=wc:=⟨_,rfl⟩
   subst hwo
   have hTc:=hT3.later hBc
   clear k0 k1 ks0 ks1 kz0 kz1
   clear a0 hcn
   obtain⟨k0,k1⟩:=aZ hTc.hb rfl rfl
   obtain⟨ks0,ks1⟩:=aZ hTc.hs rfl rfl
   obtain⟨kz0,kz1⟩:=eA hTc.hs
   cases tj with
   |true=>
    rw[if_pos rfl]at hEE
    have hE2:Hid (E=6/\(6:Int)≠0):=⟨hEE.out,by decide⟩
    clear hEE
    go_wp2
    refine bodyPost_ret (v:= .tuple #[.agg #[.slice none 0 0, .slice none 0 0], .int .i64 6]) (by simp[results,Tryz.results151,go_sem,ks0,ks1]) rfl ?_
    exact dM.err hE2.out ((hTc.below.setCell (p:=⟨w.heap.size+1,0,none⟩) (zA) _).setCell (p:=⟨w.heap.size+1,1,none⟩) (zA) _)
   |false=>
    rw[if_neg (by decide)]at hEE
    have hfn:=iJ x n c vs lx ln lc ls wo (hp.later hTc.below) (by omega) (hl.later hTc.below) (by omega) hfew
    have hEH:Hid (E=if tS (jN (min a b,max a b) ls) n vs=false then 9 else if ln=12 then 2 else 0):=hEE.out
    clear hEE
    go_wp2_with fail
    refine hfn.mono ?_
    rintro e w4 ⟨vV,vK,us,rfl,hsv,hOV,hVo,hOK,hb4⟩
    have hT4:=hTc.later hb4
    clear hfn
    obtain⟨X,C,hvV,hVS4,hXC,hC63, -⟩:=hOV.vs (fun u hu=>by
     obtain⟨i,hi,rfl⟩:=eM hu;exact mI.of (hVo i hi))
    obtain⟨Y,D,hvK,hPS4,hYD,hD63,hY0⟩:=hOK.ps
    subst hvV
    subst hvK
    have hul:Hid (us.length=n):=by show _=_;rw[<-hsv.1];exact hvl.out
    have hw3s:Hid (w.heap.size+1<wo.heap.size):=(zG hTc.hs)
    have hll12:ls.length<=12:=by rw[hll.out];exact h12
    clear k0 k1 ks0 ks1 kz0 kz1
    go_upto_region 12 with fail
    obtain⟨w5,hw5⟩:∃w5,w5=w4.alloc (eG (.slice X us.length C) (.slice Y ls.length D)):=⟨_,rfl⟩
    rw[<-hw5]
    have hb5:Below w4.heap.size w4 w5:=by rw[hw5];exact bl1 w4 _
    have hbx5:w5.heap[w4.heap.size]?=some (eG (.slice X us.length C) (.slice Y ls.length D)):=by rw[hw5];exact aB _ rfl
    clear hw5
    have hT5:=hT4.later hb5
    have hPS5:=hPS4.later hb5
    have hput:=fun W (hW:Below w5.heap.size w5 W) bf hby hby2=>SM (min a b,max a b) Y ls.length D ls bf 2 W (hPS5.later hW) (by omega) hYD hD63 hY0 hby hby2
    have a1:=Ws.here (aO hbx5 1 rfl)
    go_cut [9] (fun p wd=>p= .pointer (some ⟨w4.heap.size,0,none⟩)/\∃w6 X6 C6,Below w5.heap.size w5 w6/\cJ w6 wo.heap.size (.slice X6 (jN (min a b,max a b) ls).length C6) (jN (min a b,max a b) ls)/\wd=w6.setCell ⟨w4.heap.size,1,none⟩ (.slice X6 (jN (min a b,max a b) ls).length C6))
    case first=>
     have hbd:Below w5.heap.size w5 w5.drew:=(zD).drew
     refine bG (fun w'=>∃u:Ws w5.heap.size w5,w'=u.val) (fun j=>decide (j<7)) 9 _ (by kernel_rfl) rfl rfl ?_
     refine bE 5 [0,1,2,3] rfl _ rfl (by kernel_rfl) (fun d _ _ _ _ h=>by cases d<;>exact h) ⟨⟨_,hbd⟩,rfl⟩ ?_
     simp only[zK,zM,zI,zJ]
     repeat(go_big_quiet_step (fail))
     refine wpQuiet_nil ?_
     clear a1
     refine iD 4 5 _ _ _ _ (by kernel_rfl) (by kernel_rfl) rfl rfl rfl rfl ?_ ?_
     ·intro K hK;simp only[zI,zJ];go_wp2_with fail;refine(oA a b w5.drew).mono ?_;rintro e wl ⟨rfl,hbl⟩;have hBl:Below w5.heap.size w5 wl:=⟨hbl.os,hbl.tape,hbl.output,hbl.size,hbl.block⟩;go_wp2_with fail;refine aC (hK.out _ _ ⟨⟨_,hBl⟩,rfl⟩ ?_);clear hK K;refine aY 5 _ _ (by kernel_rfl) (by kernel_rfl) rfl rfl ?_;intro K hK;simp only[zI,zJ];go_wp2_with fail;have hBm:Below w5.heap.size w5 (wl.alloc (.cells #[.func (.func 92) #[] #[], .func (.func 93) #[] #[]] 161)):=hBl.trans ((bl1 wl _).mono hBl.size);refine aC (hK.out _ _ ⟨⟨_,hBm⟩,rfl⟩ ?_);clear hK K;refine aY 6 _ _ (by kernel_rfl) (by kernel_rfl) rfl rfl ?_;intro K hK;simp only[zI,zJ];go_wp2_with fail;refine(hput (wl.alloc (.cells #[.func (.func 92) #[] #[], .func (.func 93) #[] #[]] 161)) hBm wl.heap.size (by simp) (by simp)).mono ?_;rintro e w6 ⟨v6,rfl,hb6,i,hi,hlo,hup,hO6⟩;have hb56:Below w5.heap.size w5 w6:=hBm.trans (hb6.mono hBm.size);have hO6b:cJ w6 wo.heap.size v6 (ls.take i++[(min a b,max a b)]++ls.drop i):=hO6.low (by have:=hb4.size;have:=hb5.size;have:=hBm.size;omega);rw[<-SR hi hlo hup]at hO6b;obtain⟨X6,C6,hv6, -⟩:=hO6b.mem;subst hv6;go_wp2_with fail;refine aC (hK.out _ _ ⟨⟨_,hb56⟩,rfl⟩ ?_);clear hK K;have hbx6:=aA hb56 hbx5;have g1:=aO hbx6 1 rfl;have gz:=(aD hbx6).2 1;refine bB [7,8] rfl (by kernel_rfl) ?_;simp only[zK,zM,zI,zJ];go_wp2_with fail;go_meet
      case rel=>exact⟨rfl,w6,X6,C6,hb56,hO6b,rfl⟩
     ·intro K hK;simp only[zI,zJ];go_wp2_with fail;have hBl:Below w5.heap.size w5 (w5.alloc (.cells #[.func (.func 92) #[] #[], .func (.func 93) #[] #[]] 161)).drew:=(bl1 w5 _).drew;refine aC (hK.out _ _ ⟨⟨_,hBl⟩,rfl⟩ ?_);clear hK K;have f0:((w5.alloc (.cells #[.func (.func 92) #[] #[], .func (.func 93) #[] #[]] 161)).drew).cell? ⟨w5.heap.size,0,none⟩=some (.func (.func 92) #[] #[]):=(aD (aB (W:=w5) (.cells #[.func (.func 92) #[] #[], .func (.func 93) #[] #[]] 161) rfl)).1 0;have f1:((w5.alloc (.cells #[.func (.func 92) #[] #[], .func (.func 93) #[] #[]] 161)).drew).cell? ⟨w5.heap.size,1,none⟩=some (.func (.func 93) #[] #[]):=(aD (aB (W:=w5) (.cells #[.func (.func 92) #[] #[], .func (.func 93) #[] #[]] 161) rfl)).1 1;refine aY 4 _ _ (by kernel_rfl) (by kernel_rfl) rfl rfl ?_;intro K hK;simp only[zI,zJ];go_wp2_with fail;refine(oA a b (w5.alloc (.cells #[.func (.func 92) #[] #[], .func (.func 93) #[] #[]] 161)).drew).mono ?_;rintro e wl ⟨rfl,hbl⟩;have hBm:Below w5.heap.size w5 wl:=hBl.trans (hbl.mono hBl.size);have f0':=cell_later hbl f0;have f1':=cell_later hbl f1;clear f0 f1;go_wp2_with fail;refine aC (hK.out _ _ ⟨⟨_,hBm⟩,rfl⟩ ?_);clear hK K;refine aY 6 _ _ (by kernel_rfl) (by kernel_rfl) rfl rfl ?_;intro K hK;simp only[zI,zJ];go_wp2_with fail;refine(hput wl hBm w5.heap.size f0' f1').mono ?_;rintro e w6 ⟨v6,rfl,hb6,i,hi,hlo,hup,hO6⟩;have hb56:Below w5.heap.size w5 w6:=hBm.trans (hb6.mono hBm.size);have hO6b:cJ w6 wo.heap.size v6 (ls.take i++[(min a b,max a b)]++ls.drop i):=hO6.low (by have:=hb4.size;have:=hb5.size;have:=hBm.size;omega);rw[<-SR hi hlo hup]at hO6b;obtain⟨X6,C6,hv6, -⟩:=hO6b.mem;subst hv6;go_wp2_with fail;refine aC (hK.out _ _ ⟨⟨_,hb56⟩,rfl⟩ ?_);clear hK K;have hbx6:=aA hb56 hbx5;have g1:=aO hbx6 1 rfl;have gz:=(aD hbx6).2 1;refine bB [7,8] rfl (by kernel_rfl) ?_;simp only[zK,zM,zI,zJ];go_wp2_with fail;go_meet
      case rel=>exact⟨rfl,w6,X6,C6,hb56,hO6b,rfl⟩
    case rest=>
     obtain⟨rfl,w6,X6,C6,hb56,hO6,hwd⟩:=hcut
     clear a1 hput
     have hbx6:=aA hb56 hbx5
     have hT6:=hT5.later hb56
     obtain⟨ms,hms⟩:∃ms,Hid (ms=jN (min a b,max a b) ls):=⟨_,rfl⟩
     rw[<-hms.out]at hO6 hwd hEH
     have hml:Hid (ms.length=ls.length+1):=by show _=_;rw[hms.out];exact VV
     have hbx7:wc.heap[w4.heap.size]?=some (eG (.slice X us.length C) (.slice X6 ms.length C6)):=by
      rw[hwd];simpa using heap_setCell_same w6 w4.heap.size 1 _ _ (.slice X6 ms.length C6) hbx6
     have hne0:w.heap.size≠w4.heap.size:=by have:=hw3s.out;have:=hb4.size;omega
     have hne1:w.heap.size+1≠w4.heap.size:=by have:=hw3s.out;have:=hb4.size;omega
     have hT7:TM w wc x n c lx ln lc:=by
      rw[hwd];exact⟨(zB hne0).trans hT6.hb,(zB hne1).trans hT6.hs,hT6.below.setCell (p:=⟨w4.heap.size,1,none⟩) (by show w.heap.size<=w4.heap.size;have:=hw3s.out;have:=hb4.size;omega) _⟩
     have hO7:cD wc wo.heap.size (.slice X us.length C) us:=by rw[hwd];exact((hOV.later hb5).later hb56).putBox hbx6 (by decide)
     have hVo7:∀i,i<us.length->oB wc wo.heap.size (vnAt us i):=fun i hi=>by rw[hwd];exact(((hVo i hi).later hb5).later hb56).putBox hbx6 (by decide) (by decide) (by decide) (by decide)
     have hOK7:cJ wc wo.heap.size (.slice X6 ms.length C6) ms:=by rw[hwd];exact hO6.putBox hbx6 (by decide)
     clear hwd hO6 hbx6 hT6 hOV hVo hOK hVS4 hPS4 hPS5 hT5
     obtain⟨X',C',hv',hVS7,hXC', -, -⟩:=hO7.vs (fun u hu=>by
      obtain⟨i,hi,rfl⟩:=eM hu;exact mI.of (hVo7 i hi))
     simp only[Value.slice.injEq]at hv'
     obtain⟨rfl, -,rfl⟩:=hv'
     obtain⟨Y',D',hk',hPS7, -⟩:=hOK7.ps
     simp only[Value.slice.injEq]at hk'
     obtain⟨rfl, -,rfl⟩:=hk'
     have hR:Hid (LM vs ls a b us ms):=⟨hsv,hms.out⟩
     obtain⟨ta,hta⟩:∃t,tS ms n vs=t:=⟨_,rfl⟩
     have hap:=napart_is X us.length C us X6 ms.length C6 ms ta (by rw[hul.out,HH hvl.out hsv];exact hta) wc hVS7 (by rw[hul.out];omega) hXC' hPS7 (by rw[hml.out];omega) (fun i hi=>by
      have h1:=(hsv.2 i (by rw[hsv.1];exact hi)).1;rw[<-h1];exact(hvf i (by rw[<-hul.out];exact hi)).1) (fun i hi=>by
      have h1:=(hsv.2 i (by rw[hsv.1];exact hi)).2.1;rw[<-h1];exact(hvf i (by rw[<-hul.out];exact hi)).2) (fun j hj=>by
      have hm:kK ms j∈jN (min a b,max a b) ls:=by
       rw[<-hms.out];unfold kK;rw[zF,List.getElem?_eq_getElem hj];exact List.getElem_mem hj
      rw[HG hsv];show(kK ms j).1∈_/\(kK ms j).2∈_;rcases VU.1 hm with h|h
      ·rw[h];rcases Int.le_total a b with e|e
       ·rw[Int.min_eq_left e,Int.max_eq_right e];exact hma'.out
       ·rw[Int.min_eq_right e,Int.max_eq_left e];exact⟨hma'.out.2,hma'.out.1⟩
      ·exact hlk0.out _ h)
     rw[hta]at hEH
     clear hta hVS7 hPS7
     obtain⟨g0,g1⟩:=aZ hbx7 rfl rfl
     go_wp2_with fail
     refine hap.mono ?_
     rintro e w8 ⟨rfl,hb8⟩
     have hT8:=hT7.later hb8
     have hbx8:=aA hb8 hbx7
     have hO8:=hO7.later hb8
     have hVo8:=fun i hi=>(hVo7 i hi).later hb8
     have hOK8:=hOK7.later hb8
     clear g0 g1 hap hO7 hVo7 hOK7 hbx7 hT7 hb8
     obtain⟨g0,g1⟩:=aZ hbx8 rfl rfl
     obtain⟨k0,k1⟩:=aZ hT8.hb rfl rfl
     obtain⟨ks0,ks1⟩:=aZ hT8.hs rfl rfl
     obtain⟨kz0,kz1⟩:=eA hT8.hs
     cases ta with
     |false=>
      have hE2:Hid (E=9/\(9:Int)≠0):=⟨hEH.out.trans (if_pos rfl),by decide⟩
      clear hEH
      go_wp2
      refine bodyPost_ret (v:= .tuple #[.agg #[.slice none 0 0, .slice none 0 0], .int .i64 9]) (by simp[results,Tryz.results151,go_sem,ks0,ks1]) rfl ?_
      exact dM.err hE2.out ((hT8.below.setCell (p:=⟨w.heap.size+1,0,none⟩) (zA) _).setCell (p:=⟨w.heap.size+1,1,none⟩) (zA) _)
     |true=>
      have hE2:Hid (E=if ln=12 then 2 else 0):=hEH.out.trans (if_neg (by decide))
      clear hEH
      by_cases hl12:ln=12
      ·have hE3:Hid (E=2/\(2:Int)≠0):=⟨hE2.out.trans (if_pos hl12),by decide⟩;have hl12':((ln:Int)==12)=true:=by simp;omega
       have hl12'':(ln:Int)=12:=by omega
       clear hE2 hl12;go_wp2;refine bodyPost_ret (v:= .tuple #[.agg #[.slice none 0 0, .slice none 0 0], .int .i64 2]) (by simp[results,Tryz.results151,go_sem,ks0,ks1]) rfl ?_;exact dM.err hE3.out ((hT8.below.setCell (p:=⟨w.heap.size+1,0,none⟩) (zA) _).setCell (p:=⟨w.heap.size+1,1,none⟩) (zA) _)
      ·have hE3:Hid (E=0):=hE2.out.trans (if_neg hl12);have hl12':((ln:Int)==12)=false:=by simp;omega
       have hl12'':¬(ln:Int)=12:=by omega
       clear hE2 hl12;go_wp2;refine bodyPost_ret (v:= .tuple #[.agg #[.slice X us.length C, .slice X6 ms.length C6], .int .i64 0]) (by simp[results,Tryz.results151,go_sem,ks0,ks1]) rfl ?_;exact dM.ok hE3.out ((hT8.below.setCell (p:=⟨w.heap.size+1,0,none⟩) (zA) _).setCell (p:=⟨w.heap.size+1,1,none⟩) (zA) _) (us:=us) (ms:=ms) (NO.of ((hO8.put hw3s.out).put hw3s.out) (by have:=hw3s.out;omega) (b2:=wo.heap.size) (fun u hu=>by
        obtain⟨j,hj,rfl⟩:=eM hu;exact((hVo8 j hj).put hw3s.out).put hw3s.out) (by have:=hw3s.out;omega) ((hOK8.put hw3s.out).put hw3s.out) (by have:=hw3s.out;omega)) hR.out
 ·obtain⟨t,ht⟩:∃t,bQ n vs ln ls=t:=⟨_,rfl⟩;have hck:=iS x n c vs lx ln lc ls t ht w0 (hp.later hT0.below) hn hnc (hl.later hT0.below) hln;rw[ht]at hc0 hEE;have hE1:Hid (E=t/\t≠0):=⟨by rw[hEE.out,if_neg hc0],hc0⟩;have hne:(t !=0)=true:=by simpa using hc0
  clear hEE ht;go_wp2_with fail;refine hck.mono ?_;rintro e w1 ⟨rfl,hb⟩;have hT1:=hT0.later hb;clear k0 k1 ks0 ks1 kz0 kz1;obtain⟨k0,k1⟩:=aZ hT1.hb rfl rfl;obtain⟨ks0,ks1⟩:=aZ hT1.hs rfl rfl;obtain⟨kz0,kz1⟩:=eA hT1.hs;clear hck;go_wp2;refine bodyPost_ret (v:= .tuple #[.agg #[.slice none 0 0, .slice none 0 0], .int .i64 t]) (by simp[results,Tryz.results151,go_sem,ks0,ks1]) rfl ?_;exact dM.err hE1.out ((hT1.below.setCell (p:=⟨w.heap.size+1,0,none⟩) (zA) _).setCell (p:=⟨w.heap.size+1,1,none⟩) (zA) _)
abbrev vnW(p:Vn):Value:= .agg #[.int .i64 p.id, .slice p.rx p.rn p.rc, .slice p.sx p.sn p.sc]
def eY(vid:Int)(rn:Nat)(rs:List Rg)(sn:Nat)(ss:List Sb)(r:Rg)(w:World)(e:Ending)(w':World):Prop:=
 ∃V,e= .returned (.tuple #[V, .int .i64 (fN vid rn rs sn ss r)])/\Below w.heap.size w w'/\(fN vid rn rs sn ss r≠0->V= .agg #[.int .i64 0, .slice none 0 0, .slice none 0 0])/\
  (fN vid rn rs sn ss r=0->∃u:Vn,V=vnW u/\oB w' w.heap.size u/\u.id=vid/\X8 r rs u.rs/\cO ss u.ss)
theorem eY.err(hE:fN vid rn rs sn ss r=E/\E≠0)(hb:Below w.heap.size w w'):
  eY vid rn rs sn ss r w (.returned (.tuple #[.agg #[.int .i64 0, .slice none 0 0, .slice none 0 0], .int .i64 E])) w':=
 ⟨_,by rw[hE.1],hb,fun _=>rfl,fun h=>absurd (hE.1.symm.trans h) hE.2⟩
theorem J8(vid:Int)(rx:Option Addr)(rn rc:Nat)(rs:List Rg)(sx:Option Addr)(sn sc:Nat)(ss:List Sb)(r:Rg)(w:World)(hv:Vp w rx rn rc rs sx sn sc ss)(hrn:rn<=9223372036854775807)(hsn:sn<=9223372036854775807)(hrc:rc<=9223372036854775807):
  Calls Tryz.prog 241 #[.agg #[.int .i64 vid, .slice rx rn rc, .slice sx sn sc], .agg #[.int .i64 r.a, .int .i64 r.l, .int .i64 r.p]] w (eY vid rn rs sn ss r w):=by
 have hrl:Hid (rs.length=rn):=hv.ranges.len;have hsl:Hid (ss.length=sn):=hv.subs.len;go_enter Tryz.func241,Tryz.ntmps241;go_upto_region 1 with fail
 obtain⟨w0,hw0⟩:∃w0,w0=((w.alloc (eH vid (.slice rx rn rc) (.slice sx sn sc))).alloc (.cells #[.int .i64 r.a, .int .i64 r.l, .int .i64 r.p] 59)).alloc (eH 0 (.slice none 0 0) (.slice none 0 0)):=⟨_,rfl⟩;rw[<-hw0];have hT0:TG w w0 vid (.slice rx rn rc) (.slice sx sn sc) r:=by
  rw[hw0];exact⟨aH _ (aH _ (aB _ rfl)),aH _ (aB _ (by simp)),aB _ (by simp),(bP w _ _).alloc (by simp;omega) _⟩
 clear hw0;obtain⟨b0,b1,b2⟩:=bZ hT0.hb rfl rfl rfl;obtain⟨p0,p1,p2⟩:=bZ hT0.hp rfl rfl rfl;obtain⟨s0,s1,s2⟩:=bZ hT0.hs rfl rfl rfl;obtain⟨zs0,zs1,zs2⟩:=fB hT0.hs;have hck:=checkV_any vid rx rn rc rs sx sn sc ss w0 (hv.later hT0.below) hrn hsn hrc;by_cases hc0:bN vid rn rs sn ss=0
 ·rw[hc0]at hck;obtain⟨f1,f2,f3,f4⟩:=jK hc0;have hE1:Hid (fN vid rn rs sn ss r=if E5 r=false then 1 else if anyAt rn (JM rs r.a r.l)=true then 6 else if rn=4 then 2 else 0):=if_neg (c:=bN vid rn rs sn ss≠0) (by simp[hc0]);clear hc0;go_wp2_with fail;refine(hck).mono ?_;rintro e w1 ⟨rfl,hbw1⟩;have hT1:=hT0.later hbw1;clear b0 b1 b2 p0 p1 p2 s0 s1 s2 zs0 zs1 zs2;obtain⟨b0,b1,b2⟩:=bZ hT1.hb rfl rfl rfl;obtain⟨p0,p1,p2⟩:=bZ hT1.hp rfl rfl rfl;obtain⟨s0,s1,s2⟩:=bZ hT1.hs rfl rfl rfl;obtain⟨zs0,zs1,zs2⟩:=fB hT1.hs
  cases hrg:E5 r with
  |false=>
   have hne:fN vid rn rs sn ss r=1/\(1:Int)≠0:=⟨hE1.out.trans (if_pos hrg),by decide⟩
   go_wp2_with fail
   refine(gK r false hrg w1).mono ?_
   rintro e w2 ⟨rfl,hbw2⟩
   have hT2:=hT1.later hbw2
   clear b0 b1 b2 p0 p1 p2 s0 s1 s2 zs0 zs1 zs2
   obtain⟨b0,b1,b2⟩:=bZ hT2.hb rfl rfl rfl
   obtain⟨p0,p1,p2⟩:=bZ hT2.hp rfl rfl rfl
   obtain⟨s0,s1,s2⟩:=bZ hT2.hs rfl rfl rfl
   obtain⟨zs0,zs1,zs2⟩:=fB hT2.hs
   go_wp2
   refine bodyPost_ret (v:= .tuple #[.agg #[.int .i64 0, .slice none 0 0, .slice none 0 0], .int .i64 1]) (by simp[results,Tryz.results241,go_sem,s0,s1,s2]) rfl ?_
   exact eY.err hne (((hT2.below.setCell (p:=⟨w.heap.size+2,0,none⟩) (zA) _).setCell (p:=⟨w.heap.size+2,1,none⟩) (zA) _).setCell (p:=⟨w.heap.size+2,2,none⟩) (zA) _)
  |true=>
   have hE2:Hid (fN vid rn rs sn ss r=if anyAt rn (JM rs r.a r.l)=true then 6 else if rn=4 then 2 else 0):=hE1.out.trans (if_neg (by simp[hrg]))
   go_wp2_with fail
   refine(gK r true hrg w1).mono ?_
   rintro e w2 ⟨rfl,hbw2⟩
   have hT2:=hT1.later hbw2
   clear b0 b1 b2 p0 p1 p2 s0 s1 s2 zs0 zs1 zs2
   obtain⟨b0,b1,b2⟩:=bZ hT2.hb rfl rfl rfl
   obtain⟨p0,p1,p2⟩:=bZ hT2.hp rfl rfl rfl
   obtain⟨s0,s1,s2⟩:=bZ hT2.hs rfl rfl rfl
   obtain⟨zs0,zs1,zs2⟩:=fB hT2.hs
   have hmt:=nQ r.a r.l rx rn rc rs w2 (hv.later hT2.below).ranges (by omega)
   cases hany:anyAt rn (JM rs r.a r.l)with
   |true=>
    rw[hany]at hmt
    have hne:fN vid rn rs sn ss r=6/\(6:Int)≠0:=⟨hE2.out.trans (if_pos hany),by decide⟩
    go_wp2_with fail
    refine(hmt).mono ?_
    rintro e w3 ⟨rfl,hbw3⟩
    have hT3:=hT2.later hbw3
    clear b0 b1 b2 p0 p1 p2 s0 s1 s2 zs0 zs1 zs2
    obtain⟨b0,b1,b2⟩:=bZ hT3.hb rfl rfl rfl
    obtain⟨p0,p1,p2⟩:=bZ hT3.hp rfl rfl rfl
    obtain⟨s0,s1,s2⟩:=bZ hT3.hs rfl rfl rfl
    obtain⟨zs0,zs1,zs2⟩:=fB hT3.hs
    go_wp2
    refine bodyPost_ret (v:= .tuple #[.agg #[.int .i64 0, .slice none 0 0, .slice none 0 0], .int .i64 6]) (by simp[results,Tryz.results241,go_sem,s0,s1,s2]) rfl ?_
    exact eY.err hne (((hT3.below.setCell (p:=⟨w.heap.size+2,0,none⟩) (zA) _).setCell (p:=⟨w.heap.size+2,1,none⟩) (zA) _).setCell (p:=⟨w.heap.size+2,2,none⟩) (zA) _)
   |false=>
    rw[hany]at hmt
    have hE3:Hid (fN vid rn rs sn ss r=if rn=4 then 2 else 0):=hE2.out.trans (if_neg (by simp[hany]))
    by_cases h4:rn=4
    ·subst h4;have hne:fN vid 4 rs sn ss r=2/\(2:Int)≠0:=⟨hE3.out.trans (if_pos rfl),by decide⟩;go_wp2_with fail;refine(hmt).mono ?_;rintro e w3 ⟨rfl,hbw3⟩;have hT3:=hT2.later hbw3;clear b0 b1 b2 p0 p1 p2 s0 s1 s2 zs0 zs1 zs2;obtain⟨b0,b1,b2⟩:=bZ hT3.hb rfl rfl rfl;obtain⟨p0,p1,p2⟩:=bZ hT3.hp rfl rfl rfl;obtain⟨s0,s1,s2⟩:=bZ hT3.hs rfl rfl rfl;obtain⟨zs0,zs1,zs2⟩:=fB hT3.hs;go_wp2;refine bodyPost_ret (v:= .tuple #[.agg #[.int .i64 0, .slice none 0 0, .slice none 0 0], .int .i64 2]) (by simp[results,Tryz.results241,go_sem,s0,s1,s2]) rfl ?_;exact eY.err hne (((hT3.below.setCell (p:=⟨w.heap.size+2,0,none⟩) (zA) _).setCell (p:=⟨w.heap.size+2,1,none⟩) (zA) _).setCell (p:=⟨w.heap.size+2,2,none⟩) (zA) _)
    ·have hE0:Hid (fN vid rn rs sn ss r=0):=hE3.out.trans (if_neg h4);have hv3:=fun W (hW:Below w.heap.size w W)=>fM vid rx rn rc rs sx sn sc ss W (hv.later hW) (by omega) (by omega) (fun i hi=>by have:=f3 i hi;omega) (fun i hi j hj=>by have:=f4 i hi j hj;omega);go_wp2_with fail;refine(hmt).mono ?_;rintro e w3 ⟨rfl,hbw3⟩;have hT3:=hT2.later hbw3;clear b0 b1 b2 p0 p1 p2 s0 s1 s2 zs0 zs1 zs2;obtain⟨b0,b1,b2⟩:=bZ hT3.hb rfl rfl rfl;obtain⟨p0,p1,p2⟩:=bZ hT3.hp rfl rfl rfl;obtain⟨s0,s1,s2⟩:=bZ hT3.hs rfl rfl rfl;obtain⟨zs0,zs1,zs2⟩:=fB hT3.hs;go_wp2_with fail;refine(hv3 _ hT3.below).mono ?_;rintro e w4 ⟨vR,vS,ts,rfl,hOR,hss,hOS,hb4⟩;have hT4:=hT3.later hb4;obtain⟨xr,cr,rfl,hr1,hr2,hr3⟩:=hOR.rs;obtain⟨xt,ct,rfl, -⟩:=hOS.subs;have hxr:(xr=none/\cr=0)\/∃b o,xr=some ⟨b,o,none⟩:=by
      rcases hOR.2 with ⟨hv', -⟩|⟨g2,cap2,cur2,hv', -⟩
      ·simp only[Value.slice.injEq]at hv';exact .inl ⟨hv'.1,hv'.2.2⟩
      ·simp only[Value.slice.injEq]at hv';exact .inr ⟨_,_,hv'.1⟩
     clear b0 b1 b2 p0 p1 p2 s0 s1 s2 zs0 zs1 zs2;go_upto_region 12 with fail
     obtain⟨w5,hw5⟩:∃w5,w5=w4.alloc (eH vid (.slice xr rs.length cr) (.slice xt ts.length ct)):=⟨_,rfl⟩;rw[<-hw5];have hb45:Below w4.heap.size w4 w5:=by rw[hw5];exact bl1 _ _
     have hn5:w5.heap[w4.heap.size]?=some (eH vid (.slice xr rs.length cr) (.slice xt ts.length ct)):=by rw[hw5];exact aB _ rfl
     clear hw5;have hT5:=hT4.later hb45;have n1:=aO hn5 1 rfl;have n1':∀o,(w5.alloc o).cell? ⟨w4.heap.size,1,none⟩=some (.slice xr rs.length cr):=fun o=>aF (bl1 w5 o) n1;obtain⟨p0,p1,p2⟩:=bZ hT5.hp rfl rfl rfl;have p0':∀o,(w5.alloc o).cell? ⟨w.heap.size+1,0,none⟩=some (.int .i64 r.a):=fun o=>aF (bl1 w5 o) p0;have p1':∀o,(w5.alloc o).cell? ⟨w.heap.size+1,1,none⟩=some (.int .i64 r.l):=fun o=>aF (bl1 w5 o) p1;have p2':∀o,(w5.alloc o).cell? ⟨w.heap.size+1,2,none⟩=some (.int .i64 r.p):=fun o=>aF (bl1 w5 o) p2;have hput:=fun W (hW:Below w5.heap.size w5 W) hby=>RK r xr rs.length cr rs w5.heap.size 1 W ((hr1.later hb45).later hW) (by rw[hrl.out];omega) hr2 hr3 hxr hby;go_wp2_with fail;refine(hput _ (bl1 w5 _) (by simp)).mono ?_;rintro e w6 ⟨v6,rfl,hb6,i,hi,hlow,hup,hO6⟩;obtain⟨qs,hqs⟩:∃qs,Hid (qs=rs.take i++[r]++rs.drop i):=⟨_,rfl⟩;rw[<-hqs.out]at hO6;obtain⟨x6,c6,rfl, -⟩:=hO6.mem;have hb56:Below w5.heap.size w5 w6:=(bl1 w5 _).trans (hb6.mono (by simp));have hT6:=hT5.later hb56;have hn6:=aA hb56 hn5;have hOS6:=kN.later (kN.later hOS hb45) hb56;clear n1 n1' p0 p1 p2 p0' p1' p2';have hsz3:w.heap.size+2<w3.heap.size:=(zG hT3.hs);have hz4:w.heap.size+2<w4.heap.size:=Nat.lt_of_lt_of_le hsz3 hb4.size;have hz5:w.heap.size+2<w5.heap.size:=Nat.lt_of_lt_of_le hz4 hb45.size;have m0:=aO hn6 0 rfl;have m1:=aO hn6 1 rfl;have m2:=aO hn6 2 rfl;have zm:=(aD hn6).2 1;obtain⟨s0,s1,s2⟩:=bZ hT6.hs rfl rfl rfl;obtain⟨zs0,zs1,zs2⟩:=fB hT6.hs;have ne1:¬w4.heap.size=w.heap.size+2:=by omega
     have ne2:¬w.heap.size+2=w4.heap.size:=by omega
     go_wp2;refine bodyPost_ret (v:= .tuple #[.agg #[.int .i64 vid, .slice x6 qs.length c6, .slice xt ts.length ct], .int .i64 0]) (by simp[results,Tryz.results241,go_sem,s0,s1,s2]) rfl ?_;have hfin:=(((hT6.below.setCell (p:=⟨w4.heap.size,1,none⟩) (by show w.heap.size<=w4.heap.size;omega) (.slice x6 qs.length c6)).setCell (p:=⟨w.heap.size+2,0,none⟩) (zA) (.int .i64 vid)).setCell (p:=⟨w.heap.size+2,1,none⟩) (zA) (.slice x6 qs.length c6)).setCell (p:=⟨w.heap.size+2,2,none⟩) (zA) (.slice xt ts.length ct);have hos:=(((hOS6.putBox (o:=1) (u:= .slice x6 qs.length c6) hn6 (by decide) (by decide) (by decide)).put (o:=0) (u:= .int .i64 vid) hsz3).put (o:=1) (u:= .slice x6 qs.length c6) hsz3).put (o:=2) (u:= .slice xt ts.length ct) hsz3;have hor:=((((hO6.low (base':=w5.heap.size) (by simp)).putBox (o:=1) (u:= .slice x6 qs.length c6) hn6 (by decide)).put (o:=0) (u:= .int .i64 vid) hz5).put (o:=1) (u:= .slice x6 qs.length c6) hz5).put (o:=2) (u:= .slice xt ts.length ct) hz5;exact⟨_,by rw[hE0.out],hfin,fun h=>absurd hE0.out h,fun _=>⟨⟨vid,x6,qs.length,c6,qs,xt,ts.length,ct,ts⟩,rfl,⟨hor.low (by omega),hos.low (by omega)⟩,rfl,⟨i,hi,fun j hj=>by have:=hlow j hj;omega,hup,hqs.out⟩,hss⟩⟩
 ·have hne:fN vid rn rs sn ss r=bN vid rn rs sn ss/\bN vid rn rs sn ss≠0:=⟨if_pos hc0,hc0⟩;go_wp2_with fail;refine(hck).mono ?_;rintro e w1 ⟨rfl,hbw1⟩;have hT1:=hT0.later hbw1;clear b0 b1 b2 p0 p1 p2 s0 s1 s2 zs0 zs1 zs2;obtain⟨b0,b1,b2⟩:=bZ hT1.hb rfl rfl rfl;obtain⟨p0,p1,p2⟩:=bZ hT1.hp rfl rfl rfl;obtain⟨s0,s1,s2⟩:=bZ hT1.hs rfl rfl rfl;obtain⟨zs0,zs1,zs2⟩:=fB hT1.hs;go_wp2;refine bodyPost_ret (v:= .tuple #[.agg #[.int .i64 0, .slice none 0 0, .slice none 0 0], .int .i64 (bN vid rn rs sn ss)]) (by simp[results,Tryz.results241,go_sem,s0,s1,s2]) rfl ?_;exact eY.err hne (((hT1.below.setCell (p:=⟨w.heap.size+2,0,none⟩) (zA) _).setCell (p:=⟨w.heap.size+2,1,none⟩) (zA) _).setCell (p:=⟨w.heap.size+2,2,none⟩) (zA) _)
def posRg(r:Rg)(rs:List Rg):Nat:=((List.range rs.length).find? fun i=>decide (r.a<(rgAt rs i).a)).getD rs.length
def sK(r:Rg)(rs:List Rg):List Rg:=rs.take (posRg r rs)++[r]++rs.drop (posRg r rs)
theorem OG(h:X8 r rs rs'):rs'=sK r rs:=by
 obtain⟨i,hi,hlo,hup,rfl⟩:=h;have:posRg r rs=i:=by
  unfold posRg;by_cases h:i<rs.length
  ·have:(List.range rs.length).find? (fun i=>decide (r.a<(rgAt rs i).a))=some i:=by
    rw[List.find?_range_eq_some];exact⟨by simpa using hup h,by simpa using h,fun j hj=>by simpa using hlo j hj⟩
   rw[this];rfl
  ·obtain rfl:i=rs.length:=by omega
   have:(List.range rs.length).find? (fun i=>decide (r.a<(rgAt rs i).a))=none:=by
    rw[List.find?_eq_none];intro j hj;have:=hlo j (by simpa using hj);simpa using this
   rw[this];rfl
 unfold sK;rw[this]
theorem OH:(sK r rs).length=rs.length+1:=by
 have h1:rs.length=(rs.take (posRg r rs)).length+(rs.drop (posRg r rs)).length:=by
  rw[<-List.length_append,List.take_append_drop]
 unfold sK;rw[List.length_append,List.length_append,List.length_singleton];omega
def LN(v:Vn)(rs:List Rg):Vn:=⟨v.id,v.rx,rs.length,v.rc,rs,v.sx,v.sn,v.sc,v.ss⟩
def dY(vs:List Vn)(i:Nat)(r:Rg):List Vn:=vs.set i (LN (vnAt vs i) (sK r (vnAt vs i).rs))
def jO(n:Nat)(vs:List Vn)(ln:Nat)(ls:List (Int×Int))(id:Int)(r:Rg):Int:=
 if bQ n vs ln ls=0 then(if aM n vs id<0 then 5 else if fN (vnAt vs (aM n vs id).toNat).id (vnAt vs (aM n vs id).toNat).rn (vnAt vs (aM n vs id).toNat).rs (vnAt vs (aM n vs id).toNat).sn (vnAt vs (aM n vs id).toNat).ss r=0 then(if tS ls n (dY vs (aM n vs id).toNat r)=false then 9 else 0)else fN (vnAt vs (aM n vs id).toNat).id (vnAt vs (aM n vs id).toNat).rn (vnAt vs (aM n vs id).toNat).rs (vnAt vs (aM n vs id).toNat).sn (vnAt vs (aM n vs id).toNat).ss r)else bQ n vs ln ls
def uC(n:Nat)(vs:List Vn)(ls:List (Int×Int))(id:Int)(r:Rg)(us:List Vn)(ms:List (Int×Int)):Prop:=cQ (dY vs (aM n vs id).toNat r) us/\ms=ls
theorem vplace_cases(n:Nat)(vs:List Vn)(id:Int):(∃i:Nat,i<n/\(vnAt vs i).id=id/\aM n vs id=i)\/aM n vs id= -1:=by
 unfold aM
 cases h:(List.range n).find? (fun i=>(vnAt vs i).id==id)with
 |none=>exact .inr rfl
 |some i=>
  obtain⟨h1,h2, -⟩:=List.find?_range_eq_some.1 h
  exact .inl ⟨i,by simpa using h2,by simpa using h1,rfl⟩
structure TQ(w W:World)(x:Option Addr)(n c:Nat)(lx:Option Addr)(ln lc:Nat)(r:Rg):Prop where
 hb:W.heap[w.heap.size]?=some (jR x n c lx ln lc)
 hp:W.heap[w.heap.size+1]?=some (.cells #[.int .i64 r.a, .int .i64 r.l, .int .i64 r.p] 59)
 hs:W.heap[w.heap.size+2]?=some (eG (.slice none 0 0) (.slice none 0 0))
 below:Below w.heap.size w W
theorem TQ.later(h:TQ w W x n c lx ln lc r)(hb:Below W.heap.size W W'):TQ w W' x n c lx ln lc r:=
 ⟨aA hb h.hb,aA hb h.hp,aA hb h.hs,h.below.trans (hb.mono h.below.size)⟩
theorem SU{vs:List Vn}:bF (dY vs i r)=bF vs:=by
 unfold dY bF;refine List.ext_getElem (by simp) fun j h1 h2=>?_;have hj:j<vs.length:=by simpa using h2
 rw[List.getElem_map,List.getElem_map,List.getElem_set];split
 ·rename_i e;subst e;rw[<-dW hj];rfl
 ·rfl
theorem LO{v:Vn}(hl:v.ss.length=v.sn)(he:fN v.id v.rn v.rs v.sn v.ss r=eg)(h:eY v.id v.rn v.rs v.sn v.ss r w e w'):
  ∃u:Vn,e= .returned (.tuple #[vnW u, .int .i64 eg])/\Below w.heap.size w w'/\(eg=0->oB w' w.heap.size u/\oC (LN v (sK r v.rs)) u):=by
 obtain⟨V,h1,h2,h3,h4⟩:=h;rw[he]at h1 h3 h4;by_cases h0:eg=0
 ·obtain⟨u,rfl,hu,hid,hpr,hss⟩:=h4 h0;refine⟨u,h1,h2,fun _=>⟨hu,?_⟩⟩;have hrs:=OG hpr;obtain⟨x1,c1,e1, -⟩:=hu.1.rs;obtain⟨x2,c2,e2, -⟩:=hu.2.subs;simp only[Value.slice.injEq]at e1 e2;refine⟨hid.symm,?_,hrs.symm,?_,hss⟩
  ·rw[e1.2.1,hrs];rfl
  ·show v.sn=u.sn;rw[e2.2.1,<-hl];exact hss.1
 ·refine⟨UM,?_,h2,fun h=>absurd h h0⟩;rw[h1,h3 h0];rfl
theorem cQ.grow{vs:List Vn}{u:Vn}(h:cQ vs us)(hi:i<vs.length)(hu:oC (LN (vnAt vs i) (sK r (vnAt vs i).rs)) u):cQ (dY vs i r) (us.set i u):=by
 unfold dY;refine⟨by rw[List.length_set,List.length_set];exact h.1,fun j hj=>?_⟩;rw[List.length_set]at hj;rw[eB hi,eB (by rw[<-h.1];exact hi)];by_cases e:i=j
 ·rw[if_pos e,if_pos e];exact hu
 ·rw[if_neg e,if_neg e];exact h.2 j hj
theorem OI(x:Option Addr)(n c:Nat)(vs:List Vn)(lx:Option Addr)(ln lc:Nat)(ls:List (Int×Int))(id:Int)(r:Rg)(w:World)(hp:VS w x n vs)(hn:n<=9223372036854775807)(hnc:n<=c)(hl:PS w lx ln ls)(hln:ln<=9223372036854775807):
  Calls Tryz.prog 196 #[.agg #[.slice x n c, .slice lx ln lc], .int .i64 id, .agg #[.int .i64 r.a, .int .i64 r.l, .int .i64 r.p]] w (dM (jO n vs ln ls id r) (uC n vs ls id r) w):=by
 have hvl:Hid (vs.length=n):=hp.len;have hll:Hid (ls.length=ln):=hl.len;obtain⟨E,hEE⟩:∃E,E=jO n vs ln ls id r:=⟨_,rfl⟩;rw[<-hEE];unfold jO at hEE;replace hEE:=Hid.mk' hEE;go_enter Tryz.func196,Tryz.ntmps196;go_upto_region 1 with fail
 obtain⟨w0,hw0⟩:∃w0,w0=((w.alloc (jR x n c lx ln lc)).alloc (.cells #[.int .i64 r.a, .int .i64 r.l, .int .i64 r.p] 59)).alloc (eG (.slice none 0 0) (.slice none 0 0)):=⟨_,rfl⟩;rw[<-hw0];have hT0:TQ w w0 x n c lx ln lc r:=by
  rw[hw0];exact⟨aH _ (aH _ (aB _ rfl)),aH _ (aB _ (by simp)),aB _ (by simp),(bP w _ _).trans ((bl1 _ _).mono (by simp;omega))⟩
 clear hw0;obtain⟨k0,k1⟩:=aZ hT0.hb rfl rfl;obtain⟨ks0,ks1⟩:=aZ hT0.hs rfl rfl;obtain⟨kz0,kz1⟩:=eA hT0.hs;by_cases hc0:bQ n vs ln ls=0
 ·have hck:=iS x n c vs lx ln lc ls 0 hc0 w0 (hp.later hT0.below) hn hnc (hl.later hT0.below) hln;obtain⟨h6,h12,hfew⟩:=uA hc0;rw[if_pos hc0]at hEE;obtain⟨-, -,hvb,hlb, -⟩:=oS hc0;have hvf:=rY hvb;have hlk0:=tU hvl.out hlb;have hr4:∀i,i<n->(vnAt vs i).rs.length<=4:=fun i hi=>by
   rw[(hp.vps i hi).2.2.2.ranges.len];exact(jK (G4 hvb i hi)).1
  clear hc0 hvb hlb;go_wp2_with fail;refine hck.mono ?_;rintro e w1 ⟨rfl,hb⟩;have hT1:=hT0.later hb;clear k0 k1 ks0 ks1 kz0 kz1;obtain⟨k0,k1⟩:=aZ hT1.hb rfl rfl;obtain⟨ks0,ks1⟩:=aZ hT1.hs rfl rfl;obtain⟨kz0,kz1⟩:=eA hT1.hs;clear hck;obtain⟨t,ht⟩:∃t,aM n vs id=t:=⟨_,rfl⟩;have hpl:=rW id x n c vs lx ln lc t ht w1 (hp.later hT1.below) (by omega);have hvc:=vplace_cases n vs id;have hRt:Hid (∀us ms,cQ (dY vs t.toNat r) us->ms=ls->uC n vs ls id r us ms):=fun us ms h1 h2=>⟨by rw[ht];exact h1,h2⟩;rw[ht]at hEE hvc;clear ht;rcases hvc with ⟨i,hi, -,hti⟩|hti
  ·subst hti;have hi0:¬((i:Int)<0):=by omega
   rw[if_neg hi0,Int.toNat_natCast]at hEE;rw[Int.toNat_natCast]at hRt;go_wp2_with fail;refine hpl.mono ?_;rintro e w2 ⟨rfl,hb⟩;have hT2:=hT1.later hb;clear k0 k1 ks0 ks1 kz0 kz1;obtain⟨k0,k1⟩:=aZ hT2.hb rfl rfl;obtain⟨ks0,ks1⟩:=aZ hT2.hs rfl rfl;obtain⟨kz0,kz1⟩:=eA hT2.hs;clear hpl;have hi':Hid (i<n):=hi;have hvp:=(hp.later hT2.below).vps i hi;have hgr:=fun W (hW:Below w2.heap.size w2 W)=>J8 (vnAt vs i).id (vnAt vs i).rx (vnAt vs i).rn (vnAt vs i).rc (vnAt vs i).rs (vnAt vs i).sx (vnAt vs i).sn (vnAt vs i).sc (vnAt vs i).ss r W (hvp.2.2.2.later hW) hvp.1 hvp.2.1 hvp.2.2.1;have hsl:Hid ((vnAt vs i).ss.length=(vnAt vs i).sn):=hvp.2.2.2.subs.len;obtain⟨bx,ox,hxo,d0,d1,d2⟩:=(hp.later hT2.below).cells i hi;subst hxo;have hi1:(i:Int)<n:=by omega
   have hi2:(0:Int)<=i:=by omega
   have a0:=Ws.here k0;have a1:=Ws.here d0;have a2:=Ws.here d1;have a3:=Ws.here d2;have a4:=Ws.here (aO hT2.hp 0 rfl);have a5:=Ws.here (aO hT2.hp 1 rfl);have a6:=Ws.here (aO hT2.hp 2 rfl);go_upto_region 7 with fail
   clear d0 d1 d2;obtain⟨eg,heg⟩:∃eg,fN (vnAt vs i).id (vnAt vs i).rn (vnAt vs i).rs (vnAt vs i).sn (vnAt vs i).ss r=eg:=⟨_,rfl⟩;rw[heg]at hEE;go_cut [10,11] (fun p v wd=>v= .int .i64 eg/\∃bp u,p= .pointer (some ⟨bp,0,none⟩)/\w2.heap.size<=bp/\Below w2.heap.size w2 wd/\wd.heap[bp]?=some (D8 u)/\(eg=0->oB wd w2.heap.size u/\oC (LN (vnAt vs i) (sK r (vnAt vs i).rs)) u))
   case first=>
    clear k0 k1 ks0 ks1 kz0 kz1
    have hbd:Below w2.heap.size w2 w2.drew:=(zD).drew
    refine bG (fun w'=>∃u:Ws w2.heap.size w2,w'=u.val) (fun j=>decide (j<12)) 13 _ (by kernel_rfl) rfl rfl ?_
    refine bE 7 [0,1,2,3,4,5] rfl _ rfl (by kernel_rfl) (fun d _ _ _ _ h=>by cases d<;>exact h) ⟨⟨_,hbd⟩,rfl⟩ ?_
    simp only[zK,zM,zI,zJ]
    repeat(go_big_quiet_step (fail))
    refine wpQuiet_nil ?_
    clear a0 a1 a2 a3 a4 a5 a6
    refine iD 6 10 _ _ _ _ (by kernel_rfl) (by kernel_rfl) rfl rfl rfl rfl ?_ ?_
    ·intro K hK;simp only[zI,zJ];go_wp2_with fail;refine(hgr w2.drew hbd).mono ?_;rintro e w3 hpo;obtain⟨u,rfl,hb3,hu⟩:=LO hsl.out heg hpo;have hB3:Below w2.heap.size w2 w3:=⟨hb3.os,hb3.tape,hb3.output,hb3.size,hb3.block⟩;go_wp2_with fail;refine aC (hK.out _ _ ⟨⟨_,hB3⟩,rfl⟩ ?_);clear hK K;refine bE 3 [7,8,9] rfl _ rfl (by kernel_rfl) (fun d _ _ _ _ h=>by cases d<;>exact h) ⟨⟨_,hB3⟩,rfl⟩ ?_;simp only[zK,zM,zI,zJ];repeat(go_big_quiet_step (fail))
     refine wpQuiet_nil ?_;refine aY 10 _ _ (by kernel_rfl) (by kernel_rfl) rfl rfl ?_;intro K hK;simp only[zI,zJ];go_wp2_with fail;have hB4:Below w2.heap.size w2 (w3.alloc (eH 0 (.slice none 0 0) (.slice none 0 0))):=hB3.trans ((bl1 w3 _).mono hB3.size);refine aC (hK.out _ _ ⟨⟨_,hB4⟩,rfl⟩ ?_);clear hK K;obtain⟨w4,hw4⟩:∃w4,w4=w3.alloc (eH 0 (.slice none 0 0) (.slice none 0 0)):=⟨_,rfl⟩;rw[<-hw4]at hB4⊢;have h34:Below w3.heap.size w3 w4:=by rw[hw4];exact bl1 w3 _
     have hy:w4.heap[w3.heap.size]?=some (eH 0 (.slice none 0 0) (.slice none 0 0)):=by rw[hw4];exact aB _ rfl
     clear hw4;have hnb:w2.heap.size<=w3.heap.size:=hB3.size;have hu4:=fun h=>((hu h).1.low (base':=w2.heap.size) (zE)).later h34;have hsu:=fun h=>(hu h).2;obtain⟨bp,hbp⟩:∃bp,bp=w3.heap.size:=⟨_,rfl⟩;rw[<-hbp]at hy hnb⊢;clear hbp;obtain⟨q0,q1,q2⟩:=bZ hy rfl rfl rfl;obtain⟨f0,f1,f2⟩:=fB hy;refine aY 11 _ _ (by kernel_rfl) (by kernel_rfl) rfl rfl ?_;intro K hK;simp only[zI,zJ];go_wp2_with fail;have hB5:Below w2.heap.size w2 (((w4.setCell ⟨bp,0,none⟩ (.int .i64 u.id)).setCell ⟨bp,1,none⟩ (.slice u.rx u.rn u.rc)).setCell ⟨bp,2,none⟩ (.slice u.sx u.sn u.sc)):=((hB4.setCell (p:=⟨bp,0,none⟩) hnb _).setCell (p:=⟨bp,1,none⟩) hnb _).setCell (p:=⟨bp,2,none⟩) hnb _;refine aC (hK.out _ _ ⟨⟨_,hB5⟩,rfl⟩ ?_);clear hK K q0 q1 q2 f0 f1 f2;refine bB [12] rfl (by kernel_rfl) ?_;simp only[zK,zM,zI,zJ];go_wp2_with fail;go_meet
     case rel=>exact⟨rfl,bp,u,rfl,hnb,hB5,EB hy,fun h=>⟨(((hu4 h).putBox (o:=0) (u:= .int .i64 u.id) hy (by decide) (by decide) (by decide) (by decide)).putBox (o:=1) (u:= .slice u.rx u.rn u.rc) (heap_setCell_same w4 bp 0 _ _ _ hy) (by decide) (by decide) (by decide) (by decide)).putBox (o:=2) (u:= .slice u.sx u.sn u.sc) (heap_setCell_same _ bp 1 _ _ _ (heap_setCell_same w4 bp 0 _ _ _ hy)) (by decide) (by decide) (by decide) (by decide),hsu h⟩⟩
    ·intro K hK;simp only[zI,zJ];go_wp2_with fail;have hB3:Below w2.heap.size w2 (w2.alloc (eH 0 (.slice none 0 0) (.slice none 0 0))).drew:=(bl1 w2 _).drew;refine aC (hK.out _ _ ⟨⟨_,hB3⟩,rfl⟩ ?_);clear hK K;have hy0:((w2.alloc (eH 0 (.slice none 0 0) (.slice none 0 0))).drew).heap[w2.heap.size]?=some (eH 0 (.slice none 0 0) (.slice none 0 0)):=aB (W:=w2) _ rfl;refine aY 6 _ _ (by kernel_rfl) (by kernel_rfl) rfl rfl ?_;intro K hK;simp only[zI,zJ];go_wp2_with fail;refine(hgr _ hB3).mono ?_;rintro e w4 hpo;obtain⟨u,rfl,hb3,hu⟩:=LO hsl.out heg hpo;have hB4:Below w2.heap.size w2 w4:=hB3.trans (hb3.mono hB3.size);go_wp2_with fail;refine aC (hK.out _ _ ⟨⟨_,hB4⟩,rfl⟩ ?_);clear hK K;refine bE 2 [7,8,9] rfl _ rfl (by kernel_rfl) (fun d _ _ _ _ h=>by cases d<;>exact h) ⟨⟨_,hB4⟩,rfl⟩ ?_;simp only[zK,zM,zI,zJ];repeat(go_big_quiet_step (fail))
     refine wpQuiet_nil ?_;have hy:=aA hb3 hy0;have hnb:w2.heap.size<=w2.heap.size:=zE;have hu4:=fun h=>(hu h).1.low (base':=w2.heap.size) hB3.size;have hsu:=fun h=>(hu h).2;obtain⟨q0,q1,q2⟩:=bZ hy rfl rfl rfl;obtain⟨f0,f1,f2⟩:=fB hy;refine aY 11 _ _ (by kernel_rfl) (by kernel_rfl) rfl rfl ?_;intro K hK;simp only[zI,zJ];go_wp2_with fail;have hB5:Below w2.heap.size w2 (((w4.setCell ⟨w2.heap.size,0,none⟩ (.int .i64 u.id)).setCell ⟨w2.heap.size,1,none⟩ (.slice u.rx u.rn u.rc)).setCell ⟨w2.heap.size,2,none⟩ (.slice u.sx u.sn u.sc)):=((hB4.setCell (p:=⟨w2.heap.size,0,none⟩) hnb _).setCell (p:=⟨w2.heap.size,1,none⟩) hnb _).setCell (p:=⟨w2.heap.size,2,none⟩) hnb _;refine aC (hK.out _ _ ⟨⟨_,hB5⟩,rfl⟩ ?_);clear hK K q0 q1 q2 f0 f1 f2;refine bB [12] rfl (by kernel_rfl) ?_;simp only[zK,zM,zI,zJ];go_wp2_with fail;go_meet
     case rel=>exact⟨rfl,w2.heap.size,u,rfl,hnb,hB5,EB hy,fun h=>⟨(((hu4 h).putBox (o:=0) (u:= .int .i64 u.id) hy (by decide) (by decide) (by decide) (by decide)).putBox (o:=1) (u:= .slice u.rx u.rn u.rc) (heap_setCell_same w4 w2.heap.size 0 _ _ _ hy) (by decide) (by decide) (by decide) (by decide)).putBox (o:=2) (u:= .slice u.sx u.sn u.sc) (heap_setCell_same _ w2.heap.size 1 _ _ _ (heap_setCell_same w4 w2.heap.size 0 _ _ _ hy)) (by decide) (by decide) (by decide) (by decide),hsu h⟩⟩
   case rest=>
    obtain⟨rfl,bp,u,rfl,hnb,hBc,hbp,hu⟩:=hcut
    have hTc:=hT2.later hBc
    clear k0 k1 ks0 ks1 kz0 kz1
    clear a0 a1 a2 a3 a4 a5 a6 hgr
    obtain⟨k0,k1⟩:=aZ hTc.hb rfl rfl
    obtain⟨ks0,ks1⟩:=aZ hTc.hs rfl rfl
    obtain⟨kz0,kz1⟩:=eA hTc.hs
    by_cases heg0:eg=0
    ·rw[if_pos heg0]at hEE;obtain⟨hVu,hsu⟩:=hu heg0;have hne:(eg !=0)=false:=by simp[heg0]
     have hEH:Hid (E=if tS ls n (dY vs i r)=false then 9 else 0):=hEE.out;have hru:Hid (u.rn<=64):=by
      show _<=_;rw[<-hsu.2.1];have h1:=hr4 i hi'.out;show(sK r (vnAt vs i).rs).length<=64;rw[OH];omega
     have hfn:=iJ (some ⟨bx,ox,none⟩) n c vs lx ln lc ls wc (hp.later hTc.below) (by omega) (hl.later hTc.below) (by omega) hfew;clear hEE heg0 hu heg;go_wp2_with fail;refine hfn.mono ?_;rintro e w4 ⟨vV,vK,us,rfl,hsv,hOV,hVo,hOK,hb4⟩;have hT4:=hTc.later hb4;clear hfn hne;have hul:Hid (us.length=n):=by show _=_;rw[<-hsv.1];exact hvl.out
     have hiu:i<us.length:=by rw[hul.out];exact hi'.out
     obtain⟨g,C,hvV⟩:=hOV.held (by omega);obtain⟨Y,D,hvK,hYm⟩:=hOK.mem;subst hvV;subst hvK;have hw3s:Hid (w.heap.size+2<wc.heap.size):=(zG hTc.hs);have hbp4:=aA hb4 hbp;clear k0 k1 ks0 ks1 kz0 kz1;go_upto_region 11 with fail
     obtain⟨w5,hw5⟩:∃w5,w5=w4.alloc (eG (.slice (some ⟨g,0,none⟩) us.length C) (.slice Y ls.length D)):=⟨_,rfl⟩;rw[<-hw5];have hb5:Below w4.heap.size w4 w5:=by rw[hw5];exact bl1 w4 _
     have hbx5:w5.heap[w4.heap.size]?=some (eG (.slice (some ⟨g,0,none⟩) us.length C) (.slice Y ls.length D)):=by rw[hw5];exact aB _ rfl
     clear hw5;have hT5:=hT4.later hb5;have hbp5:=aA hb5 hbp4;have hOV5:=hOV.later hb5;obtain⟨hgb,cur,hcur⟩:=hOV5.block;obtain⟨y0,y1,y2⟩:=hOV5.cells i hiu;have z0:=hOV5.frozen (i*3);have z1:=hOV5.frozen (i*3+1);have z2:=hOV5.frozen (i*3+2);have m0:=aO hbx5 0 rfl;obtain⟨u0,u1,u2⟩:=bZ hbp5 rfl rfl rfl;have hi3:(i:Int)<us.length:=by omega
     have hOVs:=hOV5.setE i hiu u;have hVos:∀j,j<us.length->oB (iI w5 g i u) w2.heap.size (vnAt (us.set i u) j):=fun j hj=>by
      rw[eB hiu];split
      ·exact(((hVu.later hb4).later hb5)).setN hOV5
      ·exact((((hVo j hj).later hb5)).setN hOV5).low hBc.size
     have hOKs:cJ (iI w5 g i u) wc.heap.size (.slice Y ls.length D) ls:=(hOK.later hb5).setN hOV5;have hne4:w4.heap.size≠g:=fun e=>by rw[<-e,hbx5]at hcur;simp at hcur
     have hbxs:(iI w5 g i u).heap[w4.heap.size]?=some (eG (.slice (some ⟨g,0,none⟩) us.length C) (.slice Y ls.length D)):=(fO hne4).trans hbx5;have hg0:w.heap.size≠g:=by have:=hw3s.out;omega
     have hg1:w.heap.size+1≠g:=by have:=hw3s.out;omega
     have hg2:w.heap.size+2≠g:=by have:=hw3s.out;omega
     have hTs:TQ w (iI w5 g i u) (some ⟨bx,ox,none⟩) n c lx ln lc r:=⟨(fO hg0).trans hT5.hb,(fO hg1).trans hT5.hp,(fO hg2).trans hT5.hs,mH hT5.below (by have:=hw3s.out;omega)⟩;go_upto_region 12 with fail
     obtain⟨w6,hw6⟩:∃w6,w6=iI w5 g i u:=⟨_,rfl⟩;rw[<-hw6]at hOVs hVos hOKs hbxs hTs;unfold iI at hw6;rw[<-hw6];clear hw6 y0 y1 y2 z0 z1 z2 m0 u0 u1 u2 hOV5 hOV hVo hOK hbx5 hT5 hbp5 hbp4 hi3;have hsg:Hid (cQ (dY vs i r) (us.set i u)):=hsv.grow (by rw[hvl.out];exact hi'.out) hsu;obtain⟨us',hus'⟩:∃us',Hid (us'=us.set i u):=⟨_,rfl⟩;have hul':Hid (us'.length=us.length):=by show _=_;rw[hus'.out,List.length_set]
     rw[<-hus'.out]at hOVs hVos hsg;have hVk:∀v∈us',mI w6 v:=fun v hv=>by
      obtain⟨j,hj,rfl⟩:=eM hv;exact mI.of (hVos j (by rw[<-hul'.out];exact hj))
     obtain⟨X',C',hv',hVS6,hXC', -, -⟩:=hOVs.vs hVk;rw[hul'.out]at hv' hVS6 hXC';simp only[Value.slice.injEq]at hv';obtain⟨hX', -,hC'⟩:=hv';subst hX';subst hC';obtain⟨Y',D',hk',hPS6, -⟩:=hOKs.ps;simp only[Value.slice.injEq]at hk';obtain⟨rfl, -,rfl⟩:=hk';have hR:=hRt.out us' ls hsg.out rfl;have hRH:Hid (uC n vs ls id r us' ls):=hR;obtain⟨ta,hta⟩:∃t,tS ls n (dY vs i r)=t:=⟨_,rfl⟩;have hgl:(dY vs i r).length=n:=by unfold dY;rw[List.length_set];exact hvl.out
     have hap:=napart_is (some ⟨g,0,none⟩) us.length C us' Y ls.length D ls ta (by rw[hul.out,HH hgl hsg.out];exact hta) w6 hVS6 (by rw[hul.out];omega) hXC' hPS6 (by rw[hll.out];omega) (fun j hj=>by
      rw[hus'.out,eB hiu];split
      ·rename_i e;rw[<-hsu.1];exact(hvf i hi'.out).1
      ·rw[<-(hsv.2 j (by rw[hsv.1];exact hj)).1];exact(hvf j (by rw[<-hul.out];exact hj)).1) (fun j hj=>by
      rw[hus'.out,eB hiu];split
      ·exact hru.out
      ·rw[<-(hsv.2 j (by rw[hsv.1];exact hj)).2.1];exact(hvf j (by rw[<-hul.out];exact hj)).2) (fun j hj=>by
      have h1:bF us'=bF vs:=by
       rw[HG hsg.out];exact SU
      rw[h1];exact hlk0 j (by rw[<-hll.out];exact hj))
     rw[hta]at hEH;clear hta hVS6 hPS6 hR hRt;obtain⟨g0,g1⟩:=aZ hbxs rfl rfl;go_wp2_with fail;refine hap.mono ?_;rintro e w8 ⟨rfl,hb8⟩;have hT8:=hTs.later hb8;have hbx8:=aA hb8 hbxs;have hO8:=hOVs.later hb8;have hVk8:=fun v hv=>(hVk v hv).later hb8;have hOK8:=hOKs.later hb8;have hVos8:=fun j hj=>(hVos j hj).later hb8;clear g0 g1 hap hOVs hVk hOKs hbxs hTs hb8 hVos;obtain⟨g0,g1⟩:=aZ hbx8 rfl rfl;obtain⟨k0,k1⟩:=aZ hT8.hb rfl rfl;obtain⟨ks0,ks1⟩:=aZ hT8.hs rfl rfl;obtain⟨kz0,kz1⟩:=eA hT8.hs
     cases ta with
     |false=>
      have hE2:Hid (E=9/\(9:Int)≠0):=⟨hEH.out.trans (if_pos rfl),by decide⟩
      clear hEH
      go_wp2
      refine bodyPost_ret (v:= .tuple #[.agg #[.slice none 0 0, .slice none 0 0], .int .i64 9]) (by simp[results,Tryz.results196,go_sem,ks0,ks1]) rfl ?_
      exact dM.err hE2.out ((hT8.below.setCell (p:=⟨w.heap.size+2,0,none⟩) (zA) _).setCell (p:=⟨w.heap.size+2,1,none⟩) (zA) _)
     |true=>
      have hE3:Hid (E=0):=hEH.out.trans (if_neg (by decide))
      clear hEH
      have hw2s:Hid (w.heap.size+2<w2.heap.size):=(zG hT2.hs)
      have hO8':cD w8 wc.heap.size (.slice (some ⟨g,0,none⟩) us.length C) us':=hO8
      go_wp2
      refine bodyPost_ret (v:= .tuple #[.agg #[.slice (some ⟨g,0,none⟩) us.length C, .slice Y ls.length D], .int .i64 0]) (by simp[results,Tryz.results196,go_sem,ks0,ks1]) rfl ?_
      exact dM.ok hE3.out ((hT8.below.setCell (p:=⟨w.heap.size+2,0,none⟩) (zA) _).setCell (p:=⟨w.heap.size+2,1,none⟩) (zA) _) (us:=us') (ms:=ls) (NO.of ((hO8'.put hw3s.out).put hw3s.out) (by have:=hw3s.out;omega) (b2:=w2.heap.size) (fun v hv=>by
       obtain⟨j,hj,rfl⟩:=eM hv;exact((hVos8 j (by rw[<-hul'.out];exact hj)).put hw2s.out).put hw2s.out) (by have:=hw2s.out;omega) ((hOK8.put hw3s.out).put hw3s.out) (by have:=hw3s.out;omega)) hRH.out
    ·rw[if_neg heg0]at hEE;have hE2:Hid (E=eg/\eg≠0):=⟨hEE.out,heg0⟩;have hne:(eg !=0)=true:=by simpa using heg0
     clear hEE hu heg heg0;go_wp2;refine bodyPost_ret (v:= .tuple #[.agg #[.slice none 0 0, .slice none 0 0], .int .i64 eg]) (by simp[results,Tryz.results196,go_sem,ks0,ks1]) rfl ?_;exact dM.err hE2.out ((hTc.below.setCell (p:=⟨w.heap.size+2,0,none⟩) (zA) _).setCell (p:=⟨w.heap.size+2,1,none⟩) (zA) _)
  ·subst hti;have hE2:Hid (E=5/\(5:Int)≠0):=⟨hEE.out.trans (if_pos (by decide)),by decide⟩;clear hEE hRt;go_wp2_with fail;refine hpl.mono ?_;rintro e w2 ⟨rfl,hb⟩;have hT2:=hT1.later hb;clear k0 k1 ks0 ks1 kz0 kz1;obtain⟨k0,k1⟩:=aZ hT2.hb rfl rfl;obtain⟨ks0,ks1⟩:=aZ hT2.hs rfl rfl;obtain⟨kz0,kz1⟩:=eA hT2.hs;clear hpl;go_wp2;refine bodyPost_ret (v:= .tuple #[.agg #[.slice none 0 0, .slice none 0 0], .int .i64 5]) (by simp[results,Tryz.results196,go_sem,ks0,ks1]) rfl ?_;exact dM.err hE2.out ((hT2.below.setCell (p:=⟨w.heap.size+2,0,none⟩) (zA) _).setCell (p:=⟨w.heap.size+2,1,none⟩) (zA) _)
 ·obtain⟨t,ht⟩:∃t,bQ n vs ln ls=t:=⟨_,rfl⟩;have hck:=iS x n c vs lx ln lc ls t ht w0 (hp.later hT0.below) hn hnc (hl.later hT0.below) hln;rw[ht]at hc0 hEE;have hE1:Hid (E=t/\t≠0):=⟨by rw[hEE.out,if_neg hc0],hc0⟩;have hne:(t !=0)=true:=by simpa using hc0
  clear hEE ht;go_wp2_with fail;refine hck.mono ?_;rintro e w1 ⟨rfl,hb⟩;have hT1:=hT0.later hb;clear k0 k1 ks0 ks1 kz0 kz1;obtain⟨k0,k1⟩:=aZ hT1.hb rfl rfl;obtain⟨ks0,ks1⟩:=aZ hT1.hs rfl rfl;obtain⟨kz0,kz1⟩:=eA hT1.hs;clear hck;go_wp2;refine bodyPost_ret (v:= .tuple #[.agg #[.slice none 0 0, .slice none 0 0], .int .i64 t]) (by simp[results,Tryz.results196,go_sem,ks0,ks1]) rfl ?_;exact dM.err hE1.out ((hT1.below.setCell (p:=⟨w.heap.size+2,0,none⟩) (zA) _).setCell (p:=⟨w.heap.size+2,1,none⟩) (zA) _)
def uD(f:Fc):Fc:=⟨f.id,none,f.n,0,f.ns⟩
def mJ(s:Sb):Sb:=⟨s.id,s.a,s.l,none,s.n,0,s.fs.map uD⟩
def cY(v:Vn):Vn:=⟨v.id,none,v.rn,0,v.rs,none,v.sn,0,v.ss.map mJ⟩
theorem sL(fs:List Fc)(j:Nat):fcAt (fs.map uD) j=uD (fcAt fs j):=by
 unfold fcAt;rw[zF,zF,List.getElem?_map]
 cases fs[j]?<;>rfl
theorem oD(ss:List Sb)(j:Nat):aG (ss.map mJ) j=mJ (aG ss j):=by
 unfold aG;rw[zF,zF,List.getElem?_map]
 cases ss[j]?<;>rfl
theorem eN(vs:List Vn)(j:Nat):vnAt (vs.map cY) j=cY (vnAt vs j):=by
 unfold vnAt;rw[zF,zF,List.getElem?_map]
 cases vs[j]?<;>rfl
theorem dX.can{fs:List Fc}(h:dX fs gs):fs.map uD=gs.map uD:=by
 refine List.ext_getElem (by rw[List.length_map,List.length_map];exact h.1) fun i h1 h2=>?_;have hi:i<fs.length:=by simpa using h1
 have hj:i<gs.length:=by simpa using h2
 obtain⟨a,b,c⟩:=h.2 i hi;have e1:fcAt fs i=fs[i]:=by unfold fcAt;rw[zF,List.getElem?_eq_getElem hi];rfl
 have e2:fcAt gs i=gs[i]:=by unfold fcAt;rw[zF,List.getElem?_eq_getElem hj];rfl
 rw[List.getElem_map,List.getElem_map,<-e1,<-e2];unfold uD;rw[a,b,c]
theorem cO.can(h:cO ss ts):ss.map mJ=ts.map mJ:=by
 refine List.ext_getElem (by rw[List.length_map,List.length_map];exact h.1) fun i h1 h2=>?_;have hi:i<ss.length:=by simpa using h1
 have hj:i<ts.length:=by simpa using h2
 obtain⟨a,b,c,d,e⟩:=h.2 i hi;have e1:aG ss i=ss[i]:=by unfold aG;rw[zF,List.getElem?_eq_getElem hi];rfl
 have e2:aG ts i=ts[i]:=by unfold aG;rw[zF,List.getElem?_eq_getElem hj];rfl
 rw[List.getElem_map,List.getElem_map,<-e1,<-e2];unfold mJ;rw[a,b,c,d,e.can]
theorem oC.can{v u:Vn}(h:oC v u):cY v=cY u:=by
 obtain⟨a,b,c,d,e⟩:=h;unfold cY;rw[a,b,c,d,e.can]
theorem cQ.can{vs:List Vn}(h:cQ vs us):vs.map cY=us.map cY:=by
 refine List.ext_getElem (by rw[List.length_map,List.length_map];exact h.1) fun i h1 h2=>?_;have hi:i<vs.length:=by simpa using h1
 have hj:i<us.length:=by simpa using h2
 rw[List.getElem_map,List.getElem_map,<-dW hi,<-dW hj];exact(h.2 i hi).can
theorem SV(a l:Int)(n:Nat)(fs:List Fc):oZ a l n (fs.map uD)=oZ a l n fs:=by
 have h1:mU a l (fs.map uD)=mU a l fs:=by
  funext i;unfold mU;rw[sL];rfl
 have h2:nP (fs.map uD)=nP fs:=by
  unfold nP;rw[List.length_map];refine gE fun i _=>?_;unfold rR;rw[sL,sL];rfl
 have h3:aT (fs.map uD)=aT fs:=by
  unfold aT;rw[List.flatMap_map];rfl
 unfold oZ;rw[h1,h2,h3]
theorem HJ(vid:Int)(rn:Nat)(rs:List Rg)(sn:Nat)(ss:List Sb):bN vid rn rs sn (ss.map mJ)=bN vid rn rs sn ss:=by
 have h1:bU rn sn (ss.map mJ)=bU rn sn ss:=by
  unfold bU;refine congrArg (fun f=>decide (4<rn)||decide (6<sn)||anyAt sn f) (funext fun i=>?_);rw[oD];unfold dE;refine congrArg (fun f=>decide (8<(aG ss i).n)||anyAt (aG ss i).n f) (funext fun j=>?_);show decide (4<(fcAt ((aG ss i).fs.map uD) j).n)=_;rw[sL];rfl
 have h2:nS rn rs (ss.map mJ)=nS rn rs ss:=by
  funext i;unfold nS;rw[oD];have e1:∀c m,AX (ss.map mJ) c m=AX ss c m:=fun c m=>funext fun j=>by
   unfold AX;rw[oD];rfl
  rw[e1];show(oY rn rs (aG ss i).id (aG ss i).a (aG ss i).l&&!anyAt i (AX ss (aG ss i).a (aG ss i).l)&&oZ (aG ss i).a (aG ss i).l (aG ss i).n ((aG ss i).fs.map uD))=_;rw[SV]
 have h3:nO (ss.map mJ)=nO ss:=by
  unfold nO;rw[List.length_map];refine gE fun i _=>?_;unfold oO;rw[oD,oD];rfl
 unfold bN wH;rw[h1,h2,h3]
theorem bO(n:Nat)(vs:List Vn)(id:Int):aM n (vs.map cY) id=aM n vs id:=by
 have h:(fun i=>(vnAt (vs.map cY) i).id==id)=fun i=>(vnAt vs i).id==id:=funext fun i=>by
  rw[eN];rfl
 unfold aM;rw[h]
theorem EH(ms:List (Int×Int))(n:Nat)(vs:List Vn):tS ms n (vs.map cY)=tS ms n vs:=by
 unfold tS;refine gE fun i _=>?_;unfold JS;refine gE fun j _=>?_;unfold yM;rw[eN,eN];rfl
theorem sM(n:Nat)(vs:List Vn)(ln:Nat)(ls:List (Int×Int)):bQ n (vs.map cY) ln ls=bQ n vs ln ls:=by
 have h1:dV n (vs.map cY)=dV n vs:=by
  have e1:cX (vs.map cY)=cX vs:=by
   unfold cX;rw[List.length_map];refine gE fun i _=>?_;unfold fK;rw[eN,eN];rfl
  have e2:(fun i=>gS (vnAt (vs.map cY) i))=fun i=>gS (vnAt vs i):=funext fun i=>by
   rw[eN];unfold gS;show(!(bN (vnAt vs i).id (vnAt vs i).rn (vnAt vs i).rs (vnAt vs i).sn ((vnAt vs i).ss.map mJ)==0))=_;rw[HJ]
  unfold dV;rw[e1,e2]
 have h2:cN n (vs.map cY) ln ls=cN n vs ln ls:=by
  have e:pB n (vs.map cY) ls=pB n vs ls:=funext fun i=>by
   unfold pB;rw[bO,bO]
  unfold cN;rw[e]
 unfold bQ;rw[h1,h2,EH]
theorem OJ(n:Nat)(vs:List Vn)(ln:Nat)(ls:List (Int×Int))(id:Int):jM n (vs.map cY) ln ls id=jM n vs ln ls id:=by
 unfold jM;rw[sM,bO]
theorem OK(n:Nat)(vs:List Vn)(ln:Nat)(ls:List (Int×Int))(a b:Int):pP n (vs.map cY) ln ls a b=pP n vs ln ls a b:=by
 unfold pP;rw[sM,bO,bO,EH]
theorem zS(vs:List Vn)(i:Nat)(r:Rg):(dY vs i r).map cY=dY (vs.map cY) i r:=by
 unfold dY;rw[List.map_set,eN];rfl
theorem J9(n:Nat)(vs:List Vn)(ln:Nat)(ls:List (Int×Int))(id:Int)(r:Rg):jO n (vs.map cY) ln ls id r=jO n vs ln ls id r:=by
 have h:∀i,fN (vnAt (vs.map cY) i).id (vnAt (vs.map cY) i).rn (vnAt (vs.map cY) i).rs (vnAt (vs.map cY) i).sn (vnAt (vs.map cY) i).ss r=fN (vnAt vs i).id (vnAt vs i).rn (vnAt vs i).rs (vnAt vs i).sn (vnAt vs i).ss r:=fun i=>by
  rw[eN];unfold fN;show(if bN (vnAt vs i).id (vnAt vs i).rn (vnAt vs i).rs (vnAt vs i).sn ((vnAt vs i).ss.map mJ)≠0 then bN (vnAt vs i).id (vnAt vs i).rn (vnAt vs i).rs (vnAt vs i).sn ((vnAt vs i).ss.map mJ)else _)=_;rw[HJ];rfl
 unfold jO;rw[sM,bO,h,<-zS,EH]
def zT(id:Int)(vs:List Vn):Nat:=((List.range vs.length).find? fun i=>decide (id<(vnAt vs i).id)).getD vs.length
def zU(id:Int)(vs:List Vn):List Vn:=vs.take (zT id vs)++[newV id]++vs.drop (zT id vs)
theorem SW{id:Int}{vs:List Vn}(hi:i<=vs.length)(hlo:∀j,j<i->¬id<(vnAt vs j).id)(hup:i<vs.length->id<(vnAt vs i).id):zT id vs=i:=by
 unfold zT;by_cases h:i<vs.length
 ·have:(List.range vs.length).find? (fun i=>decide (id<(vnAt vs i).id))=some i:=by
   rw[List.find?_range_eq_some];exact⟨by simpa using hup h,by simpa using h,fun j hj=>by simpa using hlo j hj⟩
  rw[this];rfl
 ·obtain rfl:i=vs.length:=by omega
  have:(List.range vs.length).find? (fun i=>decide (id<(vnAt vs i).id))=none:=by
   rw[List.find?_eq_none];intro j hj;have:=hlo j (by simpa using hj);simpa using this
  rw[this];rfl
theorem OL(id:Int)(vs:List Vn):zT id (vs.map cY)=zT id vs:=by
 unfold zT;have h:(fun i=>decide (id<(vnAt (vs.map cY) i).id))=fun i=>decide (id<(vnAt vs i).id):=funext fun i=>by
  rw[eN];rfl
 rw[h,List.length_map]
theorem OM(id:Int)(vs:List Vn):(zU id vs).map cY=zU id (vs.map cY):=by
 unfold zU;rw[OL,List.map_append,List.map_append,List.map_take,List.map_drop];rfl
theorem SN.can{id:Int}{vs:List Vn}(h:SN id vs us):us.map cY=zU id (vs.map cY):=by
 obtain⟨us0,i,hs,hi,hlo,hup,rfl⟩:=h;have e:us0.take i++[newV id]++us0.drop i=zU id us0:=by
  unfold zU;rw[SW hi hlo hup]
 rw[e,OM,hs.can]
structure Bx(w W:World)(b:Nat)(X:Option Addr)(C:Nat)(Y:Option Addr)(D:Nat)(us:List Vn)(ms:List (Int×Int)):Prop where
 box:W.heap[b]?=some (eG (.slice X us.length C) (.slice Y ms.length D))
 vs:VS W X us.length us
 ps:PS W Y ms.length ms
 xc:us.length<=C
 c63:C<=9223372036854775807
 yd:ms.length<=D
 d63:D<=9223372036854775807
 below:Below w.heap.size w W
theorem NO.agg(h:NO w base V us ms):∃X C Y D,V= .agg #[.slice X us.length C, .slice Y ms.length D]:=by
 obtain⟨X,C,Y,D,e, -⟩:=h.nn;exact⟨X,C,Y,D,e⟩
def C1:List Vn:=[newV 3]
def C2:List Vn:=[newV 1,newV 3]
def C3:List Vn:=dY C2 1 ⟨256,10,7⟩
open Go.ChangeShapes Go.WideShapes Go.ChangeAt Go.RowKit Go.Joins
theorem VW:Tryz.prog.cellsOf 59=3:=by kernel_rfl
theorem VX:Tryz.prog.cellsOf 75=2:=by kernel_rfl
theorem VY:Tryz.prog.cellsOf 72=4:=by kernel_rfl
theorem VZ:Tryz.prog.cellsOf 51=3:=by kernel_rfl
theorem V0:Tryz.prog.cellsOf 77=2:=by kernel_rfl
theorem V1:Tryz.prog.cellsOf 28=2:=by kernel_rfl
theorem V4:Tryz.prog.cellsOf 73=1:=by kernel_rfl
theorem V5:Tryz.prog.cellsOf 48=1:=by kernel_rfl
theorem V6:Tryz.prog.cellsOf 70=1:=by kernel_rfl
theorem V7:Tryz.prog.cellsOf 49=1:=by kernel_rfl
def cI(a:Int):List Value:=[.int .i64 a]
def cVz(v:Vn):List Value:=[.int .i64 v.id, .slice v.rx v.rn v.rc, .slice v.sx v.sn v.sc]
def cKz(l:Int×Int):List Value:=[.int .i64 l.1, .int .i64 l.2]
def YE(ls:List (Int×Int))(i:Nat):Int×Int:=ls.getD i (0,0)
section
variable {H : Type} {enc : TypeId × Value → H} {w : World}
theorem V8{x:DataW H×List MemPlace}(hl:cs.length=1)(h:DataW.trod enc Tryz.prog w 0 (fun _=>true) true n 3 cs=some x):∃a:Int,cs=cI a:=by
 match cs,hl with
 |[v0],_=>
  obtain⟨a,e, -⟩:=DataW.trod_int Tryz.underlying3 h
  simp at e
  exact⟨a,by rw[e];rfl⟩
theorem SX{y:DataW H×List MemPlace}(h:DataW.trod enc Tryz.prog w 0 (fun _=>true) true n 73 [v]=some y):
  ∃(x:Option Addr) (k c:Nat) (es:List Int),v= .slice x k c/\IS w x k es/\k<=c/\c<=9223372036854775807:=by
 rcases Deep.open_slice Tryz.underlying73 h with ⟨h0, -⟩|⟨a,len,cap,m,k,D,Pl,h1, -,hl,hm,hmm,hx,hcell⟩
 ·simp at h0;exact⟨none,0,0,[],h0,⟨rfl,fun i hi=>by omega⟩,by omega,by omega⟩
 ·simp at h1;subst h1;simp at hmm;have hmm':=hmm.symm;subst hmm';clear hmm;have each:∀i,i<cap->∃q:Int,(∀j,j<1->w.cell? (a.add (i*1+j))=(cI q)[j]?):=fun i hi=>by
   obtain⟨cs',e1,e2⟩:=hcell i hi;rw[gA]at e1;obtain⟨-,hlen,hc⟩:=World.cells?_some e1;obtain⟨q,rfl⟩:=V8 hlen e2;exact⟨q,fun j hj=>by
    have:=hc j hj;rw[Deep.add_add]at this;exact this⟩
  have:Inhabited Int:=⟨0⟩;obtain⟨Q,hQ⟩:=Deep.choose_lt each;have hmax:cap<=9223372036854775807:=by unfold maxLen at hm;omega
  by_cases hn0:len=0
  ·subst hn0;exact⟨some a,0,cap,[],rfl,⟨rfl,fun i hi=>by omega⟩,by omega,hmax⟩
  ·have hsp:a.spot=none:=by
    have h0:=hQ 0 (by omega) 0 (by omega);have h1:w.cell? (a.add (0*1+0))=some (.int .i64 (Q 0)):=h0;have:=World.cell?_spot h1;simpa[Addr.add]using this
   obtain⟨b,o,sp⟩:=a;simp only at hsp;subst hsp;have hat:∀i,i<len->aU ((List.range len).map Q) i=Q i:=fun i hi=>by unfold aU;rw[zF,List.getElem?_map,List.getElem?_range hi];rfl
   have e:∀i,i<len->∀j,j<1->∀u,(cI (Q i))[j]?=some u->w.cell? ⟨b,o+i*1+j,none⟩=some u:=fun i hi j hj u hu=>by
    have:=hQ i (by omega) j hj;rw[cA,hu,<-Nat.add_assoc]at this;exact this
   refine⟨some ⟨b,o,none⟩,len,cap,(List.range len).map Q,rfl,?_,hl,hmax⟩;exact⟨by simp,fun i hi=>⟨b,o,rfl,by rw[hat i hi];have:=e i hi 0 (by omega) _ rfl;simpa using this⟩⟩
theorem V9{x:DataW H×List MemPlace}(hl:cs.length=2)(h:DataW.trod enc Tryz.prog w 0 (fun _=>true) true n 75 cs=some x):∃f:Fc,cs=cF f/\f.n<=f.c/\f.n<=9223372036854775807/\IS w f.x f.n f.ns:=by
 obtain⟨xs,k, -, -, -,hxl,hf⟩:=DataW.trod_struct Tryz.underlying75 h;match cs,hl with
 |[v0,v1],_=>
  have g0:=hf 0 _ rfl
  have g1:=hf 1 _ rfl
  have y:∀i,i<2->(xs[i]?).isSome=true:=fun i hi=>cH hxl hi
  simp[gA,V4]at g0 g1
  obtain⟨a0,rfl⟩:=gL (y 0 (by omega)) g0
  obtain⟨z1,h1⟩:=Option.isSome_iff_exists.1 (y 1 (by omega))
  rw[h1]at g1
  obtain⟨lx,ln,lc,ls,rfl,hLS,hlc,hlm⟩:=SX g1
  exact⟨⟨a0,lx,ln,lc,ls⟩,rfl,hlc,Nat.le_trans hlc hlm,hLS⟩
theorem SY{y:DataW H×List MemPlace}(h:DataW.trod enc Tryz.prog w 0 (fun _=>true) true n 70 [v]=some y):
  ∃(x:Option Addr) (k c:Nat) (es:List Fc),v= .slice x k c/\oW w x k es/\k<=c/\c<=9223372036854775807:=by
 rcases Deep.open_slice Tryz.underlying70 h with ⟨h0, -⟩|⟨a,len,cap,m,k,D,Pl,h1, -,hl,hm,hmm,hx,hcell⟩
 ·simp at h0;exact⟨none,0,0,[],h0,⟨rfl,fun i hi=>by omega,fun i hi=>by omega⟩,by omega,by omega⟩
 ·simp at h1;subst h1;simp at hmm;have hmm':=hmm.symm;subst hmm';clear hmm;have each:∀i,i<cap->∃q:Fc,(∀j,j<2->w.cell? (a.add (i*2+j))=(cF q)[j]?)/\q.n<=q.c/\q.n<=9223372036854775807/\IS w q.x q.n q.ns:=fun i hi=>by
   obtain⟨cs',e1,e2⟩:=hcell i hi;rw[VX]at e1;obtain⟨-,hlen,hc⟩:=World.cells?_some e1;obtain⟨q,rfl,hq⟩:=V9 hlen e2;exact⟨q,fun j hj=>by
    have:=hc j hj;rw[Deep.add_add]at this;exact this,hq⟩
  have:Inhabited Fc:=⟨U1⟩;obtain⟨Q,hQ⟩:=Deep.choose_lt each;have hmax:cap<=9223372036854775807:=by unfold maxLen at hm;omega
  by_cases hn0:len=0
  ·subst hn0;exact⟨some a,0,cap,[],rfl,⟨rfl,fun i hi=>by omega,fun i hi=>by omega⟩,by omega,hmax⟩
  ·have hsp:a.spot=none:=by
    have h0:=(hQ 0 (by omega)).1 0 (by omega);have h1:w.cell? (a.add (0*2+0))=some (.int .i64 (Q 0).id):=h0;have:=World.cell?_spot h1;simpa[Addr.add]using this
   obtain⟨b,o,sp⟩:=a;simp only at hsp;subst hsp;have hat:∀i,i<len->fcAt ((List.range len).map Q) i=Q i:=fun i hi=>by unfold fcAt;rw[zF,List.getElem?_map,List.getElem?_range hi];rfl
   have e:∀i,i<len->∀j,j<2->∀u,(cF (Q i))[j]?=some u->w.cell? ⟨b,o+i*2+j,none⟩=some u:=fun i hi j hj u hu=>by
    have:=(hQ i (by omega)).1 j hj;rw[cA,hu,<-Nat.add_assoc]at this;exact this
   refine⟨some ⟨b,o,none⟩,len,cap,(List.range len).map Q,rfl,?_,hl,hmax⟩;exact⟨by simp,fun i hi=>⟨b,o,rfl,by rw[hat i hi];exact⟨e i hi 0 (by omega) _ rfl,e i hi 1 (by omega) _ rfl⟩⟩,fun i hi=>by rw[hat i hi];exact(hQ i (by omega)).2⟩
theorem WA{x:DataW H×List MemPlace}(hl:cs.length=4)(h:DataW.trod enc Tryz.prog w 0 (fun _=>true) true n 72 cs=some x):∃f:Sb,cs=cS f/\f.n<=f.c/\f.n<=9223372036854775807/\oW w f.x f.n f.fs:=by
 obtain⟨xs,k, -, -, -,hxl,hf⟩:=DataW.trod_struct Tryz.underlying72 h;match cs,hl with
 |[v0,v1,v2,v3],_=>
  have g0:=hf 0 _ rfl
  have g1:=hf 1 _ rfl
  have g2:=hf 2 _ rfl
  have y:∀i,i<3->(xs[i]?).isSome=true:=fun i hi=>cH hxl hi
  simp[gA,DG,V6]at g0 g1 g2
  obtain⟨a0,rfl⟩:=gL (y 0 (by omega)) g0
  obtain⟨z1,h1⟩:=Option.isSome_iff_exists.1 (y 1 (by omega))
  obtain⟨z2,h2⟩:=Option.isSome_iff_exists.1 (y 2 (by omega))
  rw[h1]at g1
  rw[h2]at g2
  obtain⟨us,k4, -, -, -,hul,hu⟩:=DataW.trod_struct Tryz.underlying53 g1
  have p0:=hu 0 _ rfl
  have p1:=hu 1 _ rfl
  simp[gA]at p0 p1
  obtain⟨a1,rfl⟩:=gL (cH hul (by decide)) p0
  obtain⟨a2,rfl⟩:=gL (cH hul (by decide)) p1
  obtain⟨lx,ln,lc,ls,rfl,hLS,hlc,hlm⟩:=SY g2
  exact⟨⟨a0,a1,a2,lx,ln,lc,ls⟩,rfl,hlc,Nat.le_trans hlc hlm,hLS⟩
theorem SZ{y:DataW H×List MemPlace}(h:DataW.trod enc Tryz.prog w 0 (fun _=>true) true n 49 [v]=some y):
  ∃(x:Option Addr) (k c:Nat) (es:List Sb),v= .slice x k c/\SS w x k es/\k<=c/\c<=9223372036854775807:=by
 rcases Deep.open_slice Tryz.underlying49 h with ⟨h0, -⟩|⟨a,len,cap,m,k,D,Pl,h1, -,hl,hm,hmm,hx,hcell⟩
 ·simp at h0;exact⟨none,0,0,[],h0,⟨rfl,fun i hi=>by omega,fun i hi=>by omega⟩,by omega,by omega⟩
 ·simp at h1;subst h1;simp at hmm;have hmm':=hmm.symm;subst hmm';clear hmm;have each:∀i,i<cap->∃q:Sb,(∀j,j<4->w.cell? (a.add (i*4+j))=(cS q)[j]?)/\q.n<=q.c/\q.n<=9223372036854775807/\oW w q.x q.n q.fs:=fun i hi=>by
   obtain⟨cs',e1,e2⟩:=hcell i hi;rw[VY]at e1;obtain⟨-,hlen,hc⟩:=World.cells?_some e1;obtain⟨q,rfl,hq⟩:=WA hlen e2;exact⟨q,fun j hj=>by
    have:=hc j hj;rw[Deep.add_add]at this;exact this,hq⟩
  have:Inhabited Sb:=⟨U2⟩;obtain⟨Q,hQ⟩:=Deep.choose_lt each;have hmax:cap<=9223372036854775807:=by unfold maxLen at hm;omega
  by_cases hn0:len=0
  ·subst hn0;exact⟨some a,0,cap,[],rfl,⟨rfl,fun i hi=>by omega,fun i hi=>by omega⟩,by omega,hmax⟩
  ·have hsp:a.spot=none:=by
    have h0:=(hQ 0 (by omega)).1 0 (by omega);have h1:w.cell? (a.add (0*4+0))=some (.int .i64 (Q 0).id):=h0;have:=World.cell?_spot h1;simpa[Addr.add]using this
   obtain⟨b,o,sp⟩:=a;simp only at hsp;subst hsp;have hat:∀i,i<len->aG ((List.range len).map Q) i=Q i:=fun i hi=>by unfold aG;rw[zF,List.getElem?_map,List.getElem?_range hi];rfl
   have e:∀i,i<len->∀j,j<4->∀u,(cS (Q i))[j]?=some u->w.cell? ⟨b,o+i*4+j,none⟩=some u:=fun i hi j hj u hu=>by
    have:=(hQ i (by omega)).1 j hj;rw[cA,hu,<-Nat.add_assoc]at this;exact this
   refine⟨some ⟨b,o,none⟩,len,cap,(List.range len).map Q,rfl,?_,hl,hmax⟩;exact⟨by simp,fun i hi=>⟨b,o,rfl,by rw[hat i hi];exact⟨e i hi 0 (by omega) _ rfl,e i hi 1 (by omega) _ rfl,e i hi 2 (by omega) _ rfl,e i hi 3 (by omega) _ rfl⟩⟩,fun i hi=>by rw[hat i hi];exact(hQ i (by omega)).2⟩
theorem WB{x:DataW H×List MemPlace}(hl:cs.length=3)(h:DataW.trod enc Tryz.prog w 0 (fun _=>true) true n 59 cs=some x):∃c:Rg,cs=cR c:=by
 obtain⟨xs,k, -, -, -,hxl,hf⟩:=DataW.trod_struct Tryz.underlying59 h;match cs,hl with
 |[v0,v1,v2],_=>
  have g0:=hf 0 _ rfl
  have g1:=hf 1 _ rfl
  have y:∀i,i<2->(xs[i]?).isSome=true:=fun i hi=>cH hxl hi
  simp[gA,DG]at g0 g1
  obtain⟨a2,rfl⟩:=gL (y 1 (by omega)) g1
  obtain⟨z4,h4⟩:=Option.isSome_iff_exists.1 (y 0 (by omega))
  rw[h4]at g0
  obtain⟨us,k4, -, -, -,hul,hu⟩:=DataW.trod_struct Tryz.underlying53 g0
  have p0:=hu 0 _ rfl
  have p1:=hu 1 _ rfl
  simp[gA]at p0 p1
  obtain⟨a0,rfl⟩:=gL (cH hul (by decide)) p0
  obtain⟨a1,rfl⟩:=gL (cH hul (by decide)) p1
  exact⟨⟨a0,a1,a2⟩,rfl⟩
theorem S0{y:DataW H×List MemPlace}(h:DataW.trod enc Tryz.prog w 0 (fun _=>true) true n 48 [v]=some y):
  ∃(x:Option Addr) (k c:Nat) (es:List Rg),v= .slice x k c/\RS w x k es/\k<=c/\c<=9223372036854775807:=by
 rcases Deep.open_slice Tryz.underlying48 h with ⟨h0, -⟩|⟨a,len,cap,m,k,D,Pl,h1, -,hl,hm,hmm,hx,hcell⟩
 ·simp at h0;exact⟨none,0,0,[],h0,⟨rfl,fun i hi=>by omega⟩,by omega,by omega⟩
 ·simp at h1;subst h1;simp at hmm;have hmm':=hmm.symm;subst hmm';clear hmm;have each:∀i,i<cap->∃q:Rg,(∀j,j<3->w.cell? (a.add (i*3+j))=(cR q)[j]?):=fun i hi=>by
   obtain⟨cs',e1,e2⟩:=hcell i hi;rw[VW]at e1;obtain⟨-,hlen,hc⟩:=World.cells?_some e1;obtain⟨q,rfl⟩:=WB hlen e2;exact⟨q,fun j hj=>by
    have:=hc j hj;rw[Deep.add_add]at this;exact this⟩
  have:Inhabited Rg:=⟨QD⟩;obtain⟨Q,hQ⟩:=Deep.choose_lt each;have hmax:cap<=9223372036854775807:=by unfold maxLen at hm;omega
  by_cases hn0:len=0
  ·subst hn0;exact⟨some a,0,cap,[],rfl,⟨rfl,fun i hi=>by omega⟩,by omega,hmax⟩
  ·have hsp:a.spot=none:=by
    have h0:=hQ 0 (by omega) 0 (by omega);have h1:w.cell? (a.add (0*3+0))=some (.int .i64 (Q 0).a):=h0;have:=World.cell?_spot h1;simpa[Addr.add]using this
   obtain⟨b,o,sp⟩:=a;simp only at hsp;subst hsp;have hat:∀i,i<len->rgAt ((List.range len).map Q) i=Q i:=fun i hi=>by unfold rgAt;rw[zF,List.getElem?_map,List.getElem?_range hi];rfl
   have e:∀i,i<len->∀j,j<3->∀u,(cR (Q i))[j]?=some u->w.cell? ⟨b,o+i*3+j,none⟩=some u:=fun i hi j hj u hu=>by
    have:=hQ i (by omega) j hj;rw[cA,hu,<-Nat.add_assoc]at this;exact this
   refine⟨some ⟨b,o,none⟩,len,cap,(List.range len).map Q,rfl,?_,hl,hmax⟩;exact⟨by simp,fun i hi=>⟨b,o,rfl,by rw[hat i hi];exact⟨e i hi 0 (by omega) _ rfl,e i hi 1 (by omega) _ rfl,e i hi 2 (by omega) _ rfl⟩⟩⟩
theorem WC{x:DataW H×List MemPlace}(hl:cs.length=3)(h:DataW.trod enc Tryz.prog w 0 (fun _=>true) true n 51 cs=some x):∃v:Vn,cs=cVz v/\v.rn<=9223372036854775807/\v.sn<=9223372036854775807/\v.rc<=9223372036854775807/\Vp w v.rx v.rn v.rc v.rs v.sx v.sn v.sc v.ss:=by
 obtain⟨xs,k, -, -, -,hxl,hf⟩:=DataW.trod_struct Tryz.underlying51 h;match cs,hl with
 |[v0,v1,v2],_=>
  have g0:=hf 0 _ rfl
  have g1:=hf 1 _ rfl
  have g2:=hf 2 _ rfl
  have y:∀i,i<3->(xs[i]?).isSome=true:=fun i hi=>cH hxl hi
  simp[gA,V5,V7]at g0 g1 g2
  obtain⟨a0,rfl⟩:=gL (y 0 (by omega)) g0
  obtain⟨z1,h1⟩:=Option.isSome_iff_exists.1 (y 1 (by omega))
  obtain⟨z2,h2⟩:=Option.isSome_iff_exists.1 (y 2 (by omega))
  rw[h1]at g1
  rw[h2]at g2
  obtain⟨rx,rn,rc,rs,rfl,hRS,hrc,hrm⟩:=S0 g1
  obtain⟨sx,sn,sc,ss,rfl,hSS,hsc,hsm⟩:=SZ g2
  exact⟨⟨a0,rx,rn,rc,rs,sx,sn,sc,ss⟩,rfl,Nat.le_trans hrc hrm,Nat.le_trans hsc hsm,hrm,⟨hrc,hsc,hRS,hSS⟩⟩
theorem S1{y:DataW H×List MemPlace}(h:DataW.trod enc Tryz.prog w 0 (fun _=>true) true n 25 [v]=some y):
  ∃(x:Option Addr) (k c:Nat) (es:List Vn),v= .slice x k c/\VS w x k es/\k<=c/\c<=9223372036854775807:=by
 rcases Deep.open_slice Tryz.underlying25 h with ⟨h0, -⟩|⟨a,len,cap,m,k,D,Pl,h1, -,hl,hm,hmm,hx,hcell⟩
 ·simp at h0;exact⟨none,0,0,[],h0,⟨rfl,fun i hi=>by omega,fun i hi=>by omega⟩,by omega,by omega⟩
 ·simp at h1;subst h1;simp at hmm;have hmm':=hmm.symm;subst hmm';clear hmm;have each:∀i,i<cap->∃q:Vn,(∀j,j<3->w.cell? (a.add (i*3+j))=(cVz q)[j]?)/\q.rn<=9223372036854775807/\q.sn<=9223372036854775807/\q.rc<=9223372036854775807/\Vp w q.rx q.rn q.rc q.rs q.sx q.sn q.sc q.ss:=fun i hi=>by
   obtain⟨cs',e1,e2⟩:=hcell i hi;rw[VZ]at e1;obtain⟨-,hlen,hc⟩:=World.cells?_some e1;obtain⟨q,rfl,hq⟩:=WC hlen e2;exact⟨q,fun j hj=>by
    have:=hc j hj;rw[Deep.add_add]at this;exact this,hq⟩
  have:Inhabited Vn:=⟨UM⟩;obtain⟨Q,hQ⟩:=Deep.choose_lt each;have hmax:cap<=9223372036854775807:=by unfold maxLen at hm;omega
  by_cases hn0:len=0
  ·subst hn0;exact⟨some a,0,cap,[],rfl,⟨rfl,fun i hi=>by omega,fun i hi=>by omega⟩,by omega,hmax⟩
  ·have hsp:a.spot=none:=by
    have h0:=(hQ 0 (by omega)).1 0 (by omega);have h1:w.cell? (a.add (0*3+0))=some (.int .i64 (Q 0).id):=h0;have:=World.cell?_spot h1;simpa[Addr.add]using this
   obtain⟨b,o,sp⟩:=a;simp only at hsp;subst hsp;have hat:∀i,i<len->vnAt ((List.range len).map Q) i=Q i:=fun i hi=>by unfold vnAt;rw[zF,List.getElem?_map,List.getElem?_range hi];rfl
   have e:∀i,i<len->∀j,j<3->∀u,(cVz (Q i))[j]?=some u->w.cell? ⟨b,o+i*3+j,none⟩=some u:=fun i hi j hj u hu=>by
    have:=(hQ i (by omega)).1 j hj;rw[cA,hu,<-Nat.add_assoc]at this;exact this
   refine⟨some ⟨b,o,none⟩,len,cap,(List.range len).map Q,rfl,?_,hl,hmax⟩;exact⟨by simp,fun i hi=>⟨b,o,rfl,by rw[hat i hi];exact⟨e i hi 0 (by omega) _ rfl,e i hi 1 (by omega) _ rfl,e i hi 2 (by omega) _ rfl⟩⟩,fun i hi=>by rw[hat i hi];exact(hQ i (by omega)).2⟩
theorem WD{x:DataW H×List MemPlace}(hl:cs.length=2)(h:DataW.trod enc Tryz.prog w 0 (fun _=>true) true n 77 cs=some x):∃l:Int×Int,cs=cKz l:=by
 obtain⟨xs,k, -, -, -,hxl,hf⟩:=DataW.trod_struct Tryz.underlying77 h;match cs,hl with
 |[v0,v1],_=>
  have g0:=hf 0 _ rfl
  have g1:=hf 1 _ rfl
  have y:∀i,i<2->(xs[i]?).isSome=true:=fun i hi=>cH hxl hi
  simp[gA]at g0 g1
  obtain⟨a0,rfl⟩:=gL (y 0 (by omega)) g0
  obtain⟨a1,rfl⟩:=gL (y 1 (by omega)) g1
  exact⟨(a0,a1),rfl⟩
theorem S2{y:DataW H×List MemPlace}(h:DataW.trod enc Tryz.prog w 0 (fun _=>true) true n 26 [v]=some y):
  ∃(x:Option Addr) (k c:Nat) (es:List (Int×Int)),v= .slice x k c/\PS w x k es/\k<=c/\c<=9223372036854775807:=by
 rcases Deep.open_slice Tryz.underlying26 h with ⟨h0, -⟩|⟨a,len,cap,m,k,D,Pl,h1, -,hl,hm,hmm,hx,hcell⟩
 ·simp at h0;exact⟨none,0,0,[],h0,⟨rfl,fun i hi=>by omega⟩,by omega,by omega⟩
 ·simp at h1;subst h1;simp at hmm;have hmm':=hmm.symm;subst hmm';clear hmm;have each:∀i,i<cap->∃q:(Int×Int),(∀j,j<2->w.cell? (a.add (i*2+j))=(cKz q)[j]?):=fun i hi=>by
   obtain⟨cs',e1,e2⟩:=hcell i hi;rw[V0]at e1;obtain⟨-,hlen,hc⟩:=World.cells?_some e1;obtain⟨q,rfl⟩:=WD hlen e2;exact⟨q,fun j hj=>by
    have:=hc j hj;rw[Deep.add_add]at this;exact this⟩
  have:Inhabited (Int×Int):=⟨(0,0)⟩;obtain⟨Q,hQ⟩:=Deep.choose_lt each;have hmax:cap<=9223372036854775807:=by unfold maxLen at hm;omega
  by_cases hn0:len=0
  ·subst hn0;exact⟨some a,0,cap,[],rfl,⟨rfl,fun i hi=>by omega⟩,by omega,hmax⟩
  ·have hsp:a.spot=none:=by
    have h0:=hQ 0 (by omega) 0 (by omega);have h1:w.cell? (a.add (0*2+0))=some (.int .i64 (Q 0).1):=h0;have:=World.cell?_spot h1;simpa[Addr.add]using this
   obtain⟨b,o,sp⟩:=a;simp only at hsp;subst hsp;have hat:∀i,i<len->YE ((List.range len).map Q) i=Q i:=fun i hi=>by unfold YE;rw[zF,List.getElem?_map,List.getElem?_range hi];rfl
   have e:∀i,i<len->∀j,j<2->∀u,(cKz (Q i))[j]?=some u->w.cell? ⟨b,o+i*2+j,none⟩=some u:=fun i hi j hj u hu=>by
    have:=hQ i (by omega) j hj;rw[cA,hu,<-Nat.add_assoc]at this;exact this
   refine⟨some ⟨b,o,none⟩,len,cap,(List.range len).map Q,rfl,?_,hl,hmax⟩;exact⟨by simp,fun i hi=>⟨b,o,rfl,by rw[show at0 ((List.range len).map Q) i=(Q i).1 from congrArg Prod.fst (hat i hi),show bY ((List.range len).map Q) i=(Q i).2 from congrArg Prod.snd (hat i hi)];exact⟨e i hi 0 (by omega) _ rfl,e i hi 1 (by omega) _ rfl⟩⟩⟩
end
theorem NN.agg(h:NN w V us ms):∃X C Y D,V= .agg #[.slice X us.length C, .slice Y ms.length D]:=by
 obtain⟨X,C,Y,D,e, -⟩:=h;exact⟨X,C,Y,D,e⟩
theorem cJ.cells{g cap:Nat}(h:cJ w base (.slice (some ⟨g,0,none⟩) n cap) fs)(q:Nat)(hq:q<fs.length):
  w.cell? ⟨g,q*2,none⟩=some (.int .i64 (kK fs q).1)/\w.cell? ⟨g,q*2+1,none⟩=some (.int .i64 (kK fs q).2):=by
 obtain⟨x2,c2,he2, -, -, -,hm'⟩:=h.mem;simp only[Value.slice.injEq]at he2;obtain⟨b2,o2,he3,c7,c8⟩:=hm' q hq;rw[<-he2.1]at he3;simp only[Option.some.injEq,Addr.mk.injEq]at he3;obtain⟨rfl,rfl, -⟩:=he3;exact⟨by simpa using c7,by simpa using c8⟩
theorem zV{vs:List Vn}:¬aM n vs y<0↔∃i,i<n/\(vnAt vs i).id=y:=by
 constructor
 ·intro h;rcases vplace_cases n vs y with ⟨i,hi,he, -⟩|e
  ·exact⟨i,hi,he⟩
  ·rw[e]at h;exact absurd (by decide) h
 ·rintro⟨i,hi,he⟩ h;unfold aM at h
  cases hf:(List.range n).find? (fun i=>(vnAt vs i).id==y)with
  |none=>
   have:=List.find?_eq_none.1 hf i (by simpa using hi)
   simp[he]at this
  |some k=>
   rw[hf]at h
   simp only at h
   omega
end Go.Proofs.YtkgeoeglidnnnaaGreatDoor
