/- DeskKept answers true for every list of commands and every cut, in every world that holds the listed variables as the program's text lays them: wherever the log is cut, what is recovered is what was done by the commands whose frames are whole; and what was stored is recovered. Its card closes by the given tie. -/
import Derived.Test.YtjphnaccgfjnjaaGreatDoorMK15
set_option maxRecDepth 100000
set_option maxHeartbeats 20000000
namespace Go.Proofs.YtjphnaccgfjnjaaGreatDoor
variable {s q u r : dP} {vs us : List Vn} {v vB vV vK : Value} {c m t A E E' n' a l a' l' : Int} {i j n base b1 b2 b0 : Nat} {ps qs : List Po} {cd : Cd} {cs K : List Cd} {w W : World} {ls : List (Int × Int)} {x : Option Addr}
open Go.RowKit Go.Shelf
structure UM(s u:dP):Prop where
 t:s.t=u.t
 ps:gD s.ps u.ps
 vs:s.vs.map bA=u.vs.map bA
 ls:s.ls=u.ls
theorem gH.eqv(h:gH s q):UM s q:=⟨h.1.symm,h.2.1.canP,h.2.2.1.can,h.2.2.2.symm⟩
theorem UM.to(h:UM s u)(h1:gH s q)(h2:gH u r):UM q r:=
 have g1:=h1.eqv
 have g2:=h2.eqv
 ⟨g1.t.symm.trans (h.t.trans g2.t),g1.ps.symm.trans (h.ps.trans g2.ps),g1.vs.symm.trans (h.vs.trans g2.vs),g1.ls.symm.trans (h.ls.trans g2.ls)⟩
theorem MS(h:vs.map bA=us.map bA)(n:Nat)(id:Int):aJ n vs id=aJ n us id:=by rw[<-bJ,h,bJ]
theorem FV(h:vs.map bA=us.map bA)(k:Nat):UV (aE vs k) (aE us k):=aAa (by rw[<-dI,h,dI])
theorem O7.det{v u:Vn}(h:UV v u)(h1:O7 v c m i)(h2:O7 u c m j):i=j:=by
 rcases Nat.lt_trichotomy i j with e|e|e
 ·exact absurd h1.yes (by rw[h.rs,h2.no i e];decide)
 ·exact e
 ·exact absurd h2.yes (by rw[<-h.rs,h1.no j e];decide)
theorem XQ.det(hp:gD ps qs)(hv:vs.map bA=us.map bA)(h0:aS t ps=0)(g0:aS t qs=0)(h1:XQ t ps vs A c m E)(h2:XQ t qs us A c m E'):E=E':=by
 have hl:=congrArg List.length hv;rw[List.length_map,List.length_map]at hl;unfold XQ at h1 h2;rw[<-hl,<-MS hv]at h2;rcases h1 with ⟨a1,rfl⟩|⟨k,k1,a1,b1⟩
 ·rcases h2 with ⟨a2,rfl⟩|⟨k,k1,a2,b2⟩
  ·rfl
  ·omega
 ·rcases h2 with ⟨a2,rfl⟩|⟨j,j1,a2,b2⟩
  ·omega
  ·obtain rfl:k=j:=by omega
   have e:=FV hv k;rw[<-e.id,<-e.rn,<-e.rs,<-e.sn,<-UK e.ss]at b2;rcases b1 with ⟨n1,rfl⟩|⟨z1,i,r1,rfl⟩
   ·rcases b2 with ⟨n2,rfl⟩|⟨z2, -⟩
    ·rfl
    ·exact absurd z2 n1
   ·rcases b2 with ⟨n2, -⟩|⟨z2,j,r2,rfl⟩
    ·exact absurd z1 n2
    ·obtain rfl:=r1.det e r2;exact hp.giveE h0 g0 _ _ _
theorem FW{n:Int}(h:UM s u)(hs:aS s.t s.ps=0)(hu:aS u.t u.ps=0)(h1:jA s cd E n)(h2:jA u cd E' n'):E=E'/\(10<=cd.op/\cd.op<=14->n=n'):=by
 obtain⟨t,ps,vs,ls⟩:=s;obtain⟨t',qs,us,ms⟩:=u;obtain⟨ht,hp,hv,hk⟩:=h;simp only at ht hp hv hk hs hu;subst ht;subst hk;have hl:=congrArg List.length hv;rw[List.length_map,List.length_map]at hl;have hvp:=MS hv us.length;unfold jA at h1 h2;simp only[hl]at h1 h2;by_cases o1:cd.op=1
 ·rw[if_pos o1]at h1;rw[if_pos o1,<-hp.openE hs hu]at h2;exact⟨h1.trans h2.symm,fun g=>by omega⟩
 rw[if_neg o1]at h1 h2;by_cases o2:cd.op=2
 ·rw[if_pos o2]at h1;rw[if_pos o2,<-hp.nestE hs hu]at h2;exact⟨h1.trans h2.symm,fun g=>by omega⟩
 rw[if_neg o2]at h1 h2;by_cases o3:cd.op=3
 ·rw[if_pos o3]at h1;rw[if_pos o3,<-hp.closeE hs hu]at h2;exact⟨h1.trans h2.symm,fun g=>by omega⟩
 rw[if_neg o3]at h1 h2;by_cases o4:cd.op=4
 ·rw[if_pos o4]at h1;rw[if_pos o4]at h2;unfold qJ at h1 h2;rw[hs]at h1;rw[hu]at h2;exact⟨h1.trans h2.symm,fun g=>by omega⟩
 rw[if_neg o4]at h1 h2;by_cases o5:cd.op=5
 ·rw[if_pos o5]at h1;rw[if_pos o5]at h2;unfold XO at h1 h2;rw[hl,hvp,hp.takeE hs hu]at h1;exact⟨h1.trans h2.symm,fun g=>by omega⟩
 rw[if_neg o5]at h1 h2;by_cases o6:cd.op=6
 ·rw[if_pos o6]at h1;rw[if_pos o6]at h2;unfold VZ at h1 h2;rw[hl,hvp,hp.giveE hs hu,hp.held]at h1;exact⟨h1.trans h2.symm,fun g=>by omega⟩
 rw[if_neg o6]at h1 h2;by_cases o7:cd.op=7
 ·rw[if_pos o7]at h1;rw[if_pos o7]at h2;unfold VY at h1 h2;rw[hl,hp.held,<-vI,hv,vI]at h1;exact⟨h1.trans h2.symm,fun g=>by omega⟩
 rw[if_neg o7]at h1 h2;by_cases o8:cd.op=8
 ·rw[if_pos o8]at h1;rw[if_pos o8]at h2;have e:XP ps cd.B cd.C=XP qs cd.B cd.C:=by
   unfold XP;rw[hp.id_,hp.size,hp.fitO]
  unfold P0 at h1 h2;rw[hl,hvp,hp.takeE hs hu,e,<-rQ,hv,rQ]at h1;exact⟨h1.trans h2.symm,fun g=>by omega⟩
 rw[if_neg o8]at h1 h2;by_cases o9:cd.op=9
 ·rw[if_pos o9]at h1;rw[if_pos o9]at h2;exact⟨XQ.det hp hv hs hu h1 h2,fun g=>by omega⟩
 rw[if_neg o9]at h1 h2;by_cases o15:cd.op=15
 ·rw[if_pos o15]at h1;rw[if_pos o15]at h2;rw[<-vJ,hv,vJ]at h1;exact⟨h1.trans h2.symm,fun g=>by omega⟩
 rw[if_neg o15]at h1 h2;by_cases o16:cd.op=16
 ·rw[if_pos o16]at h1;rw[if_pos o16]at h2;rw[<-DK,hv,DK]at h1;exact⟨h1.trans h2.symm,fun g=>by omega⟩
 rw[if_neg o16]at h1 h2;split at h1
 ·rw[if_pos (by assumption)]at h2;rw[hvp]at h1;rcases h1 with ⟨a1,rfl,rfl⟩|⟨k,k1,a1,b1⟩
  ·rcases h2 with ⟨a2,rfl,rfl⟩|⟨j,j1,a2,b2⟩
   ·exact⟨rfl,fun _=>rfl⟩
   ·omega
  ·rcases h2 with ⟨a2,rfl,rfl⟩|⟨j,j1,a2,b2⟩
   ·omega
   ·obtain rfl:k=j:=by omega
    have:=b1.det (FV hv k) b2;exact⟨this.1,fun _=>this.2⟩
 ·rw[if_neg (by assumption)]at h2;exact⟨h1.trans h2.symm,fun g=>absurd g (by assumption)⟩
theorem DpR.det{t1 t2:Int}{rp qp:List Po}{rv qv:List Vn}(hp:gD ps qs)(hv:vs.map bA=us.map bA)(h1:DpR t ps vs A c m t1 rp rv)(h2:DpR t qs us A c m t2 qp qv):t1=t2/\gD rp qp/\rv.map bA=qv.map bA:=by
 obtain⟨k,i,u,k1,a1, -,r1,rfl,i1,s1,n1,b1,m1,g1⟩:=h1;obtain⟨j,i',u',j1,a2, -,r2,rfl,i2,s2,n2,b2,m2,g2⟩:=h2;have hl:=congrArg List.length hv;rw[List.length_map,List.length_map]at hl;rw[<-hl,<-MS hv]at a2;obtain rfl:k=j:=by omega
 have e:=FV hv k;obtain rfl:=r1.det e r2;rw[e.rs]at g1;have g:=g1.det hp g2;refine⟨g.1,g.2,mW hv (UV.can ⟨by rw[i1,i2,e.id],by rw[n1,n2,s1,s2,e.rs],by rw[s1,s2,e.rs],?_,b1.can.symm.trans (e.ss.trans b2.can)⟩)⟩;have:=congrArg List.length (b1.can.symm.trans (e.ss.trans b2.can));rw[List.length_map,List.length_map]at this;rw[m1,m2,this]
theorem WZ{n:Int}(h:UM s u)(hs:aS s.t s.ps=0)(hu:aS u.t u.ps=0)(hn:10<=cd.op/\cd.op<=14->n=n')(hE:jA s cd 0 n)(h1:mD s cd a l n r)(h2:mD u cd a' l' n' q):UM r q:=by
 obtain⟨t,ps,vs,ls⟩:=s;obtain⟨t',qs,us,ms⟩:=u;obtain⟨rt,rp,rv,rl⟩:=r;obtain⟨qt,qp,qv,ql⟩:=q;obtain⟨ht,hp,hv,hk⟩:=h;simp only at ht hp hv hk hs hu;subst ht;subst hk;have hl:=congrArg List.length hv;rw[List.length_map,List.length_map]at hl;have hvp:=MS hv us.length;unfold jA at hE;unfold mD at h1 h2;simp only[hl]at h1 h2 hE;by_cases o1:cd.op=1
 ·rw[if_pos o1]at h1;rw[if_pos o1]at h2;obtain⟨-, -, -,rfl,rfl,rfl,x1,s1,p1⟩:=h1;obtain⟨-, -, -,rfl,rfl,rfl,x2,s2,p2⟩:=h2;exact⟨rfl,p1.det (hp.to s1 s2) p2,hv,rfl⟩
 rw[if_neg o1]at h1 h2 hE;by_cases o2:cd.op=2
 ·rw[if_pos o2]at h1;rw[if_pos o2]at h2;obtain⟨-,rfl,rfl,rfl,e1,p1⟩:=h1;obtain⟨-,rfl,rfl,rfl,e2,p2⟩:=h2;rw[hp.nestRO hs hu,<-e2]at e1;simp only[Prod.mk.injEq]at e1;obtain⟨rfl,rfl⟩:=e1;exact⟨rfl,p1.det hp p2,hv,rfl⟩
 rw[if_neg o2]at h1 h2 hE;by_cases o3:cd.op=3
 ·rw[if_pos o3]at h1;rw[if_pos o3]at h2;obtain⟨-, -, -,rfl,rfl,p1⟩:=h1;obtain⟨-, -, -,rfl,rfl,p2⟩:=h2;have:=p1.det hp p2;exact⟨this.1,this.2,hv,rfl⟩
 rw[if_neg o3]at h1 h2 hE;by_cases o4:cd.op=4
 ·rw[if_pos o4]at h1;rw[if_pos o4]at h2;obtain⟨-, -, -,rfl,rfl,p1⟩:=h1;obtain⟨-, -, -,rfl,rfl,p2⟩:=h2;have:=CR.det hp p1 p2;exact⟨this.1,this.2,hv,rfl⟩
 rw[if_neg o4]at h1 h2 hE;by_cases o5:cd.op=5
 ·rw[if_pos o5]at h1;rw[if_pos o5]at h2;obtain⟨-,rfl,rfl,rfl,p1⟩:=h1;obtain⟨-,rfl,rfl,rfl,p2⟩:=h2;exact⟨rfl,(kJ.det hp p1 p2).2,hv,rfl⟩
 rw[if_neg o5]at h1 h2 hE;by_cases o6:cd.op=6
 ·rw[if_pos o6]at h1;rw[if_pos o6]at h2;obtain⟨-, -, -,rfl,rfl,p1⟩:=h1;obtain⟨-, -, -,rfl,rfl,p2⟩:=h2;have:=oE.det hp p1 p2;exact⟨this.1,this.2,hv,rfl⟩
 rw[if_neg o6]at h1 h2 hE;by_cases o7:cd.op=7
 ·rw[if_pos o7]at h1;rw[if_pos o7]at h2;obtain⟨-, -, -,rfl,rfl,p1,rfl⟩:=h1;obtain⟨-, -, -,rfl,rfl,p2,rfl⟩:=h2;exact⟨rfl,hp,by rw[p1.can,p2.can,hv],rfl⟩
 rw[if_neg o7]at h1 h2 hE;by_cases o8:cd.op=8
 ·rw[if_pos o8]at h1;rw[if_pos o8]at h2;obtain⟨-,rfl,p1,g1,rfl⟩:=h1;obtain⟨-,rfl,p2,g2,rfl⟩:=h2;obtain⟨e,hb⟩:=kJ.det hp p1 p2;simp only[Prod.mk.injEq]at e;obtain⟨rfl,rfl⟩:=e;exact⟨rfl,hb,by rw[<-g1.can,<-g2.can,mP,mP,hv,hvp],rfl⟩
 rw[if_neg o8]at h1 h2 hE;by_cases o9:cd.op=9
 ·rw[if_pos o9]at h1;rw[if_pos o9]at h2;obtain⟨-, -, -,rfl,p1⟩:=h1;obtain⟨-, -, -,rfl,p2⟩:=h2;have:=p1.det hp hv p2;exact⟨this.1,this.2.1,this.2.2,rfl⟩
 rw[if_neg o9]at h1 h2 hE;by_cases o15:cd.op=15
 ·rw[if_pos o15]at h1;rw[if_pos o15]at h2;obtain⟨-, -, -,rfl,rfl,p1,rfl⟩:=h1;obtain⟨-, -, -,rfl,rfl,p2,rfl⟩:=h2;exact⟨rfl,hp,p1.can.symm.trans (hv.trans p2.can),rfl⟩
 rw[if_neg o15]at h1 h2 hE;by_cases o16:cd.op=16
 ·rw[if_pos o16]at h1;rw[if_pos o16]at h2 hE;obtain⟨-, -, -,rfl,rfl,p1,c1⟩:=h1;obtain⟨-, -, -,rfl,rfl,p2,c2⟩:=h2;have hr:=KT hE.symm;exact⟨rfl,hp,p1.can.symm.trans (hv.trans p2.can),(L2 hr c1).trans (L2 hr c2).symm⟩
 rw[if_neg o16]at h1 h2 hE;have hop:10<=cd.op/\cd.op<=14:=by
  by_cases g:10<=cd.op/\cd.op<=14
  ·exact g
  ·rw[if_neg g]at hE;exact absurd hE (by decide)
 obtain rfl:=hn hop;obtain⟨-, -,rfl,rfl,rfl,k,u1,k1,a1,v1,rfl⟩:=h1;obtain⟨-, -,rfl,rfl,rfl,j,u2,j1,a2,v2,rfl⟩:=h2;rw[hvp]at a1;obtain rfl:k=j:=by omega
 exact⟨rfl,hp,mW hv (v1.det (FV hv k) v2),rfl⟩
theorem tZ.det{n:Int}(h:UM s u)(hs:aS s.t s.ps=0)(hF:cG s.ps)(hu:aS u.t u.ps=0)(hG:cG u.ps)(h1:tZ s cd E a l n r)(h2:tZ u cd E' a' l' n' q):UM r q:=by
 obtain⟨x,sx,h1⟩:=h1;obtain⟨y,sy,h2⟩:=h2;have hxy:=h.to sx sy;have cx:aS x.t x.ps=0:=by rw[sx.1];exact(jW hF sx.2.1 hs).1
 have cy:aS y.t y.ps=0:=by rw[sy.1];exact(jW hG sy.2.1 hu).1
 rcases h1 with ⟨e1,⟨n1,A1⟩, -, -, -,r1⟩|⟨rfl,A1,R1⟩
 ·rcases h2 with ⟨e2, -, -, -, -,r2⟩|⟨rfl,A2,R2⟩
  ·exact h.to r1 r2
  ·exact absurd (FW hxy cx cy A1 A2).1 e1
 ·rcases h2 with ⟨e2,⟨n2,A2⟩, -, -, -,r2⟩|⟨rfl,A2,R2⟩
  ·exact absurd (FW hxy cx cy A1 A2).1.symm e2
  ·exact WZ hxy cx cy (FW hxy cx cy A1 A2).2 A1 R1 R2
theorem W7:Wl ⟨0,[],[],[]⟩:=⟨by decide+kernel,fun i hi=>absurd hi (Nat.not_lt_zero _),Nat.zero_le _,Nat.zero_le _,fun v hv=>(by cases hv),fun v hv=>(by cases hv)⟩
theorem vZ(cs:List Cd):Rgt (fun _ s=>Wl s) cs where
 zero:=W7
 ok _ _ h:=⟨h.bk,h.few⟩
 step _ _ _ _ _ _ _ _ h hN hf:=tZ.wl h hN hf
theorem wA{f f':Nat->dP}{g g':Nat->Int×Int×Int×Int}(h:tP (fun _ s=>Wl s) cs f g n)(h':tP (fun _ s=>Wl s) cs f' g' n):∀j,j<=n->UM (f j) (f' j)
 |0,_=>by
  rw[h.first,h'.first];exact⟨rfl,rfl,rfl,rfl⟩
 |j+1,hj=>by
  have i1:=h.right j (by omega);have i2:=h'.right j (by omega);exact tZ.det (wA h h' j (by omega)) i1.bk i1.full i2.bk i2.full (h.steps j (by omega)) (h'.steps j (by omega))
theorem SO.see(h:SO w base ps vs ls vB vV vK)(hB:aS t ps=0):
  (∃x c,vB= .slice x ps.length c/\mX w x ps.length ps)/\NN w (.agg #[vV,vK]) vs ls:=by
 have hR:=nB h.bk.full hB;obtain⟨x,c,rfl,h1⟩:=h.bk.bk (fun i hi=>by
  have:=hR.n32 _ (poAt_mem hi);rw[h.bk.full i hi]at this;omega)
 exact⟨⟨x,c,rfl,h1.ps⟩,NN.of h.row (fun u hu=>(h.net u hu).ok) h.lks⟩
theorem qR{uB uV uK:Value}(h1:SO w b1 s.ps s.vs s.ls vB vV vK)(h2:SO w b2 u.ps u.vs u.ls uB uV uK)(hs:Wl s)(hu:Wl u)(he:UM s u):
  Calls Tryz.prog 8 #[AV s.t vB vV vK,AV u.t uB uV uK] w fun e w'=>e= .returned (.bool true)/\Below w.heap.size w w':=by
 obtain⟨⟨x,c,rfl,hp⟩,hn⟩:=h1.see hs.bk;obtain⟨⟨y,d,rfl,hq⟩,hm⟩:=h2.see hu.bk;have h8:=(nB hs.full hs.bk).few;rw[<-he.t,<-he.ps.len];rw[<-he.ps.len]at hq;rw[<-he.ls]at hm;have hsb:=fun W hb=>BY s.t x y s.ps.length c d s.ps u.ps W (hp.later hb) (hq.later hb) he.ps.same (by omega);have hsn:=fun W hb=>H4 (hn.later (w':=W) hb) (hm.later hb) he.vs;obtain⟨T,hT⟩:∃T,Hid (T=s.t):=⟨_,rfl⟩;rw[<-hT.out]at hsb⊢;generalize s.ps.length=k at hsb⊢;clear hp hq hn hm h1 h2 he hs hu h8 hT;go_enter Tryz.func8,Tryz.ntmps8;go_upto_region 1 with fail
 obtain⟨w0,hw0⟩:∃w0,w0=(w.alloc (iI T (.slice x k c) vV vK)).alloc (iI T (.slice y k d) uV uK):=⟨_,rfl⟩;rw[<-hw0];have hB0:Below w.heap.size w w0:=by rw[hw0];exact bO w _ _
 have hq0:w0.heap[w.heap.size]?=some (iI T (.slice x k c) vV vK):=by rw[hw0];exact aG _ (aB _ rfl)
 have hq1:w0.heap[w.heap.size+1]?=some (iI T (.slice y k d) uV uK):=by rw[hw0];exact aB _ (by simp)
 clear hw0;obtain⟨s0,s1⟩:=aR hq0 rfl rfl;obtain⟨t0,t1⟩:=aR hq1 rfl rfl;go_wp2_with fail;refine(hsb w0 hB0).mono ?_;rintro e w1 ⟨rfl,hb1⟩;have hB1:=hB0.trans (hb1.mono hB0.size);have s2:=(aC (aA hb1 hq0)).1 2;have s3:=(aC (aA hb1 hq0)).1 3;have t2:=(aC (aA hb1 hq1)).1 2;have t3:=(aC (aA hb1 hq1)).1 3;simp only[List.getElem?_toArray,List.getElem?_cons_zero,List.getElem?_cons_succ]at s2 s3 t2 t3;clear s0 s1 t0 t1 hsb hq0 hq1;go_wp2_with fail;refine(hsn w1 hB1).mono ?_;rintro e w2 ⟨rfl,hb2⟩;go_wp2;go_ret;exact⟨rfl,hB1.trans (hb2.mono hB1.size)⟩
def I2(K:List Cd):ByteArray:=strOfNums (gC (K.map cm))
theorem XY(K:List Cd):bs (I2 K)=gC (K.map cm):=BF (FQ _)
theorem qD(K:List Cd):(I2 K).size=42*K.length:=by rw[<-fD,XY,tS,List.length_map]
def Wrt(K:List Cd):Prop:=∀c∈K,okCm (cm c)=true/\tX c.A c.a c.l
theorem aCn(h:Wrt K):∀c∈K.map cm,okCm c=true:=fun c hc=>by
 obtain⟨d,hd,rfl⟩:=List.mem_map.1 hc;exact(h d hd).1
theorem UN(h:Wrt K){m:Nat}(hK:K.length<=200)(hm:m<=42*K.length):rp 200 (bs ((I2 K).extract 0 m))=(K.take (m/42)).map cm:=by
 rw[fE,List.drop_zero,Nat.sub_zero,XY,T1 _ 200 m (aCn h) (by rw[List.length_map];exact hK) (by rw[List.length_map];exact hm),List.map_take]
theorem aAb(K:List Cd):(I2 K).extract 0 (42*K.length)=I2 K:=by
 rw[<-qD];exact ByteArray.extract_zero_size
theorem UO(h:Wrt K)(hK:K.length<=200):rp 200 (bs (I2 K))=K.map cm:=by
 have:=UN h (m:=42*K.length) hK (zE);rw[aAb,Nat.mul_div_cancel_left _ (by decide),List.take_length]at this;exact this
theorem W8(K:List Cd)(C:Cd):I2 K++strOfNums (frameB (cmdB (cm C)))=I2 (K++[C]):=by
 unfold I2;rw[List.map_append,MM];simp[gC]
theorem K0.take{m:Nat}(h:K0 w x n cs)(hm:m<=n):K0 w x m (cs.take m):=by
 have e:∀i,i<m->cdAt (cs.take m) i=cdAt cs i:=fun i hi=>DV hi;refine⟨by rw[List.length_take,h.len];omega,fun i hi=>by rw[e i hi];exact h.wf i (by omega),fun i hi=>?_⟩;rw[e i hi];exact h.cells i (by omega)
theorem FX(x:Option Addr)(n c:Nat)(cs:List Cd)(cut:Int)(w:World)(hc:K0 w x n cs)(hn63:n<=9223372036854775807)(ha0: -9223372036854775808<=cut)(ha1:cut<=9223372036854775807)(hE:BN w):
  Calls Tryz.prog 3 #[.slice x n c, .int .i64 cut] w fun e w'=>e= .returned (.bool true)/\Below w.heap.size w w':=by
 have hbg:=fun W (hb:Below w.heap.size w W)=>CB W (hE.later hb);clear hE;go_enter Tryz.func3,Tryz.ntmps3;by_cases h60:60<n
 ·have hg:decide ((n:Int)>60)=true:=by simp;omega
  go_wp2_with fail;refine(hbg w (zD)).mono ?_;rintro _ w1 ⟨rfl,hb1⟩;go_wp2;go_ret;exact⟨rfl,hb1⟩
 have hg:decide ((n:Int)>60)=false:=by simp;omega
 go_wp2;go_loopw [5,6,7] (fun l k i wr=>∃(j:Nat) (K:List Cd),i= .int .i64 j/\j<=n/\K.length<=j/\l= .string (I2 K)/\OC wr w.heap.size k (K.map cm)/\Wrt K/\Below w.heap.size w wr) (fun _ _ i _=>n- (intOf i).toNat)
 case atStart=>exact⟨0,[],rfl,by omega,by simp,rfl,OC.nil _ _,fun c hc=>(by cases hc),zD⟩
 case round=>
  obtain⟨j,K,rfl,hj,hKj,rfl,hO,hW,hB⟩:=hrel
  obtain⟨y,cap,rfl,hcap,hcap2,hCS⟩:=hO.shape
  have hKl:Hid ((K.map cm).length=K.length):=List.length_map _
  rw[hKl.out]at hcap hCS⊢
  by_cases hlt:j<n
  ·have hlt':Hid (j<n):=hlt;obtain⟨b,o,rfl, -⟩:=hc.cells j hlt;have hd:∀W,Below w.heap.size w W->W.cell? ⟨b,o+j*10,none⟩=some (.int .i64 (cdAt cs j).op)/\W.cell? ⟨b,o+j*10+1,none⟩=some (.int .i64 (cdAt cs j).A)/\W.cell? ⟨b,o+j*10+2,none⟩=some (.int .i64 (cdAt cs j).B)/\W.cell? ⟨b,o+j*10+3,none⟩=some (.int .i64 (cdAt cs j).C)/\W.cell? ⟨b,o+j*10+4,none⟩=some (.int .i64 (cdAt cs j).a)/\W.cell? ⟨b,o+j*10+5,none⟩=some (.int .i64 (cdAt cs j).l)/\W.cell? ⟨b,o+j*10+6,none⟩=some (.int .i64 (cdAt cs j).mn)/\W.cell? ⟨b,o+j*10+7,none⟩=some (.int .i64 (cdAt cs j).mx)/\W.cell? ⟨b,o+j*10+8,none⟩=some (.int .i64 (cdAt cs j).us)/\W.cell? ⟨b,o+j*10+9,none⟩=some (.int .i64 (cdAt cs j).co):=fun W hb=>by
    obtain⟨b',o',e,h⟩:=(hc.later hb).cells j hlt
    cases e;exact h
   have hwf:=hc.wf j hlt;have hsb:=fun hC W=>PT (R:=fun _ s=>Wl s) (C:=cdAt cs j) (qD K) rfl (by omega) (UO hW (by omega)) (fun c hc=>(hW c hc).2) (vZ K) hC W;have hsa:=fun hC W=>DW (R:=fun _ s=>Wl s) (C:=cdAt cs j) (qD K) rfl (by omega) (UO hW (by omega)) (fun c hc=>(hW c hc).2) (vZ K) hC hwf W;have hKs:Hid (K.length<=j):=hKj;clear hKj hc;obtain⟨C,hC⟩:∃C,Hid (C=cdAt cs j):=⟨_,rfl⟩;rw[<-hC.out]at hd hsb hsa hwf;have hsn:=W8 K C;have hi1:(j:Int)<n:=by omega
   have hi2:(0:Int)<=j:=by omega
   obtain⟨d0,d1,d2,d3,d4,d5,d6,d7,d8,d9⟩:=hd wr hB
   cases hok:okCm (cm C)
   ·obtain⟨S,hS⟩:∃S,Hid (S=I2 K):=⟨_,rfl⟩;rw[<-hS.out]at hsb⊢;clear hsa hsn;go_wp2_with fail;refine(hsb hok wr).mono ?_;rintro _ w1 ⟨rfl,hb1⟩;clear d0 d1 d2 d3 d4 d5 d6 d7 d8 d9 hsb;have hb2:Below wr.heap.size wr (w1.alloc (FZ 0 0 0 0)):=hb1.trans ((bl1 w1 _).mono hb1.size);go_wp2;go_roundw
    case rel=>exact⟨j+1,K,by go_num,hlt'.out,by have:=hKs.out;omega,by rw[hS.out],by rw[<-hKl.out];exact hO.later hb2,hW,hB.trans (hb2.mono hB.size)⟩
    case measure=>simp[intOf];have:=hlt'.out;omega
   ·have hS2:=hsa hok;clear hsa hsb;obtain⟨S,hS⟩:∃S,Hid (S=I2 K):=⟨_,rfl⟩;rw[<-hS.out]at hS2 hsn⊢;obtain⟨F,hF⟩:∃F,Hid (F=strOfNums (frameB (cmdB (cm C)))):=⟨_,rfl⟩;rw[<-hF.out]at hS2 hsn;have hsn':Hid (S++F=I2 (K++[C])):=hsn;clear hsn;go_wp2_with fail;refine(hS2 wr).mono ?_;rintro _ w1 ⟨s,E,a,l,m, -,rfl,hb1, -⟩;clear d0 d1 d2 d3 d4 d5 d6 d7 d8 d9 hS2;by_cases hE0:E=0
    ·subst hE0;rw[if_pos rfl];go_upto_region 9 with fail
     obtain⟨w2,hw2⟩:∃w2,w2=w1.alloc (FZ 0 a l m):=⟨_,rfl⟩;rw[<-hw2];have hb2:Below wr.heap.size wr w2:=by rw[hw2];exact hb1.trans ((bl1 w1 _).mono hb1.size)
     have hq2:w2.heap[w1.heap.size]?=some (FZ 0 a l m):=by rw[hw2];exact aB _ rfl
     clear hw2;have q0:=aP hq2 0 rfl;have hB2:=hB.trans (hb2.mono hB.size);obtain⟨d0,d1,d2,d3,d4,d5,d6,d7,d8,d9⟩:=hd w2 hB2;clear hd;go_wp2_with (at_builtin;refine Hid.out ?_);unfold Hid;clear q0 d0 d1 d2 d3 d4 d5 d6 d7 d8 d9;have h03:Below wr.heap.size wr (w2.alloc (.cells (eU (cm C)).toArray 34)):=hb2.trans ((bl1 w2 _).mono hb2.size);have hO3:=hO.later h03;rw[hKl.out]at hO3;refine mB rfl _ _ rfl w.heap.size _ (K.map cm) rfl hO3 w2.heap.size 1 (cm C) rfl (fun i=>?_) (by rw[hKl.out];have:=hKs.out;omega) (Nat.le_trans hB.size h03.size) ?_
     ·exact((aC (aB (W:=w2) (.cells (eU (cm C)).toArray 34) rfl)).1 i).trans (by simp)
     ·intro v' w' hO' hg';have hB':=dM (hB.trans (h03.mono hB.size)) hg' (fun j e=>(hO3.lt j e).1);go_wp2;go_roundw
      case rel=>exact⟨j+1,K++[C],by go_num,hlt'.out,by have:=hKs.out;rw[List.length_append];simp;omega,by rw[hsn'.out],by rw[List.map_append];exact hO',fun d hd=>by
       rw[List.mem_append,List.mem_singleton]at hd;rcases hd with hd|rfl
       ·exact hW d hd
       ·exact⟨hok,hwf⟩,hB'⟩
      case measure=>simp[intOf];have:=hlt'.out;omega
    ·have hEz:(E==0)=false:=by simpa using hE0
     rw[if_neg hE0];clear hE0;go_upto_region 9 with fail
     obtain⟨w2,hw2⟩:∃w2,w2=w1.alloc (FZ E a l m):=⟨_,rfl⟩;rw[<-hw2];have hb2:Below wr.heap.size wr w2:=by rw[hw2];exact hb1.trans ((bl1 w1 _).mono hb1.size)
     have hq2:w2.heap[w1.heap.size]?=some (FZ E a l m):=by rw[hw2];exact aB _ rfl
     clear hw2;have q0:=aP hq2 0 rfl;go_wp2;go_roundw
     case rel=>exact⟨j+1,K,by go_num,hlt'.out,by have:=hKs.out;omega,by rw[hS.out],by rw[<-hKl.out];exact hO.later hb2,hW,hB.trans (hb2.mono hB.size)⟩
     case measure=>simp[intOf];have:=hlt'.out;omega
  ·have hK2:K.length<=60:=by omega
   have hwK:∀c∈K,tX c.A c.a c.l:=fun c hc=>(hW c hc).2;have hr1:=fun W=>iG (R:=fun _ s=>Wl s) (S:=I2 K) (by rw[qD];omega) rfl (UO hW (by omega)) hwK (vZ K) W;obtain⟨m,hm⟩:∃m:Nat,pU cut (42*K.length+1:Nat)=m:=⟨_,(Int.toNat_of_nonneg (sT cut (42*K.length+1:Nat) (by omega)).1).symm⟩;have hm2:m<=42*K.length:=by have:=(sT cut (42*K.length+1:Nat) (by omega)).2;omega
   have hch:=fun W=>JS cut (42*K.length+1:Nat) W ha0 ha1 (by omega) (by omega);rw[hm]at hch;have hcut:=UN hW (m:=m) (by omega) hm2;obtain⟨q,hqe⟩:∃q,m/42=q:=⟨_,rfl⟩;rw[hqe]at hcut;have hq:q<=K.length:=by omega
   have hqi:(m:Int)/42=q:=by omega
   have hr2:=fun W=>iG (R:=fun _ s=>Wl s) (S:=(I2 K).extract 0 m) (k:=q) (by rw[BI _ _ _ (by rw[qD];exact hm2) (Nat.zero_le _)];omega) (by rw[List.length_take];omega) hcut (fun c hc=>hwK c (List.mem_of_mem_take hc)) (vZ _) W;have hCd:∀W,Below wr.heap.size wr W->K0 W y K.length K:=fun W hb=>K0.of (hCS.later hb) hwK;have hp1:=fun W hb=>A0 (R:=fun _ s=>Wl s) y K.length cap K W (hCd W hb) (by omega) (vZ K);have hp2:=fun W hb=>A0 (R:=fun _ s=>Wl s) y q cap (K.take q) W ((hCd W hb).take hq) (by omega) (vZ _);have hz:=qD K;clear hCd hCS hO hwK hW hm hc hKl hcut hqe;generalize K.length=k at*;generalize I2 K=S at*;generalize K.take q=K' at*;clear hKj hj;go_wp2_with fail;refine(hr1 wr).mono ?_;rintro _ w1 ⟨f,g,vB,vV,vK,rfl,hb1,hO1,hP1⟩;obtain⟨x1,c1,X1,C1,Y1,D1,rfl,rfl,rfl⟩:=hO1.slices;go_upto_region 14 with fail
   obtain⟨w2,hw2⟩:∃w2,w2=w1.alloc (iI (f k).t (.slice x1 (f k).ps.length c1) (.slice X1 (f k).vs.length C1) (.slice Y1 (f k).ls.length D1)):=⟨_,rfl⟩;rw[<-hw2];have hb12:Below w1.heap.size w1 w2:=by rw[hw2];exact bl1 w1 _
   have hq2:w2.heap[w1.heap.size]?=some (iI (f k).t (.slice x1 (f k).ps.length c1) (.slice X1 (f k).vs.length C1) (.slice Y1 (f k).ls.length D1)):=by rw[hw2];exact aB _ rfl
   clear hw2;have hB2:=hb1.trans (hb12.mono hb1.size);go_wp2_with fail;refine(hp1 w2 hB2).mono ?_;rintro _ w3 ⟨-,hpy⟩;obtain⟨f',g',uB,uV,uK,ba,rfl,hb3,hO3, -,hP3⟩:=hpy (by omega);clear hpy;obtain⟨x3,c3,X3,C3,Y3,D3,rfl,rfl,rfl⟩:=hO3.slices;go_upto_region 15 with fail
   obtain⟨w4,hw4⟩:∃w4,w4=w3.alloc (iI (f' k).t (.slice x3 (f' k).ps.length c3) (.slice X3 (f' k).vs.length C3) (.slice Y3 (f' k).ls.length D3)):=⟨_,rfl⟩;rw[<-hw4];have hb34:Below w3.heap.size w3 w4:=by rw[hw4];exact bl1 w3 _
   have hq4:w4.heap[w3.heap.size]?=some (iI (f' k).t (.slice x3 (f' k).ps.length c3) (.slice X3 (f' k).vs.length C3) (.slice Y3 (f' k).ls.length D3)):=by rw[hw4];exact aB _ rfl
   clear hw4;have hb24:=hb3.trans (hb34.mono hb3.size);have hB4:=hB2.trans (hb24.mono hB2.size);have hs1:=qR (hO1.later (hb12.trans (hb24.mono hb12.size))) (hO3.later hb34) (hP1.right k (zE)) (hP3.right k (zE)) (wA hP1 hP3 k (zE));clear hP1 hP3 hO1 hO3;have s0:=(aC (aA hb24 hq2)).1 0;have s1:=(aC (aA hb24 hq2)).1 1;have s2:=(aC (aA hb24 hq2)).1 2;have s3:=(aC (aA hb24 hq2)).1 3;obtain⟨t0,t1,t2,t3⟩:=dL hq4 rfl rfl rfl rfl;simp only[List.getElem?_toArray,List.getElem?_cons_zero,List.getElem?_cons_succ]at s0 s1 s2 s3;go_wp2_with fail;refine hs1.mono ?_;rintro _ w5 ⟨rfl,hb5⟩;have hB5:=hB4.trans (hb5.mono hB4.size);clear s0 s1 s2 s3 t0 t1 t2 t3 hs1 hq2 hq4 hb1 hb12 hb3 hb34 hb24;go_wp2_with fail;refine(hch w5).mono ?_;rintro _ w6 ⟨rfl,rfl⟩;go_wp2_with fail;refine(hr2 w6).mono ?_;rintro _ w7 ⟨f7,g7,vB,vV,vK,rfl,hb7,hO7,hP7⟩;obtain⟨x7,c7,X7,C7,Y7,D7,rfl,rfl,rfl⟩:=hO7.slices;go_upto_region 19 with fail
   obtain⟨w8,hw8⟩:∃w8,w8=w7.alloc (iI (f7 q).t (.slice x7 (f7 q).ps.length c7) (.slice X7 (f7 q).vs.length C7) (.slice Y7 (f7 q).ls.length D7)):=⟨_,rfl⟩;rw[<-hw8];have hb78:Below w7.heap.size w7 w8:=by rw[hw8];exact bl1 w7 _
   have hq8:w8.heap[w7.heap.size]?=some (iI (f7 q).t (.slice x7 (f7 q).ps.length c7) (.slice X7 (f7 q).vs.length C7) (.slice Y7 (f7 q).ls.length D7)):=by rw[hw8];exact aB _ rfl
   clear hw8;have hb68:=hb7.trans (hb78.mono hb7.size);have hB8:=hB5.trans (hb68.mono hB5.size);have g1:(q:Int)<=k:=by omega
   go_upto_region 21 with fail
   go_wp2_with fail;refine(hp2 w8 (hB4.trans (hb5.mono hB4.size)|>.trans (hb68.mono hB5.size))).mono ?_;rintro _ w9 ⟨-,hpy⟩;obtain⟨f9,g9,uB,uV,uK,bc,rfl,hb9,hO9, -,hP9⟩:=hpy (by omega);clear hpy;obtain⟨x9,c9,X9,C9,Y9,D9,rfl,rfl,rfl⟩:=hO9.slices;go_upto_region 22 with fail
   obtain⟨wa,hwa⟩:∃wa,wa=w9.alloc (iI (f9 q).t (.slice x9 (f9 q).ps.length c9) (.slice X9 (f9 q).vs.length C9) (.slice Y9 (f9 q).ls.length D9)):=⟨_,rfl⟩;rw[<-hwa];have hb9a:Below w9.heap.size w9 wa:=by rw[hwa];exact bl1 w9 _
   have hqa:wa.heap[w9.heap.size]?=some (iI (f9 q).t (.slice x9 (f9 q).ps.length c9) (.slice X9 (f9 q).vs.length C9) (.slice Y9 (f9 q).ls.length D9)):=by rw[hwa];exact aB _ rfl
   clear hwa;have hb8a:=hb9.trans (hb9a.mono hb9.size);have hBa:=hB8.trans (hb8a.mono hB8.size);have hBw:=hB.trans (hBa.mono hB.size);have hs9:=fun W hb=>qR (hO7.later ((hb78.trans (hb8a.mono hb78.size)).trans (Below.mono (w':=W) hb (Nat.le_trans hb78.size hb8a.size)))) ((hO9.later hb9a).later hb) (hP7.right q (zE)) (hP9.right q (zE)) (wA hP7 hP9 q (zE));clear hP7 hP9 hO7 hO9;go_wp2_with fail;refine(hbg wa hBw).mono ?_;rintro _ wb ⟨rfl,hbb⟩;have s0:=(aC (aA hbb (aA hb8a hq8))).1 0;have s1:=(aC (aA hbb (aA hb8a hq8))).1 1;have s2:=(aC (aA hbb (aA hb8a hq8))).1 2;have s3:=(aC (aA hbb (aA hb8a hq8))).1 3;have t0:=(aC (aA hbb hqa)).1 0;have t1:=(aC (aA hbb hqa)).1 1;have t2:=(aC (aA hbb hqa)).1 2;have t3:=(aC (aA hbb hqa)).1 3;simp only[List.getElem?_toArray,List.getElem?_cons_zero,List.getElem?_cons_succ]at s0 s1 s2 s3 t0 t1 t2 t3;go_wp2_with fail;refine(hs9 wb hbb).mono ?_;rintro _ wc ⟨rfl,hbc⟩;have hBb:=hBw.trans (hbb.mono hBw.size);go_wp2;go_ret;exact⟨rfl,hBb.trans (hbc.mono hBb.size)⟩
open Go.ChangeShapes Go.WideShapes Go.ChangeAt Go.RowKit Go.Joins
theorem XA:Tryz.prog.cellsOf 34=10:=by kernel_rfl
theorem IW{Q:Nat->Cd}(h:i<n):cdAt ((List.range n).map Q) i=Q i:=by
 unfold cdAt;rw[zF,List.getElem?_map,List.getElem?_range h];rfl
section
variable {H : Type} {enc : TypeId × Value → H} {w : World} {base : Nat} {spare : Nat → Bool} {held : Bool}
theorem lJ{y:Option (DataW H×List MemPlace)}(hy:y.isSome=true)(h:DataW.trod enc Tryz.prog w base spare held n 3 [v]=y):∃a:Int,v= .int .i64 a/\(Lit.int .i64 a).wf=true:=by
 obtain⟨y,rfl⟩:=Option.isSome_iff_exists.1 hy;obtain⟨a,e, -,hw⟩:=DataW.trod_int Tryz.underlying3 h;simp at e;exact⟨a,e,hw⟩
theorem XB{cs:List Value}{x:DataW H×List MemPlace}(hl:cs.length=10)(h:DataW.trod enc Tryz.prog w base spare held n 34 cs=some x):∃c:Cd,cs=(cmL c).toList/\tX c.A c.a c.l:=by
 obtain⟨xs,k, -, -, -,hxl,hf⟩:=DataW.trod_struct Tryz.underlying34 h;match cs,hl with
 |[v0,v1,v2,v3,v4,v5,v6,v7,v8,v9],_=>
  have g0:=hf 0 _ rfl
  have g1:=hf 1 _ rfl
  have g2:=hf 2 _ rfl
  have g3:=hf 3 _ rfl
  have g4:=hf 4 _ rfl
  have g5:=hf 5 _ rfl
  have y:∀i,i<6->(xs[i]?).isSome=true:=fun i hi=>mI hxl hi
  simp[QI,X4,YK]at g0 g1 g2 g3 g4 g5
  obtain⟨a0,rfl, -⟩:=lJ (y 0 (by omega)) g0
  obtain⟨a1,rfl,w1⟩:=lJ (y 1 (by omega)) g1
  obtain⟨a2,rfl, -⟩:=lJ (y 2 (by omega)) g2
  obtain⟨a3,rfl, -⟩:=lJ (y 3 (by omega)) g3
  obtain⟨z4,h4⟩:=Option.isSome_iff_exists.1 (y 4 (by omega))
  obtain⟨z5,h5⟩:=Option.isSome_iff_exists.1 (y 5 (by omega))
  rw[h4]at g4
  rw[h5]at g5
  obtain⟨us,k4, -, -, -,hul,hu⟩:=DataW.trod_struct Tryz.underlying26 g4
  obtain⟨ts,k5, -, -, -,htl,ht⟩:=DataW.trod_struct Tryz.underlying32 g5
  have p0:=hu 0 _ rfl
  have p1:=hu 1 _ rfl
  have r0:=ht 0 _ rfl
  have r1:=ht 1 _ rfl
  have r2:=ht 2 _ rfl
  have r3:=ht 3 _ rfl
  simp[QI]at p0 p1 r0 r1 r2 r3
  obtain⟨a4,rfl,w4⟩:=lJ (mI hul (by decide)) p0
  obtain⟨a5,rfl,w5⟩:=lJ (mI hul (by decide)) p1
  obtain⟨a6,rfl, -⟩:=lJ (mI htl (by decide)) r0
  obtain⟨a7,rfl, -⟩:=lJ (mI htl (by decide)) r1
  obtain⟨a8,rfl, -⟩:=lJ (mI htl (by decide)) r2
  obtain⟨a9,rfl, -⟩:=lJ (mI htl (by decide)) r3
  exact⟨⟨a0,a1,a2,a3,a4,a5,a6,a7,a8,a9⟩,rfl,w1,w4,w5⟩
end
theorem UP{H:Type}{enc:TypeId×Value->H}{r:Reach}{d:DataW H}{p:List MemPlace}
 (hv:Value.okWide Tryz.prog w r b0 22 v)(h:DataW.Trod enc Tryz.prog w 0 (fun _=>true) true 22 v d p):
  ∃(x:Option Addr) (n c:Nat) (cs:List Cd),v= .slice x n c/\K0 w x n cs/\n<=c/\c<=9223372036854775807/\(n=0\/∃elems sp,d= .slice elems sp/\elems.length=n):=by
 obtain⟨x,n,c,rfl⟩:=okWide_slice Tryz.underlying22 hv;obtain⟨fuel,hf⟩:=h;rcases Deep.open_slice Tryz.underlying22 hf with ⟨h0, -⟩|⟨a,len,cap,m,k,D,Pl,h1, -,hl,hm,hmm,hx,hcell⟩
 ·simp[Value.cells]at h0;obtain⟨rfl,rfl,rfl⟩:=h0;exact⟨none,0,0,[],rfl,⟨rfl,fun i hi=>(by cases hi),fun i hi=>by cases hi⟩,by omega,by omega, .inl rfl⟩
 ·simp[Value.cells]at h1;obtain⟨rfl,rfl,rfl⟩:=h1;simp at hmm;have hmm':=hmm.symm;subst hmm';clear hmm;have hd:d= .slice ((List.range n).map D) ((List.range (c- n)).map fun j=>D (n+j)):=(Prod.mk.inj hx).1;have each:∀i,i<c->∃q:Cd,tX q.A q.a q.l/\∀j,j<10->w.cell? (a.add (i*10+j))=(cmL q).toList[j]?:=fun i hi=>by
   obtain⟨cs',e1,e2⟩:=hcell i hi;rw[XA]at e1;obtain⟨-,hlen,hc⟩:=World.cells?_some e1;obtain⟨q,rfl,hwf⟩:=XB hlen e2;exact⟨q,hwf,fun j hj=>by
    have:=hc j hj;rw[Deep.add_add]at this;exact this⟩
  have:Inhabited Cd:=⟨⟨0,0,0,0,0,0,0,0,0,0⟩⟩;obtain⟨Q,hQ⟩:=Deep.choose_lt each;have hmax:c<=9223372036854775807:=by unfold maxLen at hm;omega
  by_cases hn0:n=0
  ·subst hn0;exact⟨some a,0,c,[],rfl,⟨rfl,fun i hi=>(by cases hi),fun i hi=>by cases hi⟩,by omega,hmax, .inl rfl⟩
  ·have hsp:a.spot=none:=by
    have h0:=(hQ 0 (by omega)).2 0 (by omega);have h1:w.cell? (a.add (0*10+0))=some (.int .i64 (Q 0).op):=h0;have:=World.cell?_spot h1;simpa[Addr.add]using this
   obtain⟨b,o,sp⟩:=a;simp only at hsp;subst hsp;refine⟨some ⟨b,o,none⟩,n,c,(List.range n).map Q,rfl,⟨by simp,fun i hi=>?_,fun i hi=>⟨b,o,rfl,?_⟩⟩,hl,hmax, .inr ⟨_,_,hd,by simp⟩⟩
   ·rw[IW hi];exact(hQ i (by omega)).1
   rw[IW hi];have e:∀j,j<10->∀u,(cmL (Q i)).toList[j]?=some u->w.cell? ⟨b,o+i*10+j,none⟩=some u:=fun j hj u hu=>by
    have:=(hQ i (by omega)).2 j hj;rw[jN,hu,<-Nat.add_assoc]at this;exact this
   exact⟨e 0 (by omega) _ rfl,e 1 (by omega) _ rfl,e 2 (by omega) _ rfl,e 3 (by omega) _ rfl,e 4 (by omega) _ rfl,e 5 (by omega) _ rfl,e 6 (by omega) _ rfl,e 7 (by omega) _ rfl,e 8 (by omega) _ rfl,e 9 (by omega) _ rfl⟩
end Go.Proofs.YtjphnaccgfjnjaaGreatDoor
namespace Go.Proofs.YtjphnaccgfjnjaaGreatDoor.deskKept
variable {s q u r : dP} {vs us : List Vn} {v vB vV vK : Value} {c m t A E E' n' a l a' l' : Int} {i j n base b1 b2 b0 : Nat} {ps qs : List Po} {cd : Cd} {cs K : List Cd} {w W : World} {ls : List (Int × Int)} {x : Option Addr}
open Go.ChangeShapes Go.WideShapes Go.ChangeAt Go.RowKit Go.Joins
theorem gTabType:(Tryz.prog.globals[1]?).map (·.type)=some 338:=by kernel_rfl
theorem gT6:Tryz.prog.globalNamed "math/bits.deBruijn64tab" =some 3:=by kernel_rfl
theorem gT6Type:(Tryz.prog.globals[3]?).map (·.type)=some 355:=by kernel_rfl
theorem cT:Tryz.prog.cellsOf 338=20:=by kernel_rfl
theorem cT6:Tryz.prog.cellsOf 355=64:=by kernel_rfl
theorem cU:Tryz.prog.cellsOf 307=1:=by kernel_rfl
theorem cU6:Tryz.prog.cellsOf 5=1:=by kernel_rfl
theorem env_of_laid(h:laidMetH Tryz.prog Rows.deskKeptRow.laid W):BN W:=by
 have h0:laidMet Tryz.prog Rows.deskKeptRow.laid W:=h;have h1:=laidMet.tail h0;have h2:=laidMet.tail h1;have t6:Lib.TabIs Tryz.prog W "math/bits.deBruijn64tab" .u8 [0,1,56,2,57,49,28,3,61,58,42,50,38,29,17,4,62,47,59,36,45,43,51,22,53,39,33,30,24,18,12,5,63,55,48,27,60,41,37,16,46,35,44,21,52,32,23,11,54,26,40,15,34,20,31,10,25,14,19,9,13,8,7,6]:=Lib.tabIs_of_head gT6 gT6Type Tryz.underlying355 Tryz.underlying5 cU6 cT6 h1;have tab:Lib.TabIs Tryz.prog W "internal/strconv.uint64pow10" .u64 Lib.pow10Tab:=Lib.tabIs_of_head aBw gTabType Tryz.underlying338 Tryz.underlying307 cU cT h2;have c:=t6.cell gT6 0 (by decide);refine⟨tab,?_⟩;rcases Nat.lt_or_ge 3 W.heap.size with h'|h'
 ·exact h'
 ·unfold World.cell? at c;simp[Array.getElem?_eq_none h']at c
theorem contract(H:Type)(enc:TypeId×Value->H)(W:World)(base:Nat)(args:Array Value)(ds gs:List (DataW H))(before:List MemPlace)
 (hval:∀(j:Nat) t v,Tryz.f3.params[j]?=some t->args[j]?=some v->Value.okWide Tryz.prog W .any base t v)
 (hW:DataW.Whole enc Tryz.prog Tryz.f3.params.toList Rows.deskKeptSpec.vars false W args.toList ds gs before)(hL:laidMetH Tryz.prog Rows.deskKeptRow.laid W):
  Calls Tryz.prog 3 args W fun e W'=>∃v,e= .returned v/\Rows.deskKeptSpec.post enc Tryz.prog Tryz.f3 false true false false W args v W':=by
 have hW':=hW;obtain⟨p,q,hA0,hV,rfl,hfz,hnd⟩:=hW;have hA:DataW.TrodAll enc Tryz.prog W 0 (fun _=>true) true Tryz.f3.params.toList args.toList ds p:=hA0;rw[Tryz.params3]at hA hval;obtain⟨v0,vs0,d0,ds0,p0,q0,hargs0,rfl,rfl,h0,r0⟩:=trodAll_cons hA;obtain⟨v1,vs1,d1,ds1,p1,q1,hargs1,rfl,rfl,h1,r1⟩:=trodAll_cons r0;obtain⟨rfl,rfl,rfl⟩:=trodAll_nil r1;obtain rfl:args=#[v0,v1]:=by cases args;simp_all
 obtain⟨rfl,rfl⟩:=trodVars_none hV;clear hA0;obtain⟨x,n,c,cs,rfl,hps,hnc,hc, -⟩:=UP (hval 0 22 v0 rfl rfl) h0;obtain⟨y,rfl,rfl,rfl,wy⟩:=open_int Tryz.underlying3 (hval 1 3 v1 rfl rfl) h1;obtain⟨ya,yb⟩:=QJ wy;have hlt0:∀z∈p0,z.block<W.heap.size:=fun z hz=>hW'.lt z (by simp[hz]);simp only[List.append_nil]at hW';refine(FX x n c cs y W hps (Nat.le_trans hnc hc) ya yb (env_of_laid hL)).mono fun e W' ⟨he,hb⟩=>?_;subst he;refine⟨_,rfl,_,_,_,[],p0++([]++[]),[],hW',?_,?_,rfl,hb.frame _,fun h=>by cases h⟩
 ·exact trodAll_cons_mk (shut_bool Tryz.underlying4 _) trodAll_mk0
 ·exact trodAll_cons_mk (Below.trod U6 (by kernel_rfl) (of_decide_eq_true (by kernel_rfl)) h0 hb hlt0) (trodAll_cons_mk (shut_int Tryz.underlying3 wy) trodAll_mk0)
def layW(w0:World):World:=
 {w0 with heap:=((w0.heap.modify 2 fun
   | .cells _ t frozen=> .cells #[.int .u8 0, .int .u8 1, .int .u8 28, .int .u8 2, .int .u8 29, .int .u8 14, .int .u8 24, .int .u8 3, .int .u8 30, .int .u8 22, .int .u8 20, .int .u8 15, .int .u8 25, .int .u8 17, .int .u8 4, .int .u8 8, .int .u8 31, .int .u8 27, .int .u8 13, .int .u8 23, .int .u8 21, .int .u8 19, .int .u8 16, .int .u8 7, .int .u8 26, .int .u8 12, .int .u8 18, .int .u8 6, .int .u8 11, .int .u8 5, .int .u8 10, .int .u8 9] t frozen
   |o=>o).modify 3 fun
   | .cells _ t frozen=> .cells #[.int .u8 0, .int .u8 1, .int .u8 56, .int .u8 2, .int .u8 57, .int .u8 49, .int .u8 28, .int .u8 3, .int .u8 61, .int .u8 58, .int .u8 42, .int .u8 50, .int .u8 38, .int .u8 29, .int .u8 17, .int .u8 4, .int .u8 62, .int .u8 47, .int .u8 59, .int .u8 36, .int .u8 45, .int .u8 43, .int .u8 51, .int .u8 22, .int .u8 53, .int .u8 39, .int .u8 33, .int .u8 30, .int .u8 24, .int .u8 18, .int .u8 12, .int .u8 5, .int .u8 63, .int .u8 55, .int .u8 48, .int .u8 27, .int .u8 60, .int .u8 41, .int .u8 37, .int .u8 16, .int .u8 46, .int .u8 35, .int .u8 44, .int .u8 21, .int .u8 52, .int .u8 32, .int .u8 23, .int .u8 11, .int .u8 54, .int .u8 26, .int .u8 40, .int .u8 15, .int .u8 34, .int .u8 20, .int .u8 31, .int .u8 10, .int .u8 25, .int .u8 14, .int .u8 19, .int .u8 9, .int .u8 13, .int .u8 8, .int .u8 7, .int .u8 6] t frozen
   |o=>o).modify 1 fun
   | .cells _ t frozen=> .cells #[.int .u64 1, .int .u64 10, .int .u64 100, .int .u64 1000, .int .u64 10000, .int .u64 100000, .int .u64 1000000, .int .u64 10000000, .int .u64 100000000, .int .u64 1000000000, .int .u64 10000000000, .int .u64 100000000000, .int .u64 1000000000000, .int .u64 10000000000000, .int .u64 100000000000000, .int .u64 1000000000000000, .int .u64 10000000000000000, .int .u64 100000000000000000, .int .u64 1000000000000000000, .int .u64 10000000000000000000] t frozen
   |o=>o}
theorem laid_met(os:Os)(args:Array Value):laidMet Tryz.prog Rows.deskKeptRow.laid ((layW (World.holding Tryz.prog os ⟨#[],#[],[]⟩)).forCall (fun _ _=>0) ⟨#[],args,[]⟩).memory:=
 laidMet_of_run' 8 (by kernel_rfl) (by kernel_rfl)
theorem reads(os:Os){H:Type}(enc:TypeId×Value->H):∃places,DataW.whole enc Tryz.prog ((layW (World.holding Tryz.prog os ⟨#[],#[],[]⟩)).forCall (fun _ _=>0) ⟨#[],#[.slice none 0 0, .int .i64 0],[]⟩).memory Tryz.f3.params.toList Rows.deskKeptSpec.vars false #[(.slice none 0 0:Value), .int .i64 0].toList 8=some ([.nil, .lit (.int .i64 0)],[],places):=
 ⟨[],by kernel_rfl⟩
theorem lifted(os:Os)(started:os.Started)(H:Type)(enc:TypeId×Value->H)(F:Stop.Interp):
  ReturnsInHanded {} Tryz.checked os 3 .any ((OpenSpec.ofChange Rows.deskKeptSpec).preRow enc Tryz.prog Tryz.f3 Rows.deskKeptRow.domain false Rows.deskKeptRow.laid) (((OpenSpec.ofChange Rows.deskKeptSpec).at F).post enc Tryz.prog Tryz.f3 false true false false):=by
 obtain⟨places,hx⟩:=reads os enc;refine returnsInHanded_of_row (C:=Tryz.checked) (s:=OpenSpec.ofChange Rows.deskKeptSpec) own started (by kernel_rfl) Tryz.func3
  (witness_row_at (enc:=enc) (C:=Tryz.checked) false (layW (World.holding Tryz.prog os ⟨#[],#[],[]⟩)) #[.slice none 0 0, .int .i64 0] rfl (by kernel_rfl) (by kernel_rfl) (by kernel_rfl)
   (OpenSpec.preRow_of_cond 8 hx (by kernel_rfl) (fun k hk=>by cases hk) (by kernel_rfl) (laid_met os _))) ?_
 intro W base args ds gs before hval hW _ _ _ hL _ _;exact contract H enc W base args ds gs before hval hW hL
abbrev Rw:=Rows.deskKeptRow
theorem k1:(Rw.inPlace==Tryz.prog.inPlace 3)=true:=by kernel_rfl
theorem k2:(Rw.unfollowed==Tryz.prog.unfollowed 3)=true:=by kernel_rfl
theorem k3:(Rw.recurses==Tryz.prog.recurses 3)=true:=by kernel_rfl
theorem k4:(Rw.named==Tryz.prog.varsNamed 3)=true:=by kernel_rfl
theorem closed:joinedFacts Tryz.prog 3 Tryz.f3 (OpenSpec.ofChange Rows.deskKeptSpec).bare Rw=true:=by
 unfold joinedFacts;rw[k1,k2,k3,k4];kernel_rfl
theorem said:Rows.DeskKeptSaid:=
 OpenClaim.holds_of_cond 3 Tryz.f3 rfl rfl rfl rfl rfl rfl rfl ⟨rfl,rfl,rfl,rfl,rfl⟩ rfl rfl rfl rfl rfl (by kernel_rfl) Tryz.func3 closed
  (of_decide_eq_true (by kernel_rfl)) (by unfold Func.isWrapper;first|(rw[if_pos (by decide+kernel)];kernel_rfl)|(rw[if_neg (by decide+kernel)];exact⟨rfl,rfl⟩))
  (fun os started H enc _ F=>by rw[OpenClaim.pre_eq_preRow];exact lifted os started H enc F)
theorem plain(f:FuncId)(fn:Func)(hf:Tryz.pinned.checked.prog.funcNamed "parcelway/parcelwaylaw.DeskKept" =some f)(hfn:Tryz.pinned.checked.prog.funcs[f]?=some fn):
  false=Tryz.pinned.checked.prog.looks []/\∀(j:Nat) t,fn.params[j]?=some t->Tryz.pinned.checked.prog.wantsStandIn t=false:=by
 obtain rfl:f=3:=Option.some.inj ((show Tryz.prog.funcNamed "parcelway/parcelwaylaw.DeskKept" =some 3 by kernel_rfl).symm.trans hf)|>.symm;obtain rfl:fn=Tryz.f3:=(Option.some.inj (Tryz.func3.symm.trans hfn)).symm;refine⟨by kernel_rfl,fun j t ht=>?_⟩;rw[Tryz.params3]at ht;have ht3:t=22\/t=3:=by simpa using Array.mem_of_getElem? ht
 rcases ht3 with rfl|rfl
 ·exact(show Tryz.prog.wantsStandIn 22=false by kernel_rfl)
 ·exact(show Tryz.prog.wantsStandIn 3=false by kernel_rfl)
end Go.Proofs.YtjphnaccgfjnjaaGreatDoor.deskKept
namespace Go.Proofs.YtjphnaccgfjnjaaGreatDoor
variable {s q u r : dP} {vs us : List Vn} {v vB vV vK : Value} {c m t A E E' n' a l a' l' : Int} {i j n base b1 b2 b0 : Nat} {ps qs : List Po} {cd : Cd} {cs K : List Cd} {w W : World} {ls : List (Int × Int)} {x : Option Addr}
theorem deskKept_card:Rows.DeskKeptCardSaid:=
 Claim7.holds_tied_plain_at .later [] _ _ _ _ deskKept.said (fun _ h=>by cases h) (by kernel_rfl) (fun _ h=>by cases h) deskKept_row_tie rfl ⟨rfl,rfl⟩ (by kernel_rfl) rfl deskKept.plain (by kernel_rfl)
end Go.Proofs.YtjphnaccgfjnjaaGreatDoor
