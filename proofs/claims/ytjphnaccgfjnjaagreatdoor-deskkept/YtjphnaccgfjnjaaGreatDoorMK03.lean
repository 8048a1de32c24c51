/- A part of the proof. -/
import Derived.Test.YtjphnaccgfjnjaaGreatDoorMK02
set_option maxRecDepth 100000
set_option maxHeartbeats 20000000
namespace Go.Proofs.YtjphnaccgfjnjaaGreatDoor
variable {f R ok g : Nat → Bool} {k n i q c b j : Nat} {z v v0 v1 v2 v3 v4 : Value} {t : TypeId} {ls : List Le} {w V V' w' : World} {a l : Int} {o : List (Int × Int)} {x : Option Addr} {cs : Array Value} {ps : List Po} {p : Po} {ops : Array Oper} {C : World → Prop} {A : Act} {rest : List Oper} {e : Le}
open Go.RowKit Go.Shelf
def sH(f ty st k:Nat):Prop:=∀z y,Ty ty st k z y->∀(n:Nat) (w:World),n<=1000->Calls Tryz.prog f #[.slice none 0 0, .int .i64 n] w fun e w'=>∃v,e= .returned v/\Below w.heap.size w w'/\w'.ownsRow w.heap.size ty k v 0 []
theorem aAv:sH 244 87 83 5/\sH 241 85 35 9/\sH 269 127 89 3/\sH 250 130 90 4/\sH 252 133 128 2/\sH 255 3 131 1/\sH 245 92 38 3/\sH 230 94 39 2:=by
 refine⟨?_,?_,?_,?_,?_,?_,?_,?_⟩;all_goals
  intro z y hT n w hn
  first|go_enter Tryz.func244,Tryz.ntmps244|go_enter Tryz.func241,Tryz.ntmps241|go_enter Tryz.func269,Tryz.ntmps269|go_enter Tryz.func250,Tryz.ntmps250|go_enter Tryz.func252,Tryz.ntmps252|go_enter Tryz.func255,Tryz.ntmps255|go_enter Tryz.func245,Tryz.ntmps245|go_enter Tryz.func230,Tryz.ntmps230
  rcases Nat.eq_zero_or_pos n with rfl|h0
  ·go_wp2;go_ret;exact⟨_,rfl,zD,World.ownsRow_nil _ _ _ _⟩
  ·obtain⟨G,V,hGn,hG,hV,hrz⟩:=QR hT n w h0 hn;have h1:¬((n:Int)<0):=by omega
   have h4:(n:Int)>0:=by omega
   have hG63:G<=9223372036854775807:=by unfold maxLen at hG;omega
   go_wp2_with (at_builtin;refine Lib.wpList_append_run _ rfl _ _ _ _ rfl _ _ rfl rfl _ _ (hrz _) ?_);go_ret;exact⟨_,rfl,(bl1 w _).drew,(World.ownsRow_made w _ G (zE) hG hV).drew⟩
def numTo(nl:Nat->Nat):Nat->Nat
 |0=>0
 |j+1=>numTo nl j+nl j
def sI(ql:Nat->List Value):Nat->List Value
 |0=>[]
 |j+1=>sI ql j++ql j
def iW(f ty st k:Nat):Prop:=∀z y,Ty ty st k z y->∀(B p p':Nat) (xl:Nat->Option Addr) (nl cl:Nat->Nat) (ql:Nat->List Value) (w:World),p<=3->(∀j,j<p->w.cell? ⟨B,j,none⟩=some (.slice (xl j) (nl j) (cl j)))->(∀j,j<p->Rw w (xl j) (nl j) k (ql j))->(∀j,j<p->nl j<=64)->(∀j,j<p->xl j=none->nl j=0/\cl j=0)->
  Calls Tryz.prog f #[.slice (some ⟨B,0,none⟩) p p'] w fun e w'=>∃v,e= .returned v/\Below w.heap.size w w'/\w'.ownsRow w.heap.size ty k v (numTo nl p) (sI ql p)
theorem kR:iW 203 87 83 5/\iW 199 85 35 9/\iW 249 127 89 3/\iW 218 130 90 4/\iW 223 133 128 2/\iW 228 3 131 1/\iW 205 92 38 3/\iW 183 94 39 2:=by
 have hg:=aAv;simp only[sH]at hg;refine⟨?_,?_,?_,?_,?_,?_,?_,?_⟩;all_goals
  intro z y hT B p p' xl nl cl ql w hk hc hp hn h0
  obtain⟨i0,hi,hz0,hz1,hz2⟩:=hT.info
  have hlen:∀j,j<=p->numTo nl j<=64*j:=by
   intro j;induction j with
   |zero=>intro _;simp[numTo]
   |succ j ih=>intro hj;have h1:=ih (by omega);have h3:=hn j (by omega);simp only[numTo];omega
  first|go_enter Tryz.func203,Tryz.ntmps203|go_enter Tryz.func199,Tryz.ntmps199|go_enter Tryz.func249,Tryz.ntmps249|go_enter Tryz.func218,Tryz.ntmps218|go_enter Tryz.func223,Tryz.ntmps223|go_enter Tryz.func228,Tryz.ntmps228|go_enter Tryz.func205,Tryz.ntmps205|go_enter Tryz.func183,Tryz.ntmps183
  go_wp2
  go_loopw [11,3] (fun i t wr=>∃j:Nat,j<=p/\i= .int .i64 j/\t= .int .i64 (numTo nl j)/\wr=w) (fun i _ _=>p- (intOf i).toNat)
  case atStart=>exact⟨0,by omega,rfl,rfl,rfl⟩
  case round=>
   obtain⟨j,hj,rfl,rfl,hw⟩:=hrel
   have hw':=hw.symm
   subst hw'
   clear hw
   have hl:=hlen j hj
   by_cases hlt:j<p
   ·have hcj:=hc j hlt;have hl2:=hlen (j+1) hlt;have hnj:=hn j hlt;have hlt':=hlt;have hneg:¬((numTo nl j:Int)+(nl j:Int)<0):=by omega
    go_wp2;go_roundw
    case rel=>exact⟨j+1,hlt',by go_num,by simp only[numTo];go_num,trivial⟩
    case measure=>simp[intOf];omega
   ·obtain rfl:j=p:=by omega
    go_wp2_with fail;refine(Calls.mono (by first|exact hg.1 _ _ hT _ w (by omega)|exact hg.2.1 _ _ hT _ w (by omega)|exact hg.2.2.1 _ _ hT _ w (by omega)|exact hg.2.2.2.1 _ _ hT _ w (by omega)|exact hg.2.2.2.2.1 _ _ hT _ w (by omega)|exact hg.2.2.2.2.2.1 _ _ hT _ w (by omega)|exact hg.2.2.2.2.2.2.1 _ _ hT _ w (by omega)|exact hg.2.2.2.2.2.2.2 _ _ hT _ w (by omega)) ?_)
    rintro e w1 ⟨v0,rfl,hb1,hown1⟩;go_wp2;go_loopw [27,6] (fun i v wq=>∃q:Nat,q<=j/\i= .int .i64 q/\Below w.heap.size w wq/\wq.ownsRow w.heap.size _ _ v (numTo nl q) (sI ql q)) (fun i _ _=>j- (intOf i).toNat)
    case atStart=>exact⟨0,by omega,rfl,hb1,hown1⟩
    case round=>
     obtain⟨q,hq,rfl,hB,hown⟩:=hrel
     by_cases hlt2:q<j
     ·have hcq:=cell_later hB (hc q hlt2);have hpq:=(hp q hlt2).later hB;have hlq:=hlen q hq;have hnq:=hn q hlt2;have hlt3:=hlt2;have hsz:=hB.size
      cases hxq:xl q with
      |none=>
       obtain⟨hn0,hc0⟩:=h0 q hlt2 hxq
       rw[hxq,hn0,hc0]at hcq
       have hq0:ql q=[]:=List.eq_nil_of_length_eq_zero (by rw[hpq.1,hn0,Nat.zero_mul])
       go_wp2_with (at_builtin;refine wpList_append_own_none rfl _ _ _ rfl w.heap.size _ i0 _ hT.und hi _ _ _ rfl hown rfl ?_)
       go_roundw
       case rel=>exact⟨q+1,hlt3,by go_num,hB,by simp only[numTo,sI,hq0,hn0,List.append_nil];exact hown⟩
       case measure=>simp[intOf];omega
      |some ad=>
       rw[hxq]at hcq hpq
       go_wp2_with (at_builtin;refine Hid.out ?_)
       unfold Hid
       refine eM hT rfl _ _ rfl w.heap.size _ rfl hown ad (nl q) (cl q) rfl hpq (by omega) hsz ?_
       intro v' w2 hown2 hgrow
       have hB2:=dN hB hgrow (fun k e=>(World.ownsRow.lt hown k e).1)
       go_wp2
       go_roundw
       case rel=>exact⟨q+1,hlt3,by go_num,hB2,hown2⟩
       case measure=>simp[intOf];omega
     ·obtain rfl:q=j:=by omega
      go_wp2;go_ret;exact⟨_,rfl,hB,hown⟩
def nW(f ty st k:Nat):Prop:=∀z y,Ty ty st k z y->∀(x:Option Addr) (n c:Nat) (cs:List Value) (w:World),Rw w x n k cs->n<=1048576->
  Calls Tryz.prog f #[.slice x n c] w fun e w'=>∃v,e= .returned v/\w'.ownsRow w.heap.size ty k v n cs/\Below w.heap.size w w'
theorem nX:nW 77 87 83 5/\nW 76 85 35 9/\nW 139 127 89 3/\nW 140 130 90 4/\nW 196 133 128 2/\nW 197 3 131 1/\nW 78 92 38 3/\nW 79 94 39 2:=by
 refine⟨?_,?_,?_,?_,?_,?_,?_,?_⟩;all_goals
  intro z y hT x n c cs w hR hn
  have hq:=fun W=>Lib.run_eql_slice_nil (P:=Tryz.prog) W _ _ x n c 0 0 hT.und
  first|go_enter Tryz.func77,Tryz.ntmps77|go_enter Tryz.func76,Tryz.ntmps76|go_enter Tryz.func139,Tryz.ntmps139|go_enter Tryz.func140,Tryz.ntmps140|go_enter Tryz.func196,Tryz.ntmps196|go_enter Tryz.func197,Tryz.ntmps197|go_enter Tryz.func78,Tryz.ntmps78|go_enter Tryz.func79,Tryz.ntmps79
  cases x with
  |none=>
   obtain rfl:n=0:=by
    rcases Nat.eq_zero_or_pos n with h|h
    ·exact h
    ·exact absurd rfl (hR.2.1 h)
   obtain rfl:cs=[]:=List.eq_nil_of_length_eq_zero (by rw[hR.1,Nat.zero_mul])
   simp only[Option.isNone_none]at hq
   go_wp2
   go_ret
   exact⟨_,rfl,World.ownsRow_nil _ _ _ _,zD⟩
  |some ad=>
   simp only[Option.isNone_some]at hq
   go_wp2_with (at_builtin;refine Hid.out ?_)
   unfold Hid
   refine eM hT (n:=0) (cs:=[]) rfl _ _ rfl w.heap.size _ rfl ⟨by simp, .inr ⟨w.heap.size,0,#[],rfl,zE,aB _ rfl,by simp,by unfold maxLen;omega,by simp,by simp⟩⟩ ad n c rfl (hR.later (bl1 w _)) (by omega) (by simp) ?_
   intro v' w' hO' hg
   have hB:=dN (bl1 w _) hg (fun k e=>by cases e;exact zE)
   rw[Nat.zero_add,List.nil_append]at hO'
   go_wp2
   go_ret
   exact⟨_,rfl,hO',hB⟩
def pK(f ty st k:Nat):Prop:=∀z y,Ty ty st k z y->∀(base g p cap i j:Nat) (cs:List Value) (w:World),w.ownsRow base ty k (.slice (some ⟨g,0,none⟩) (p+1) cap) (p+1) cs->(∀u∈cs,u.oneCell'=true)->i<=p->j=i+1->p<=64->p+1<=cap->cap<=9223372036854775807->
  Calls Tryz.prog f #[.slice (some ⟨g,0,none⟩) (p+1) cap, .int .i64 i, .int .i64 j] w fun e w'=>e= .returned (.slice (some ⟨g,0,none⟩) p cap)/\w'.ownsRow base ty k (.slice (some ⟨g,0,none⟩) p cap) p (cs.take (i*k)++cs.drop (j*k))/\w.grownBy w' (some g)
theorem pM:pK 152 87 83 5/\pK 93 85 35 9/\pK 164 127 89 3/\pK 170 130 90 4/\pK 178 133 128 2/\pK 114 94 39 2:=by
 refine⟨?_,?_,?_,?_,?_,?_⟩;all_goals
  intro z y hT base g p cap i j cs w hO h1 hi hj hn64 hnc hcm
  obtain⟨wa,wb,hap,hcl,hOb,hgb⟩:=U8 hT hO h1 hi hj hnc
  have b1:(0:Int)<=i:=by omega
  have b2:(0:Int)<=j:=by omega
  have b3:(i:Int)<=j:=by omega
  have b4:(j:Int)<=(p:Int)+1:=by omega
  have b5:(p:Int)+1<=cap:=by omega
  have b6:¬(i:Int)=j:=by omega
  have b7:(i:Int)<=cap:=by omega
  have b8:(p:Int)<=(p:Int)+1:=by omega
  have c1:i<=j:=by omega
  have c2:j<=p+1:=by omega
  have c3:i<=cap:=by omega
  have c4:¬i=j:=by omega
  have c5:¬cap=p:=by omega
  have hij:Hid (j=i+1):=hj
  clear hO hT h1 hj
  by_cases hcj:cap=j
  ·have hap1:=hap 0 0 (.inl ⟨hcj,rfl,rfl⟩);clear hap;obtain rfl:i=p:=by have:=hij.out;omega
   obtain rfl:cap=i+1:=by have:=hij.out;omega
   obtain rfl:j=i+1:=hcj.symm;clear hij hcj b1 b2 b3 b4 b5 b6 b7 b8 c1 c2 c3 c4 c5;rw[show i+1- (i+1)=0 by omega]at hap1;simp[go_sem]at hap1;rw[show i+1- i=1 by omega]at hcl;subst hap1;first|go_enter Tryz.func152,Tryz.ntmps152|go_enter Tryz.func93,Tryz.ntmps93|go_enter Tryz.func164,Tryz.ntmps164|go_enter Tryz.func170,Tryz.ntmps170|go_enter Tryz.func178,Tryz.ntmps178|go_enter Tryz.func114,Tryz.ntmps114
   go_upto_region 5 with fail
   go_region_with fail;all_goals go_wp2
   all_goals go_ret
   all_goals exact⟨rfl,hOb,hgb⟩
  ·have hap1:=hap _ _ (.inr ⟨hcj,rfl,rfl⟩);have hcj':¬j=cap:=fun h=>hcj h.symm;clear hap;simp[go_sem]at hap1;first|go_enter Tryz.func152,Tryz.ntmps152|go_enter Tryz.func93,Tryz.ntmps93|go_enter Tryz.func164,Tryz.ntmps164|go_enter Tryz.func170,Tryz.ntmps170|go_enter Tryz.func178,Tryz.ntmps178|go_enter Tryz.func114,Tryz.ntmps114
   go_upto_region 5 with fail
   go_region_with fail;all_goals go_wp2
   all_goals go_ret
   all_goals exact⟨rfl,hOb,hgb⟩
theorem gY{f ty st y:Nat}(hC:iW f ty st k)(hT:Ty ty st k z y)(x1 x3:Option Addr)(n1 c1 n3 c3:Nat)(q1 q3:List Value)(ca:Array Value)(w:World)(ha:ca.size=k)(ha1:∀u∈ca.toList,u.oneCell'=true)(h1:Rw w x1 n1 k q1)(h3:Rw w x3 n3 k q3)(b1:n1<=64)(b3:n3<=64)(z1:x1=none->n1=0/\c1=0)(z3:x3=none->n3=0/\c3=0):
  Calls Tryz.prog f #[.slice (some ⟨w.heap.size+1,0,none⟩) 3 3] ((w.alloc (.cells ca ty)).alloc (.cells #[.slice x1 n1 c1, .slice (some ⟨w.heap.size,0,none⟩) 1 1, .slice x3 n3 c3] st)).drew fun r w'=>
   ∃v,r= .returned v/\Below w.heap.size w w'/\w'.ownsRow (w.heap.size+2) ty k v (n1+1+n3) (q1++ca.toList++q3):=by
 obtain⟨W,hW⟩:∃W,W=((w.alloc (.cells ca ty)).alloc (.cells #[.slice x1 n1 c1, .slice (some ⟨w.heap.size,0,none⟩) 1 1, .slice x3 n3 c3] st)).drew:=⟨_,rfl⟩;have hB:Below w.heap.size w W:=by rw[hW];exact(bO w _ _).drew
 have g0:W.heap[w.heap.size]?=some (.cells ca ty):=by rw[hW];exact aG _ (aB _ rfl)
 have g1:W.heap[w.heap.size+1]?=some (.cells #[.slice x1 n1 c1, .slice (some ⟨w.heap.size,0,none⟩) 1 1, .slice x3 n3 c3] st):=by rw[hW];exact aB _ (by simp)
 have hs:W.heap.size=w.heap.size+2:=by rw[hW];simp
 rw[<-hW];clear hW;have hp2:Rw W (some ⟨w.heap.size,0,none⟩) 1 k ca.toList:=⟨by rw[Array.length_toList,ha,Nat.one_mul],fun _=>by simp,ha1,fun ad hx j u hj=>by
  cases hx;rw[jN,Nat.zero_add];simpa[World.cell?,g0]using hj⟩
 refine(hC z y hT (w.heap.size+1) 3 3 (fun j=>if j=0 then x1 else if j=1 then some ⟨w.heap.size,0,none⟩else x3) (fun j=>if j=0 then n1 else if j=1 then 1 else n3) (fun j=>if j=0 then c1 else if j=1 then 1 else c3) (fun j=>if j=0 then q1 else if j=1 then ca.toList else q3) W (by omega) ?_ ?_ ?_ ?_).mono ?_
 ·intro j hj;rcases j with _|_|_|j
  ·simp[World.cell?,g1]
  ·simp[World.cell?,g1]
  ·simp[World.cell?,g1]
  ·omega
 ·intro j hj;rcases j with _|_|_|j
  ·simpa using h1.later hB
  ·simpa using hp2
  ·simpa using h3.later hB
  ·omega
 ·intro j hj;rcases j with _|_|_|j
  ·simpa using b1
  ·simp
  ·simpa using b3
  ·omega
 ·intro j hj;rcases j with _|_|_|j
  ·simpa using z1
  ·simp
  ·simpa using z3
  ·omega
 ·rintro r w' ⟨v,rfl,hb,hown⟩;rw[hs]at hown;simp only[numTo,sI]at hown;exact⟨v,rfl,hB.trans (hb.mono (by omega)),by simpa using hown⟩
def xV(n:Nat)(F:Nat->Bool)(w:World)(e:Ending)(w':World):Prop:=(∃r:Int,e= .returned (.int .i64 r)/\((∃i:Nat,i<n/\F i=true/\(∀j,j<i->F j=false)/\r=i)\/((∀j,j<n->F j=false)/\r= -1)))/\Below w.heap.size w w'
def aCv(n ty k:Nat)(F:Nat->Bool)(q ce:List Value)(w:World)(r:Ending)(w':World):Prop:=
 ∃v,r= .returned v/\Below w.heap.size w w'/\∃i,i<=n/\(∀j,j<i->F j=false)/\(i<n->F i=true)/\w'.ownsRow w.heap.size ty k v (i+1+(n- i)) (q.take (i*k)++ce++q.drop (i*k))
def GI(f f1 ix tb ty st k:Nat){E:Type}(ca:E->Array Value)(ev:E->Value):Prop:=∀z y,Ty ty st k z y->∀(e:E) (x:Option Addr) (n c bf nb b1:Nat) (q:List Value) (F:Nat->Bool) (w:World),Rw w x n k q->(∀u∈(ca e).toList,u.oneCell'=true)->n<=32->n<=c->c<=9223372036854775807->((x=none/\c=0)\/∃b o,x=some ⟨b,o,none⟩)->
  Calls Tryz.prog ix #[.slice x n c, .func (.func f1) #[] #[.pointer (some ⟨w.heap.size,0,none⟩), .pointer (some ⟨w.heap.size+1,0,none⟩)]] ((w.alloc (.cells (ca e) ty)).alloc (.cells #[.slice (some ⟨bf,0,none⟩) nb b1] tb)) (xV n F ((w.alloc (.cells (ca e) ty)).alloc (.cells #[.slice (some ⟨bf,0,none⟩) nb b1] tb)))->
  Calls Tryz.prog f #[.slice x n c,ev e, .slice (some ⟨bf,0,none⟩) nb b1] w (aCv n ty k F q (ca e).toList w)
theorem GJ:GI 149 201 151 275 87 83 5 (fun e:Le=>#[.int .i64 e.a, .int .i64 e.l, .int .i64 e.kd, .int .i64 e.ow, .int .i64 e.un]) (fun e=> .agg #[.int .i64 e.a, .int .i64 e.l, .int .i64 e.kd, .int .i64 e.ow, .int .i64 e.un])/\GI 147 198 143 260 85 35 9 (fun e:Po=>#[.int .i64 e.id, .int .i64 e.up, .int .i64 e.a, .int .i64 e.l, .int .i64 e.mn, .int .i64 e.mx, .int .i64 e.us, .int .i64 e.co, .slice e.x e.n e.c]) (fun e=> .agg #[.int .i64 e.id, .int .i64 e.up, .int .i64 e.a, .int .i64 e.l, .int .i64 e.mn, .int .i64 e.mx, .int .i64 e.us, .int .i64 e.co, .slice e.x e.n e.c])/\GI 208 247 159 321 127 89 3 (fun e:Rg=>#[.int .i64 e.a, .int .i64 e.l, .int .i64 e.p]) (fun e=> .agg #[.int .i64 e.a, .int .i64 e.l, .int .i64 e.p])/\GI 168 216 210 285 130 90 4 (fun e:Sb=>#[.int .i64 e.id, .int .i64 e.a, .int .i64 e.l, .slice e.x e.n e.c]) (fun e=> .agg #[.int .i64 e.id, .int .i64 e.a, .int .i64 e.l, .slice e.x e.n e.c])/\GI 172 221 220 289 133 128 2 (fun e:Fc=>#[.int .i64 e.id, .slice e.x e.n e.c]) (fun e=> .agg #[.int .i64 e.id, .slice e.x e.n e.c])/\GI 176 226 225 296 3 131 1 (fun e:Int=>#[.int .i64 e]) (fun e=> .int .i64 e)/\GI 157 204 154 263 92 38 3 (fun e:Vn=>#[.int .i64 e.id, .slice e.rx e.rn e.rc, .slice e.sx e.sn e.sc]) (fun e=> .agg #[.int .i64 e.id, .slice e.rx e.rn e.rc, .slice e.sx e.sn e.sc])/\GI 110 181 180 256 94 39 2 (fun e:Int×Int=>#[.int .i64 e.1, .int .i64 e.2]) (fun e=> .agg #[.int .i64 e.1, .int .i64 e.2]):=by
 refine⟨?_,?_,?_,?_,?_,?_,?_,?_⟩;all_goals
  intro z y hT e x n c bf nb b1 q F w hR hone hn hnc hc63 hx hI
  first|go_enter Tryz.func149,Tryz.ntmps149|go_enter Tryz.func147,Tryz.ntmps147|go_enter Tryz.func208,Tryz.ntmps208|go_enter Tryz.func168,Tryz.ntmps168|go_enter Tryz.func172,Tryz.ntmps172|go_enter Tryz.func176,Tryz.ntmps176|go_enter Tryz.func157,Tryz.ntmps157|go_enter Tryz.func110,Tryz.ntmps110
  go_wp2_with fail
  refine hI.mono ?_
  rintro e' w1 ⟨⟨r,rfl,hr⟩,hb1⟩
  have hB:=(bO w _ _).trans (hb1.mono (by simp;omega))
  have e0:=fun i=>hb1.cell (p:=⟨w.heap.size,i,none⟩) (by show w.heap.size<_;simp;omega)
  simp at e0
  have hi:∃i:Nat,i<=n/\(∀j,j<i->F j=false)/\(i<n->F i=true)/\((r=i/\i<n/\¬r<0)\/(r= -1/\i=n)):=by
   rcases hr with ⟨i,hi,hf,hno,rfl⟩|⟨hno,rfl⟩
   ·exact⟨i,by omega,hno,fun _=>hf, .inl ⟨rfl,hi,by omega⟩⟩
   ·exact⟨n,by omega,hno,fun h=>by omega, .inr ⟨rfl,rfl⟩⟩
  obtain⟨i,hin,hlow,hup,hri⟩:=hi
  have hRw:=hR.later hB
  clear hr hI hb1 hR
  first|have hcc:=fun x1 x3 n1 c1 n3 c3 q1 q3=>gY kR.1 hT x1 x3 n1 c1 n3 c3 q1 q3 _ w1 rfl hone|have hcc:=fun x1 x3 n1 c1 n3 c3 q1 q3=>gY kR.2.1 hT x1 x3 n1 c1 n3 c3 q1 q3 _ w1 rfl hone|have hcc:=fun x1 x3 n1 c1 n3 c3 q1 q3=>gY kR.2.2.1 hT x1 x3 n1 c1 n3 c3 q1 q3 _ w1 rfl hone|have hcc:=fun x1 x3 n1 c1 n3 c3 q1 q3=>gY kR.2.2.2.1 hT x1 x3 n1 c1 n3 c3 q1 q3 _ w1 rfl hone|have hcc:=fun x1 x3 n1 c1 n3 c3 q1 q3=>gY kR.2.2.2.2.1 hT x1 x3 n1 c1 n3 c3 q1 q3 _ w1 rfl hone|have hcc:=fun x1 x3 n1 c1 n3 c3 q1 q3=>gY kR.2.2.2.2.2.1 hT x1 x3 n1 c1 n3 c3 q1 q3 _ w1 rfl hone|have hcc:=fun x1 x3 n1 c1 n3 c3 q1 q3=>gY kR.2.2.2.2.2.2.1 hT x1 x3 n1 c1 n3 c3 q1 q3 _ w1 rfl hone|have hcc:=fun x1 x3 n1 c1 n3 c3 q1 q3=>gY kR.2.2.2.2.2.2.2 hT x1 x3 n1 c1 n3 c3 q1 q3 _ w1 rfl hone
  have hlt:w.heap.size<w1.heap.size:=by have:=hB.size;have:=World.block_lt_of_cell? w1 ⟨w.heap.size,0,none⟩ (e0 0);exact this
  have e1:=fun(u:Ws w1.heap.size w1) i=>(u.property.cell (p:=⟨w.heap.size,i,none⟩) hlt).trans (e0 i)
  clear e0
  rcases hx with ⟨rfl,rfl⟩|⟨b,o,rfl⟩
  focus
   obtain rfl:n=0:=by omega
   obtain rfl:i=0:=by omega
   rcases hri with ⟨-,h, -⟩|⟨rfl, -⟩
   ·omega
   have hfin:=hcc none none 0 0 0 0 _ _ (hRw.take (i:=0) (by omega)) (hRw.drop0 rfl) (by omega) (by omega) (fun _=>⟨rfl,rfl⟩) (fun _=>⟨rfl,rfl⟩)
  rotate_left
  focus
   have hR3:=hRw.drop (i:=i) (c:=c) hin hnc
   have hcd:=fun(x3:Option Addr) (m:Nat) (hm:n- i=m) (h:(if c=i then some (⟨b,o,none⟩:Addr)else some ⟨b,o+i*_,none⟩)=x3)=>hcc (some ⟨b,o,none⟩) x3 i c m (c- i) _ _ (hRw.take hin) (hm▸h▸hR3) (by omega) (by omega) (fun h=>by cases h) (fun h'=>by rw[<-h]at h';split at h'<;>cases h')
   rcases hri with ⟨rfl,hil,hneg⟩|⟨rfl,hi2⟩
   focus
    have hic:¬c=i:=by omega
    have hic':i<=c:=by omega
    have hfin:=hcd _ _ rfl (if_neg hic)
   rotate_left
   focus
    subst hi2
    by_cases hcn:c=i
    focus
     have hfin:=hcd _ 0 (Nat.sub_self _) (if_pos hcn)
     subst hcn
     rw[Nat.sub_self]at hfin
    rotate_left
    have hfin:=hcd _ 0 (Nat.sub_self _) (if_neg hcn)
  all_goals
   try clear hcd hR3
   clear hcc
   try simp only[Nat.mul_one]at hfin
   go_wp2_with fail
   refine bN (fun w'=>∃u:Ws w1.heap.size w1,w'=u.val) (fun j=>decide (j<8)) 11 _ (by kernel_rfl) rfl rfl ?_
   refine bL 4 [0,1,2,3,5,6,7] rfl _ rfl (by kernel_rfl) (fun d _ _ _ _ h=>by cases d<;>exact h) ⟨⟨_,(zD).drew⟩,rfl⟩ ?_
   simp only[zK,zM,zI,zJ]
   repeat(go_big_quiet_step (fail))
   refine wpQuiet_nil ?_
   refine aZ 4 _ _ (by kernel_rfl) (by kernel_rfl) rfl rfl ?_
   intro K hK
   simp only[zI,zJ]
   go_wp2_with fail
   refine aD (hK.out _ _ ⟨⟨_,(bl1 w1 _).drew⟩,rfl⟩ ?_)
   clear hK K
   refine bB [8,9,10] rfl (by kernel_rfl) ?_
   simp only[zK,zM,zI,zJ]
   go_wp2_with fail
   refine hfin.mono ?_
   rintro e' w2 ⟨v2,rfl,hb2,hps⟩
   go_wp2
   go_ret
   exact⟨_,rfl,hB.trans (hb2.mono hB.size),_,hin,hlow,hup,by simpa using iV hps (by have:=hB.size;omega)⟩
def YB(f:Nat){E:Type}(ca:E->Array Value)(key:E->Int):Prop:=(∀p w,Calls Tryz.prog f #[.agg (ca p)] w fun e w'=>e= .returned (.int .i64 (key p))/\Below w.heap.size w w')/\∀args W,(callFunc f args).run Tryz.prog W= .ok (.enter f args) W
theorem bys:YB 150 (fun e:Le=>#[.int .i64 e.a, .int .i64 e.l, .int .i64 e.kd, .int .i64 e.ow, .int .i64 e.un]) (·.a)/\YB 116 (fun e:Po=>#[.int .i64 e.id, .int .i64 e.up, .int .i64 e.a, .int .i64 e.l, .int .i64 e.mn, .int .i64 e.mx, .int .i64 e.us, .int .i64 e.co, .slice e.x e.n e.c]) (·.id)/\YB 209 (fun e:Rg=>#[.int .i64 e.a, .int .i64 e.l, .int .i64 e.p]) (·.a)/\YB 169 (fun e:Sb=>#[.int .i64 e.id, .int .i64 e.a, .int .i64 e.l, .slice e.x e.n e.c]) (·.id)/\YB 173 (fun e:Fc=>#[.int .i64 e.id, .slice e.x e.n e.c]) (·.id)/\YB 125 (fun e:Vn=>#[.int .i64 e.id, .slice e.rx e.rn e.rc, .slice e.sx e.sn e.sc]) (·.id):=by
 refine⟨?_,?_,?_,?_,?_,?_⟩;all_goals
  refine⟨fun p w=>?_,fun args W=>by simp[go_sem]⟩
  first|go_enter Tryz.func150,Tryz.ntmps150|go_enter Tryz.func116,Tryz.ntmps116|go_enter Tryz.func209,Tryz.ntmps209|go_enter Tryz.func169,Tryz.ntmps169|go_enter Tryz.func173,Tryz.ntmps173|go_enter Tryz.func125,Tryz.ntmps125
  go_wp2
  go_ret
  exact⟨rfl,bl1 _ _⟩
def NB(f g:Nat){E:Type}(ca:E->Array Value)(key:E->Int):Prop:=YB g ca key->∀(p r:E) (v:Int),F7 (key p) (key r) v->∀(bb kk:Nat) (w:World),w.cell? ⟨bb,0,none⟩=some (.func (.func g) #[] #[])->Calls Tryz.prog f #[.agg (ca p), .agg (ca r), .slice (some ⟨bb,0,none⟩) 1 kk] w fun e w'=>e= .returned (.int .i64 v)/\Below w.heap.size w w'
theorem NC:NB 202 150 (fun e:Le=>#[.int .i64 e.a, .int .i64 e.l, .int .i64 e.kd, .int .i64 e.ow, .int .i64 e.un]) (·.a)/\NB 184 116 (fun e:Po=>#[.int .i64 e.id, .int .i64 e.up, .int .i64 e.a, .int .i64 e.l, .int .i64 e.mn, .int .i64 e.mx, .int .i64 e.us, .int .i64 e.co, .slice e.x e.n e.c]) (·.id)/\NB 248 209 (fun e:Rg=>#[.int .i64 e.a, .int .i64 e.l, .int .i64 e.p]) (·.a)/\NB 217 169 (fun e:Sb=>#[.int .i64 e.id, .int .i64 e.a, .int .i64 e.l, .slice e.x e.n e.c]) (·.id)/\NB 222 173 (fun e:Fc=>#[.int .i64 e.id, .slice e.x e.n e.c]) (·.id)/\NB 186 125 (fun e:Vn=>#[.int .i64 e.id, .slice e.rx e.rn e.rc, .slice e.sx e.sn e.sc]) (·.id):=by
 refine⟨?_,?_,?_,?_,?_,?_⟩;all_goals
  intro⟨hby,hcall⟩ p r v hv bb kk w hb9
  first|go_enter Tryz.func202,Tryz.ntmps202|go_enter Tryz.func184,Tryz.ntmps184|go_enter Tryz.func248,Tryz.ntmps248|go_enter Tryz.func217,Tryz.ntmps217|go_enter Tryz.func222,Tryz.ntmps222|go_enter Tryz.func186,Tryz.ntmps186
  go_wp2
  go_loopw [12] (fun i wr=>∃j:Nat,(j=0\/(j=1/\v=0))/\i= .int .i64 j/\Below (w.heap.size+1+1) ((w.alloc _).alloc _) wr) (fun i _=>1- (intOf i).toNat)
  case atStart=>exact⟨0, .inl rfl,rfl,zD⟩
  case round=>
   obtain⟨j,hj,rfl,hB⟩:=hrel
   rcases hj with rfl|⟨rfl,hv0⟩
   ·have hz:=hB.size;simp only[World.size_alloc]at hz;have hbl:bb<w.heap.size:=block_lt_of_cell hb9;have e0:=fun i=>hB.cell (p:=⟨w.heap.size,i,none⟩) (by show w.heap.size<_;omega);have f0:=fun i=>hB.cell (p:=⟨w.heap.size+1,i,none⟩) (by show w.heap.size+1<_;omega);simp at e0 f0;have e9:=(hB.cell (p:=⟨bb,0,none⟩) (by show bb<_;omega)).trans (cell_later (bO w _ _) hb9);have g0:=fun(u:Ws wr.heap.size wr) i=>(u.property.cell (p:=⟨w.heap.size,i,none⟩) (by show w.heap.size<_;omega)).trans (e0 i);have k0:=fun(u:Ws wr.heap.size wr) i=>(u.property.cell (p:=⟨w.heap.size+1,i,none⟩) (by show w.heap.size+1<_;omega)).trans (f0 i);go_upto_region 4 with fail
    clear e0 f0 e9;refine aH wr.heap.size (by kernel_rfl) (by kernel_rfl) ?_;repeat(go_big_quiet_step (first|(go_at_call 229;exact Calls.in_ws_same (yI _ _ _ hv _))|(go_at_call 150;exact Calls.in_ws (zE) (hby _ _))|(go_at_call 116;exact Calls.in_ws (zE) (hby _ _))|(go_at_call 209;exact Calls.in_ws (zE) (hby _ _))|(go_at_call 169;exact Calls.in_ws (zE) (hby _ _))|(go_at_call 173;exact Calls.in_ws (zE) (hby _ _))|(go_at_call 125;exact Calls.in_ws (zE) (hby _ _))))
    refine wpQuiet_nil ?_;rintro _ ⟨u,rfl⟩;have hu:=hB.trans (u.property.mono hz);generalize u.val=wu at hu⊢;clear u g0 k0;rcases hv with ⟨h,rfl⟩|⟨h,rfl⟩|⟨h,rfl⟩
    ·go_wp2;go_ret;exact⟨rfl,(bO w _ _).trans (hu.mono (by omega))⟩
    ·go_wp2;go_roundw
     case rel=>exact⟨1, .inr ⟨rfl,trivial⟩,by go_num,hu⟩
     case measure=>simp[intOf]
    ·go_wp2;go_ret;exact⟨rfl,(bO w _ _).trans (hu.mono (by omega))⟩
   ·subst hv0;go_wp2;go_ret;exact⟨rfl,(bO w _ _).trans (hB.mono (by omega))⟩
def wF(f fc:Nat){E:Type}(ca:E->Array Value)(ev:E->Value):Prop:=(∀(p r:E) (v:Int) (bp bb bf nb k:Nat) (w:World),(∀i,w.cell? ⟨bp,i,none⟩=(ca p)[i]?)->w.cell? ⟨bb,0,none⟩=some (.slice (some ⟨bf,0,none⟩) nb k)->(∀W,Below w.heap.size w W->Calls Tryz.prog fc #[ev p,ev r, .slice (some ⟨bf,0,none⟩) nb k] W fun e w'=>e= .returned (.int .i64 v)/\Below W.heap.size W w')->
  Calls Tryz.prog f #[ev r, .pointer (some ⟨bp,0,none⟩), .pointer (some ⟨bb,0,none⟩)] w fun e w'=>e= .returned (.bool (decide (v<0)))/\Below w.heap.size w w')/\∀args W,(callFunc f args).run Tryz.prog W= .ok (.enter f args) W
theorem iP:wF 201 202 (fun e:Le=>#[.int .i64 e.a, .int .i64 e.l, .int .i64 e.kd, .int .i64 e.ow, .int .i64 e.un]) (fun e=> .agg #[.int .i64 e.a, .int .i64 e.l, .int .i64 e.kd, .int .i64 e.ow, .int .i64 e.un])/\wF 198 184 (fun e:Po=>#[.int .i64 e.id, .int .i64 e.up, .int .i64 e.a, .int .i64 e.l, .int .i64 e.mn, .int .i64 e.mx, .int .i64 e.us, .int .i64 e.co, .slice e.x e.n e.c]) (fun e=> .agg #[.int .i64 e.id, .int .i64 e.up, .int .i64 e.a, .int .i64 e.l, .int .i64 e.mn, .int .i64 e.mx, .int .i64 e.us, .int .i64 e.co, .slice e.x e.n e.c])/\wF 247 248 (fun e:Rg=>#[.int .i64 e.a, .int .i64 e.l, .int .i64 e.p]) (fun e=> .agg #[.int .i64 e.a, .int .i64 e.l, .int .i64 e.p])/\wF 216 217 (fun e:Sb=>#[.int .i64 e.id, .int .i64 e.a, .int .i64 e.l, .slice e.x e.n e.c]) (fun e=> .agg #[.int .i64 e.id, .int .i64 e.a, .int .i64 e.l, .slice e.x e.n e.c])/\wF 221 222 (fun e:Fc=>#[.int .i64 e.id, .slice e.x e.n e.c]) (fun e=> .agg #[.int .i64 e.id, .slice e.x e.n e.c])/\wF 226 227 (fun e:Int=>#[.int .i64 e]) (fun e=> .int .i64 e)/\wF 204 186 (fun e:Vn=>#[.int .i64 e.id, .slice e.rx e.rn e.rc, .slice e.sx e.sn e.sc]) (fun e=> .agg #[.int .i64 e.id, .slice e.rx e.rn e.rc, .slice e.sx e.sn e.sc])/\wF 181 182 (fun e:Int×Int=>#[.int .i64 e.1, .int .i64 e.2]) (fun e=> .agg #[.int .i64 e.1, .int .i64 e.2]):=by
 refine⟨?_,?_,?_,?_,?_,?_,?_,?_⟩;all_goals
  refine⟨fun p r v bp bb bf nb k w h1 h2 hC=>?_,fun args W=>by simp[go_sem]⟩
  have hl1:bp<w.heap.size:=World.block_lt_of_cell? w ⟨bp,0,none⟩ (h1 0)
  have k1:=fun q i=>((bl1 w q).cell (p:=⟨bp,i,none⟩) hl1).trans (h1 i)
  have k2:=fun q=>cell_later (bl1 w q) h2
  simp at h1 k1
  first|go_enter Tryz.func201,Tryz.ntmps201|go_enter Tryz.func198,Tryz.ntmps198|go_enter Tryz.func247,Tryz.ntmps247|go_enter Tryz.func216,Tryz.ntmps216|go_enter Tryz.func221,Tryz.ntmps221|go_enter Tryz.func226,Tryz.ntmps226|go_enter Tryz.func204,Tryz.ntmps204|go_enter Tryz.func181,Tryz.ntmps181
  go_wp2_with fail
  refine(hC _ (by first|exact zD|exact bl1 w _)).mono ?_
  rintro e w1 ⟨rfl,hb1⟩
  go_wp2
  go_ret
  first|exact⟨rfl,hb1⟩|exact⟨rfl,(bl1 w _).trans (hb1.mono (by simp))⟩
def CN(f fc k:Nat){E:Type}(ca:E->Array Value)(ev:E->Value):Prop:=∀(es:Nat->E) (ok:Nat->Bool) (x:Option Addr) (n c bb nb kk:Nat) (w:World),n<=64->(∀i,i<n->∃b o,x=some ⟨b,o,none⟩/\∀q,q<k->w.cell? ⟨b,o+i*k+q,none⟩=(ca (es i))[q]?)->
  (∀i,i+1<n->∃v,ok i=(!(decide (0<=v)))/\∀W,Below w.heap.size w W->Calls Tryz.prog fc #[ev (es i),ev (es (i+1)), .slice (some ⟨bb,0,none⟩) nb kk] W fun e w'=>e= .returned (.int .i64 v)/\Below W.heap.size W w')->
  Calls Tryz.prog f #[.slice x n c, .slice (some ⟨bb,0,none⟩) nb kk] w fun e w'=>∃t,e= .returned (.bool t)/\Below w.heap.size w w'/\((t=true/\∀i,i+1<n->ok i=true)\/(t=false/\∃i,i+1<n/\ok i=false))
theorem CO:CN 115 184 9 (fun e:Po=>#[.int .i64 e.id, .int .i64 e.up, .int .i64 e.a, .int .i64 e.l, .int .i64 e.mn, .int .i64 e.mx, .int .i64 e.us, .int .i64 e.co, .slice e.x e.n e.c]) (fun e=> .agg #[.int .i64 e.id, .int .i64 e.up, .int .i64 e.a, .int .i64 e.l, .int .i64 e.mn, .int .i64 e.mx, .int .i64 e.us, .int .i64 e.co, .slice e.x e.n e.c])/\CN 234 248 3 (fun e:Rg=>#[.int .i64 e.a, .int .i64 e.l, .int .i64 e.p]) (fun e=> .agg #[.int .i64 e.a, .int .i64 e.l, .int .i64 e.p])/\CN 236 217 4 (fun e:Sb=>#[.int .i64 e.id, .int .i64 e.a, .int .i64 e.l, .slice e.x e.n e.c]) (fun e=> .agg #[.int .i64 e.id, .int .i64 e.a, .int .i64 e.l, .slice e.x e.n e.c])/\CN 261 222 2 (fun e:Fc=>#[.int .i64 e.id, .slice e.x e.n e.c]) (fun e=> .agg #[.int .i64 e.id, .slice e.x e.n e.c])/\CN 271 227 1 (fun e:Int=>#[.int .i64 e]) (fun e=> .int .i64 e)/\CN 124 186 3 (fun e:Vn=>#[.int .i64 e.id, .slice e.rx e.rn e.rc, .slice e.sx e.sn e.sc]) (fun e=> .agg #[.int .i64 e.id, .slice e.rx e.rn e.rc, .slice e.sx e.sn e.sc]):=by
 refine⟨?_,?_,?_,?_,?_,?_⟩;all_goals
  intro es ok x n c bb nb kk w hn hc hcm
  first|go_enter Tryz.func115,Tryz.ntmps115|go_enter Tryz.func234,Tryz.ntmps234|go_enter Tryz.func236,Tryz.ntmps236|go_enter Tryz.func261,Tryz.ntmps261|go_enter Tryz.func271,Tryz.ntmps271|go_enter Tryz.func124,Tryz.ntmps124
  go_wp2
  go_loopw [5] (fun i wr=>∃j:Nat,1<=j/\j<=n+1/\i= .int .i64 j/\Below w.heap.size w wr/\(∀i,i+1<j->i+1<n->ok i=true)) (fun i _=>n+1- (intOf i).toNat)
  case atStart=>exact⟨1,by omega,by omega,rfl,zD,fun i hi _=>by omega⟩
  case round=>
   obtain⟨j,hj1,hjn,rfl,hB,hok⟩:=hrel
   have hz:=hB.size
   by_cases hlt:j<n
   ·obtain⟨i,rfl⟩:∃i,j=i+1:=⟨j- 1,by omega⟩;obtain⟨b,o,rfl,hc0⟩:=hc i (by omega);obtain⟨b2,o2,hbo,hc1⟩:=hc (i+1) hlt;simp only[Option.some.injEq,Addr.mk.injEq,and_true]at hbo;obtain⟨rfl,rfl⟩:=hbo;have hl:b<w.heap.size:=World.block_lt_of_cell? w ⟨b,o+i*_+0,none⟩ (hc0 0 (by decide));have g:=fun q h (u:Ws wr.heap.size wr)=>((u.property.cell (p:=⟨b,o+i*_+q,none⟩) (by show b<_;omega)).trans (hB.cell (p:=⟨b,o+i*_+q,none⟩) hl)).trans (hc0 q h);have g0:=g 0 (by decide);try have g1:=g 1 (by decide)
    try have g2:=g 2 (by decide)
    try have g3:=g 3 (by decide)
    try have g4:=g 4 (by decide)
    try have g5:=g 5 (by decide)
    try have g6:=g 6 (by decide)
    try have g7:=g 7 (by decide)
    try have g8:=g 8 (by decide)
    have g:=fun q h (u:Ws wr.heap.size wr)=>((u.property.cell (p:=⟨b,o+(i+1)*_+q,none⟩) (by show b<_;omega)).trans (hB.cell (p:=⟨b,o+(i+1)*_+q,none⟩) hl)).trans (hc1 q h);have k0:=g 0 (by decide);try have k1:=g 1 (by decide)
    try have k2:=g 2 (by decide)
    try have k3:=g 3 (by decide)
    try have k4:=g 4 (by decide)
    try have k5:=g 5 (by decide)
    try have k6:=g 6 (by decide)
    try have k7:=g 7 (by decide)
    try have k8:=g 8 (by decide)
    clear g;simp at g0 k0;try simp at g1 k1
    try simp at g2 k2
    try simp at g3 k3
    try simp at g4 k4
    try simp at g5 k5
    try simp at g6 k6
    try simp at g7 k7
    try simp at g8 k8
    obtain⟨v,hd,hC⟩:=hcm i hlt;have hlt':=hlt;go_upto_region 4 with fail
    first|refine aH wr.heap.size (by kernel_rfl) (by kernel_rfl) ?_|refine rY wr.heap.size ?_
    cases hg:decide (0<=v);all_goals
     rw[hg]at hd
     have hge:decide (v≥0)=_:=hg
     repeat(go_big_quiet_step (first|(go_at_call 184;exact Calls.in_ws (zE) (hC _ (hB.trans ((Ws.property _).mono hz))))|(go_at_call 248;exact Calls.in_ws (zE) (hC _ (hB.trans ((Ws.property _).mono hz))))|(go_at_call 217;exact Calls.in_ws (zE) (hC _ (hB.trans ((Ws.property _).mono hz))))|(go_at_call 222;exact Calls.in_ws (zE) (hC _ (hB.trans ((Ws.property _).mono hz))))|(go_at_call 227;exact Calls.in_ws (zE) (hC _ (hB.trans ((Ws.property _).mono hz))))|(go_at_call 186;exact Calls.in_ws (zE) (hC _ (hB.trans ((Ws.property _).mono hz))))))
     refine wpQuiet_nil ?_
     rintro _ ⟨u,rfl⟩
     have hu:=hB.trans (u.property.mono hz)
     generalize u.val=wu at hu⊢
     go_wp2
    ·go_roundw
     case rel=>exact⟨i+1+1,by omega,by omega,by go_num,hu,fun q hq hqn=>by
      by_cases hq2:q+1<i+1
      ·exact hok q hq2 hqn
      ·obtain rfl:q=i:=by omega
       exact hd⟩
     case measure=>simp[intOf];omega
    ·go_ret;exact⟨_,rfl,hu, .inr ⟨rfl,i,hlt',hd⟩⟩
   ·go_wp2;go_ret;exact⟨_,rfl,hB, .inl ⟨rfl,fun i hi=>hok i (by omega) hi⟩⟩
theorem pN{t:Bool}(h0:R 0=true)(hs:∀i,R (i+1)=ok i)(h:(t=true/\∀i,i+1<n->ok i=true)\/(t=false/\∃i,i+1<n/\ok i=false)):t=(List.range n).all R:=by
 rcases h with ⟨rfl,h⟩|⟨rfl,i,hi,h⟩
 ·refine(List.all_eq_true.2 fun j hj=>?_).symm;rcases j with _|j
  ·exact h0
  ·rw[hs];exact h j (by simpa using hj)
 ·refine(List.all_eq_false.2 ⟨i+1,by simpa using hi,by rw[hs,h];simp⟩).symm
theorem uH(p r:Int):∃v,F7 p r v/\decide (p<r)=(!(decide (0<=v))):=by
 rcases Int.lt_trichotomy p r with h|h|h
 ·exact⟨-1, .inl ⟨h,rfl⟩,by simp[h]⟩
 ·exact⟨0, .inr (.inl ⟨h,rfl⟩),by simp[h]⟩
 ·exact⟨1, .inr (.inr ⟨h,rfl⟩),by simp;omega⟩
def GK(f f2 k:Nat)(av:(Nat->Value)->Value):Prop:=∀(g:Nat) (cap:Array Value) (x:Option Addr) (n c:Nat) (d:Nat->Nat->Value) (F:Nat->Bool) (w:World),(∀i,i<n->∃b o,x=some ⟨b,o,none⟩/\∀q,q<k->w.cell? ⟨b,o+i*k+q,none⟩=some (d i q))->n<=9223372036854775807->
  (∀i,i<n->∀W,Below w.heap.size w W->Calls Tryz.prog g (#[av (d i)]++cap) W fun e W'=>e= .returned (.bool (F i))/\Below W.heap.size W W')->(∀args W,(callFunc g args).run Tryz.prog W= .ok (.enter g args) W)->
  Calls Tryz.prog f #[.slice x n c, .func (.func g) #[] cap] w (xV n F w)/\Calls Tryz.prog f2 #[.slice x n c, .func (.func g) #[] cap] w fun e w'=>e= .returned (.bool (anyAt n F))/\Below w.heap.size w w'
theorem nG:GK 151 89 5 (fun d=> .agg #[d 0,d 1,d 2,d 3,d 4])/\GK 143 117 9 (fun d=> .agg #[d 0,d 1,d 2,d 3,d 4,d 5,d 6,d 7,d 8])/\GK 159 190 3 (fun d=> .agg #[d 0,d 1,d 2])/\GK 210 161 4 (fun d=> .agg #[d 0,d 1,d 2,d 3])/\GK 220 258 2 (fun d=> .agg #[d 0,d 1])/\GK 225 272 1 (fun d=>d 0)/\GK 154 126 3 (fun d=> .agg #[d 0,d 1,d 2])/\GK 180 130 2 (fun d=> .agg #[d 0,d 1]):=by
 refine⟨?_,?_,?_,?_,?_,?_,?_,?_⟩;all_goals
  intro g cap x n c d F w hc hn hF hg
  have HF:Hid _:=hF
  clear hF
  suffices H:Calls _ _ _ w (xV n F w) by
   refine⟨H,?_⟩;have H1:Hid (Calls Tryz.prog _ #[.slice x n c, .func (.func g) #[] cap] w (xV n F w)):=H;clear H HF;first|go_enter Tryz.func89,Tryz.ntmps89|go_enter Tryz.func117,Tryz.ntmps117|go_enter Tryz.func190,Tryz.ntmps190|go_enter Tryz.func161,Tryz.ntmps161|go_enter Tryz.func258,Tryz.ntmps258|go_enter Tryz.func272,Tryz.ntmps272|go_enter Tryz.func126,Tryz.ntmps126|go_enter Tryz.func130,Tryz.ntmps130
   go_wp2_with fail;refine H1.out.mono ?_;rintro e w1 ⟨⟨r,rfl,hr⟩,hb1⟩;have hr':decide (r≥0)=anyAt n F:=by
    rcases hr with ⟨i,hi,hfi,_,rfl⟩|⟨hno,rfl⟩
    ·rw[bR hi hfi];simp
    ·rw[nJ hno];rfl
   go_wp2;go_ret;exact⟨rfl,hb1⟩
  first|go_enter Tryz.func151,Tryz.ntmps151|go_enter Tryz.func143,Tryz.ntmps143|go_enter Tryz.func159,Tryz.ntmps159|go_enter Tryz.func210,Tryz.ntmps210|go_enter Tryz.func220,Tryz.ntmps220|go_enter Tryz.func225,Tryz.ntmps225|go_enter Tryz.func154,Tryz.ntmps154|go_enter Tryz.func180,Tryz.ntmps180
  go_wp2
  go_loopw [8] (fun i wr=>∃k:Nat,k<=n/\i= .int .i64 k/\Below w.heap.size w wr/\(∀j,j<k->F j=false)) (fun i _=>n- (intOf i).toNat)
  case atStart=>exact⟨0,by omega,rfl,zD,fun j hj=>by omega⟩
  case round=>
   obtain⟨k,hk,rfl,hB,hno⟩:=hrel
   by_cases hlt:k<n
   ·obtain⟨b,o,rfl,h0⟩:=hc k hlt;have e:=fun q h=>cell_later hB (h0 q h);have d0:=e 0 (by decide);try have d1:=e 1 (by decide)
    try have d2:=e 2 (by decide)
    try have d3:=e 3 (by decide)
    try have d4:=e 4 (by decide)
    try have d5:=e 5 (by decide)
    try have d6:=e 6 (by decide)
    try have d7:=e 7 (by decide)
    try have d8:=e 8 (by decide)
    clear e;simp at d0;go_wp2_with fail;refine(HF.out k hlt _ hB).mono ?_;rintro e w1 ⟨rfl,hb1⟩;have hC:=hB.trans (hb1.mono hB.size)
    cases hf:F k
    ·go_wp2;go_roundw
     case rel=>exact⟨k+1,hlt,by go_num,hC,fun j hj=>by
      by_cases hj2:j<k
      ·exact hno j hj2
      ·obtain rfl:j=k:=by omega
       exact hf⟩
     case measure=>simp[intOf];omega
    ·go_wp2;go_ret;exact⟨⟨_,rfl, .inl ⟨k,hlt,hf,hno,rfl⟩⟩,hC⟩
   ·go_wp2;go_ret;exact⟨⟨_,rfl, .inr ⟨fun j hj=>hno j (by omega),rfl⟩⟩,hB⟩
def yL(g:Nat)(cap:Array Value)(n:Nat)(ps:List Po)(f:Nat->Bool)(w:World):Prop:=
 ∀i,i<n->∀W,Below w.heap.size w W->Calls Tryz.prog g (#[.agg #[.int .i64 (poAt ps i).id, .int .i64 (poAt ps i).up, .int .i64 (poAt ps i).a, .int .i64 (poAt ps i).l, .int .i64 (poAt ps i).mn, .int .i64 (poAt ps i).mx, .int .i64 (poAt ps i).us, .int .i64 (poAt ps i).co, .slice (poAt ps i).x (poAt ps i).n (poAt ps i).c]]++cap) W fun e W'=>e= .returned (.bool (f i))/\Below W.heap.size W W'
theorem mZ(g:Nat)(cap:Array Value)(x:Option Addr)(n c:Nat)(ps:List Po)(f:Nat->Bool)(w:World)(hp:mX w x n ps)(hn:n<=64)(hF:yL g cap n ps f w)
 (hg:∀args W,(callFunc g args).run Tryz.prog W= .ok (.enter g args) W):
  Calls Tryz.prog 143 #[.slice x n c, .func (.func g) #[] cap] w fun e w'=>(∃r:Int,e= .returned (.int .i64 r)/\((∃i:Nat,i<n/\f i=true/\(∀j,j<i->f j=false)/\r=i)\/((∀j,j<n->f j=false)/\r= -1)))/\Below w.heap.size w w':=(nG.2.1 g cap x n c _ f w hp.idx (by omega) hF hg).1
theorem jQ(g:Nat)(cap:Array Value)(x:Option Addr)(n c:Nat)(ps:List Po)(f:Nat->Bool)(w:World)(hp:mX w x n ps)(hn:n<=64)(hF:yL g cap n ps f w)
 (hg:∀args W,(callFunc g args).run Tryz.prog W= .ok (.enter g args) W):
  Calls Tryz.prog 117 #[.slice x n c, .func (.func g) #[] cap] w fun e w'=>e= .returned (.bool (anyAt n f))/\Below w.heap.size w w':=(nG.2.1 g cap x n c _ f w hp.idx (by omega) hF hg).2
def uI(g:Nat)(cap:Array Value)(n:Nat)(ps:List Le)(f:Nat->Bool)(w:World):Prop:=
 ∀i,i<n->∀W,Below w.heap.size w W->Calls Tryz.prog g (#[.agg #[.int .i64 (aN ps i).a, .int .i64 (aN ps i).l, .int .i64 (aN ps i).kd, .int .i64 (aN ps i).ow, .int .i64 (aN ps i).un]]++cap) W fun e W'=>e= .returned (.bool (f i))/\Below W.heap.size W W'
theorem iJ(g:Nat)(cap:Array Value)(x:Option Addr)(n c:Nat)(ps:List Le)(f:Nat->Bool)(w:World)(hp:LS w x n ps)(hn:n<=1048576)(hF:uI g cap n ps f w)
 (hg:∀args W,(callFunc g args).run Tryz.prog W= .ok (.enter g args) W):
  Calls Tryz.prog 151 #[.slice x n c, .func (.func g) #[] cap] w fun e w'=>(∃r:Int,e= .returned (.int .i64 r)/\((∃i:Nat,i<n/\f i=true/\(∀j,j<i->f j=false)/\r=i)\/((∀j,j<n->f j=false)/\r= -1)))/\Below w.heap.size w w':=(nG.1 g cap x n c _ f w hp.idx (by omega) hF hg).1
theorem qZ(g:Nat)(cap:Array Value)(x:Option Addr)(n c:Nat)(ps:List Le)(f:Nat->Bool)(w:World)(hp:LS w x n ps)(hn:n<=1048576)(hF:uI g cap n ps f w)
 (hg:∀args W,(callFunc g args).run Tryz.prog W= .ok (.enter g args) W):
  Calls Tryz.prog 89 #[.slice x n c, .func (.func g) #[] cap] w fun e w'=>e= .returned (.bool (anyAt n f))/\Below w.heap.size w w':=(nG.1 g cap x n c _ f w hp.idx (by omega) hF hg).2
theorem GL(id:Int)(p:Po)(b:Nat)(w:World)(h0:w.cell? ⟨b,0,none⟩=some (.int .i64 id)):
  Calls Tryz.prog 144 #[.agg #[.int .i64 p.id, .int .i64 p.up, .int .i64 p.a, .int .i64 p.l, .int .i64 p.mn, .int .i64 p.mx, .int .i64 p.us, .int .i64 p.co, .slice p.x p.n p.c], .pointer (some ⟨b,0,none⟩)] w fun e w'=>e= .returned (.bool (p.id==id))/\Below w.heap.size w w':=by
 have k0:∀q,(w.alloc q).cell? ⟨b,0,none⟩=some (.int .i64 id):=fun q=>cell_later (bl1 w q) h0;go_enter Tryz.func144,Tryz.ntmps144;go_wp2;go_ret;exact⟨rfl,bl1 w _⟩
theorem EF(args:Array Value)(W:World):(callFunc 144 args).run Tryz.prog W= .ok (.enter 144 args) W:=by simp[go_sem]
theorem QS(id:Int)(b n:Nat)(ps:List Po)(w:World)(h0:w.cell? ⟨b,0,none⟩=some (.int .i64 id)):
  yL 144 #[.pointer (some ⟨b,0,none⟩)] n ps (fun i=>(poAt ps i).id==id) w:=fun i _ W hW=>GL id (poAt ps i) b W (cell_later hW h0)
theorem pplace_any(t id:Int)(x:Option Addr)(n c:Nat)(ps:List Po)(w:World)(hp:mX w x n ps)(hn:n<=64):
  Calls Tryz.prog 83 #[.agg #[.int .i64 t, .slice x n c], .int .i64 id] w fun e w'=>e= .returned (.int .i64 (aO ps id))/\Below w.heap.size w w':=by
 have hl:=hp.len;go_enter Tryz.func83,Tryz.ntmps83;go_wp2_with fail;refine(mZ 144 _ x n c ps _ _ (hp.later (bO w _ _)) hn (QS id (w.heap.size+1) n ps _ (by simp)) EF).mono ?_;rintro e w1 ⟨⟨r,rfl,hr⟩,hb1⟩;have hr':r=aO ps id:=by
  rcases hr with ⟨i,hi,hf,hno,rfl⟩|⟨hno,rfl⟩
  ·exact(nS (by omega) (by simpa using hf) (fun j hj=>by simpa using hno j hj)).symm
  ·exact(sC (fun j hj=>by simpa using hno j (by omega))).symm
 subst hr';clear hr;go_wp2;go_ret;exact⟨rfl,(bO w _ _).trans (hb1.mono (by simp;omega))⟩
def gL(ls:List Le)(id:Int)(i:Nat):Bool:=((aN ls i).kd==2)&&((aN ls i).ow==id)
theorem BS(id:Int)(p:Le)(b:Nat)(w:World)(h0:w.cell? ⟨b,0,none⟩=some (.int .i64 id)):
  Calls Tryz.prog 153 #[.agg #[.int .i64 p.a, .int .i64 p.l, .int .i64 p.kd, .int .i64 p.ow, .int .i64 p.un], .pointer (some ⟨b,0,none⟩)] w fun e w'=>e= .returned (.bool ((p.kd==2)&&(p.ow==id)))/\Below w.heap.size w w':=by
 have k0:∀q,(w.alloc q).cell? ⟨b,0,none⟩=some (.int .i64 id):=fun q=>cell_later (bl1 w q) h0
 cases hk:(p.kd==2);all_goals go_enter Tryz.func153,Tryz.ntmps153
 all_goals go_wp2
 all_goals go_ret
 all_goals exact⟨rfl,bl1 w _⟩
theorem yM(args:Array Value)(W:World):(callFunc 153 args).run Tryz.prog W= .ok (.enter 153 args) W:=by simp[go_sem]
theorem GN(id:Int)(b n:Nat)(ls:List Le)(w:World)(h0:w.cell? ⟨b,0,none⟩=some (.int .i64 id)):
  uI 153 #[.pointer (some ⟨b,0,none⟩)] n ls (gL ls id) w:=fun i _ W hW=>BS id (aN ls i) b W (cell_later hW h0)
theorem EG(id:Int)(p:Po)(w:World)(hp:LS w p.x p.n p.ls)(hn:p.n<=1048576):
  Calls Tryz.prog 92 #[.agg #[.int .i64 p.id, .int .i64 p.up, .int .i64 p.a, .int .i64 p.l, .int .i64 p.mn, .int .i64 p.mx, .int .i64 p.us, .int .i64 p.co, .slice p.x p.n p.c], .int .i64 id] w fun e w'=>(∃r:Int,e= .returned (.int .i64 r)/\((∃i:Nat,i<p.n/\gL p.ls id i=true/\(∀j,j<i->gL p.ls id j=false)/\r=i)\/((∀j,j<p.n->gL p.ls id j=false)/\r= -1)))/\Below w.heap.size w w':=by
 go_enter Tryz.func92,Tryz.ntmps92;go_wp2_with fail;refine(iJ 153 _ p.x p.n p.c p.ls _ _ (hp.later (bO w _ _)) hn (GN id (w.heap.size+1) p.n p.ls _ (by simp)) yM).mono ?_;rintro e w1 ⟨⟨r,rfl,hr⟩,hb1⟩;have hr':Hid ((∃i:Nat,i<p.n/\gL p.ls id i=true/\(∀j,j<i->gL p.ls id j=false)/\r=i)\/((∀j,j<p.n->gL p.ls id j=false)/\r= -1)):=hr;clear hr;go_wp2;go_ret;exact⟨⟨r,rfl,hr'.out⟩,(bO w _ _).trans (hb1.mono (by simp;omega))⟩
def lp(ls:List Le):List (Int×Int):=ls.map fun e=>(e.a,e.l)
theorem rA(ls:List Le):(lp ls).length=ls.length:=by unfold lp;simp
theorem LN(hi:i<ls.length):cM (lp ls) i=(aN ls i).a/\eF (lp ls) i=(aN ls i).l:=by
 rw[iT (by rw[rA];exact hi),mE (by rw[rA];exact hi)];unfold lp aN;simp[List.getD,hi]
theorem U9(hq:q<ls.length):(lp ls).take (q+1)=(lp ls).take q++[((aN ls q).a,(aN ls q).l)]:=by
 rw[M9 (by rw[rA];exact hq),(LN hq).1,(LN hq).2]
theorem gE.base(h:gE w V a l o x c):Below w.heap.size w V:=h.2.2
def yN(a l:Int)(n:Nat)(ls:List Le)(w:World)(e:Ending)(w':World):Prop:=
 ∃x' c',e= .returned (.agg #[.int .i64 a, .int .i64 l, .slice x' n c'])/\Below w.heap.size w w'/\PS w' x' n (lp ls)
theorem nY(p:Po)(w:World)(hp:LS w p.x p.n p.ls)(hn:p.n<=1048576):
  Calls Tryz.prog 120 #[.agg #[.int .i64 p.id, .int .i64 p.up, .int .i64 p.a, .int .i64 p.l, .int .i64 p.mn, .int .i64 p.mx, .int .i64 p.us, .int .i64 p.co, .slice p.x p.n p.c]] w (yN p.a p.l p.n p.ls w):=by
 obtain⟨i0,hi,hz0,hz1,hz2⟩:=EC;obtain⟨id,up,a,l,mn,mx,us,co,x,n,c,ls⟩:=p;simp only at hp hn⊢;have hpl:=hp.len;go_enter Tryz.func120,Tryz.ntmps120;go_upto_region 1 with fail
 have hB:=bO w (.cells #[.int .i64 id, .int .i64 up, .int .i64 a, .int .i64 l, .int .i64 mn, .int .i64 mx, .int .i64 us, .int .i64 co, .slice x n c] 85) (.cells #[.int .i64 0, .int .i64 0, .slice none 0 0] 205);have hP:((w.alloc (.cells #[.int .i64 id, .int .i64 up, .int .i64 a, .int .i64 l, .int .i64 mn, .int .i64 mx, .int .i64 us, .int .i64 co, .slice x n c] 85)).alloc (.cells #[.int .i64 0, .int .i64 0, .slice none 0 0] 205)).heap[w.heap.size]?=some (.cells #[.int .i64 id, .int .i64 up, .int .i64 a, .int .i64 l, .int .i64 mn, .int .i64 mx, .int .i64 us, .int .i64 co, .slice x n c] 85):=aG _ (aB _ rfl);have hR:((w.alloc (.cells #[.int .i64 id, .int .i64 up, .int .i64 a, .int .i64 l, .int .i64 mn, .int .i64 mx, .int .i64 us, .int .i64 co, .slice x n c] 85)).alloc (.cells #[.int .i64 0, .int .i64 0, .slice none 0 0] 205)).heap[w.heap.size+1]?=some (.cells #[.int .i64 0, .int .i64 0, .slice none 0 0] 205):=aB _ (by simp);generalize(w.alloc (.cells #[.int .i64 id, .int .i64 up, .int .i64 a, .int .i64 l, .int .i64 mn, .int .i64 mx, .int .i64 us, .int .i64 co, .slice x n c] 85)).alloc (.cells #[.int .i64 0, .int .i64 0, .slice none 0 0] 205)=w1 at hB hP hR⊢;have p2:w1.cell? ⟨w.heap.size,2,none⟩=some (.int .i64 a):=by simp[World.cell?,hP]
 have p3:w1.cell? ⟨w.heap.size,3,none⟩=some (.int .i64 l):=by simp[World.cell?,hP]
 have p8:∀o,(w1.alloc o).cell? ⟨w.heap.size,8,none⟩=some (.slice x n c):=fun o=>cell_later (bl1 w1 o) (by simp[World.cell?,hP]);have hR1:=(zG hR);go_wp2;clear p2 p3 p8;go_loopw [12] (fun i wr=>∃(q:Nat) (o:List (Int×Int)) (xo:Option Addr) (k:Nat),q<=n/\i= .int .i64 q/\Hid (o=(lp ls).take q)/\gE w1 wr a l o xo k) (fun i _=>n- (intOf i).toNat)
 case atStart=>exact⟨0,[],none,0,by omega,rfl,by unfold Hid;simp,gE.start w1 a l⟩
 case round=>
  obtain⟨q,o,xo,k,hq,rfl,ho,hO⟩:=hrel
  have hol:Hid (o.length=q):=by unfold Hid;rw[ho.out,List.length_take,rA];omega
  have hob:o.length<=n:=by rw[hol.out];exact hq
  by_cases hlt:q<n
  ·obtain⟨b,of,rfl,c0,c1,c2,c3,c4⟩:=((hp.later hB).later (gE.base hO)).cells q hlt;have hlt':=hlt;have hnx:Hid ((lp ls).take (q+1)=(lp ls).take q++[((aN ls q).a,(aN ls q).l)]):=U9 (by omega);have hO1:=hO.later (bl1 wr (.cells #[.int .i64 (aN ls q).a, .int .i64 (aN ls q).l, .int .i64 (aN ls q).kd, .int .i64 (aN ls q).ow, .int .i64 (aN ls q).un] 87));obtain⟨-, -,o2, -⟩:=QH hO1.1;go_wp2_with (at_builtin;refine Hid.out ?_);unfold Hid;have hwl:=(zG hO.1);refine wpList_append_own _ rfl _ _ 203 rfl (w1.heap.size+1) 26 i0 (.agg #[.int .i64 0, .int .i64 0]) 2 16 yK hi hz0 hz1 hz2 rfl (by decide) _ _ _ rfl (hO1.2.1.alloc _) ⟨wr.heap.size+1,0,none⟩ 1 1 [.int .i64 (aN ls q).a, .int .i64 (aN ls q).l] rfl rfl ?_ (by simp[Value.oneCell']) (by unfold maxLen;omega) (by omega) (by simp;omega) ?_
   ·intro j u hj;rcases j with _|_|j
    ·simp at hj;subst hj;simp[Addr.add]
    ·simp at hj;subst hj;simp[Addr.add]
    ·simp at hj
   ·intro v' w5 hown' hgrow' _;obtain⟨x5,k5,rfl,f5,y5,hb5,hO5⟩:=gE.append hO1 hown' hgrow';clear hown' hgrow' c0 c1 c2 c3 c4 o2;go_wp2;go_roundw
    case rel=>exact⟨q+1,_,x5,k5,hlt',by go_num,(by rw[hnx.out,<-ho.out];rfl),hO5⟩
    case measure=>simp[intOf];omega
  ·obtain rfl:q=n:=by omega
   obtain⟨o0,o1,o2, -⟩:=QH hO.1;have hBr:=gE.base hO;have hR2:=(hBr.block _ hR1).trans hR;obtain⟨r0,r1,r2,z0,z1,z2⟩:=QH hR2;obtain⟨hp7,hf7⟩:=gE.ps hO;have hall:Hid (o=lp ls):=by unfold Hid;rw[ho.out,<-hpl,<-rA];exact List.take_length
   have hB2:=hB.trans (hBr.mono hB.size);go_wp2;refine bodyPost_ret (v:= .agg #[.int .i64 a, .int .i64 l, .slice xo o.length k]) (by simp[results,Tryz.results120,go_sem,r0,r1,r2]) rfl ?_;unfold yN;refine⟨xo,k,by rw[hol.out],I9 hB2 (by omega) _ _ _,?_⟩;rw[<-hall.out];rw[hol.out]at hp7;exact hp7.set3 (fun q hq=>by have:=hf7 q hq;omega) _ _ _
def iX(ps:List Po)(c m:Int)(i:Nat):Bool:=((poAt ps i).up==0)&&kL (poAt ps i).a (poAt ps i).l c m
theorem BT(c m:Int)(p:Po)(b:Nat)(w:World)(h0:w.cell? ⟨b,0,none⟩=some (.int .i64 c))(h1:w.cell? ⟨b,1,none⟩=some (.int .i64 m)):
  Calls Tryz.prog 145 #[.agg #[.int .i64 p.id, .int .i64 p.up, .int .i64 p.a, .int .i64 p.l, .int .i64 p.mn, .int .i64 p.mx, .int .i64 p.us, .int .i64 p.co, .slice p.x p.n p.c], .pointer (some ⟨b,0,none⟩)] w fun e w'=>e= .returned (.bool ((p.up==0)&&kL p.a p.l c m))/\Below w.heap.size w w':=by
 have k0:∀q,(w.alloc q).cell? ⟨b,0,none⟩=some (.int .i64 c):=fun q=>cell_later (bl1 w q) h0;have k1:∀q,(w.alloc q).cell? ⟨b,1,none⟩=some (.int .i64 m):=fun q=>cell_later (bl1 w q) h1
 cases hk:(p.up==0)
 ·go_enter Tryz.func145,Tryz.ntmps145;go_wp2;go_ret;exact⟨rfl,bl1 w _⟩
 ·go_enter Tryz.func145,Tryz.ntmps145;go_wp2_with (go_at_call 146;refine(meets_any _ _ _ _ _).mono ?_;rintro e w1 ⟨rfl,hb1⟩);go_ret;exact⟨rfl,(bl1 w _).trans (hb1.mono (by simp))⟩
theorem yO(args:Array Value)(W:World):(callFunc 145 args).run Tryz.prog W= .ok (.enter 145 args) W:=by simp[go_sem]
theorem GO(c m:Int)(b n:Nat)(ps:List Po)(w:World)(h0:w.cell? ⟨b,0,none⟩=some (.int .i64 c))(h1:w.cell? ⟨b,1,none⟩=some (.int .i64 m)):
  yL 145 #[.pointer (some ⟨b,0,none⟩)] n ps (iX ps c m) w:=fun i _ W hW=>BT c m (poAt ps i) b W (cell_later hW h0) (cell_later hW h1)
theorem sJ(c m:Int)(x:Option Addr)(n k:Nat)(ps:List Po)(w:World)(hp:mX w x n ps)(hn:n<=64):
  Calls Tryz.prog 84 #[.slice x n k, .agg #[.int .i64 c, .int .i64 m]] w fun e w'=>e= .returned (.bool (anyAt n (iX ps c m)))/\Below w.heap.size w w':=by
 go_enter Tryz.func84,Tryz.ntmps84;go_wp2_with fail;refine(jQ 145 _ x n k ps _ _ (hp.later (bl1 w _)) hn (GO c m w.heap.size n ps _ (by simp) (by simp)) yO).mono ?_;rintro e w1 ⟨rfl,hb1⟩;go_wp2;go_ret;exact⟨rfl,(bl1 w _).trans (hb1.mono (by simp))⟩
theorem EH(p:Po)(w:World):
  Calls Tryz.prog 118 #[.agg #[.int .i64 p.id, .int .i64 p.up, .int .i64 p.a, .int .i64 p.l, .int .i64 p.mn, .int .i64 p.mx, .int .i64 p.us, .int .i64 p.co, .slice p.x p.n p.c]] w fun e w'=>e= .returned (.bool (!dE p.id 1 65536))/\Below w.heap.size w w':=by
 go_enter Tryz.func118,Tryz.ntmps118;go_wp2_with (go_at_call 81;refine(isId_any _ _).mono ?_;rintro e w1 ⟨rfl,rfl⟩);go_ret;exact⟨rfl,bl1 w _⟩
theorem BU(args:Array Value)(W:World):(callFunc 118 args).run Tryz.prog W= .ok (.enter 118 args) W:=by simp[go_sem]
theorem JE(n:Nat)(ps:List Po)(w:World):yL 118 #[] n ps (fun i=>!dE (poAt ps i).id 1 65536) w:=fun i _ W _=>EH (poAt ps i) W
theorem sK(p r:Po)(v:Int)(hv:F7 p.id r.id v)(bb kk:Nat)(w:World)(hby:w.cell? ⟨bb,0,none⟩=some (.func (.func 116) #[] #[])):
  Calls Tryz.prog 184 #[.agg #[.int .i64 p.id, .int .i64 p.up, .int .i64 p.a, .int .i64 p.l, .int .i64 p.mn, .int .i64 p.mx, .int .i64 p.us, .int .i64 p.co, .slice p.x p.n p.c], .agg #[.int .i64 r.id, .int .i64 r.up, .int .i64 r.a, .int .i64 r.l, .int .i64 r.mn, .int .i64 r.mx, .int .i64 r.us, .int .i64 r.co, .slice r.x r.n r.c], .slice (some ⟨bb,0,none⟩) 1 kk] w fun e w'=>e= .returned (.int .i64 v)/\Below w.heap.size w w':=NC.2.1 bys.2.1 p r v hv bb kk w hby
def nZ(ps:List Po)(i:Nat):Bool:=i==0||decide ((poAt ps (i- 1)).id<(poAt ps i).id)
def pO(ps:List Po):Bool:=(List.range ps.length).all (nZ ps)
theorem JF(x:Option Addr)(n c:Nat)(ps:List Po)(bb kk:Nat)(w:World)(hp:mX w x n ps)(hn:n<=64)(hby:w.cell? ⟨bb,0,none⟩=some (.func (.func 116) #[] #[])):
  Calls Tryz.prog 115 #[.slice x n c, .slice (some ⟨bb,0,none⟩) 1 kk] w fun e w'=>e= .returned (.bool (pO ps))/\Below w.heap.size w w':=by
 refine(CO.1 (poAt ps) (fun i=>decide ((poAt ps i).id<(poAt ps (i+1)).id)) x n c bb 1 kk w hn (fun i hi=>?_) (fun i hi=>?_)).mono ?_
 ·obtain⟨b,o,hx,d0,d1,d2,d3,d4,d5,d6,d7,d8⟩:=hp.cells i hi;exact⟨b,o,hx,by rintro(_|_|_|_|_|_|_|_|_|q) hq<;>first|assumption|omega⟩
 ·obtain⟨v,hv,hd⟩:=uH ((poAt ps i).id) ((poAt ps (i+1)).id);exact⟨v,hd,fun W hW=>sK _ _ v hv bb kk W (cell_later hW hby)⟩
 ·rintro e w1 ⟨t,rfl,hb,h⟩;exact⟨congrArg (fun t=>Ending.returned (.bool t)) ((pN (R:=nZ ps) rfl (fun _=>rfl) h).trans (by rw[<-hp.len];rfl)),hb⟩
def lQ(n:Nat)(ps:List Po):Bool:=pO ps&&!anyAt n (fun i=>!dE (poAt ps i).id 1 65536)
theorem GP(x:Option Addr)(n c:Nat)(ps:List Po)(w:World)(hp:mX w x n ps)(hn:n<=64):
  Calls Tryz.prog 59 #[.slice x n c] w fun e w'=>e= .returned (.bool (lQ n ps))/\Below w.heap.size w w':=by
 unfold lQ;go_enter Tryz.func59,Tryz.ntmps59;go_wp2_with fail;refine(JF x n c ps w.heap.size 1 _ (hp.later (bl1 w _)) hn (by simp)).mono ?_;rintro e w1 ⟨rfl,hb1⟩;have hB:=(bl1 w _).trans (hb1.mono (by simp));clear hb1
 cases hr:pO ps
 ·go_wp2;go_ret;exact⟨aM (by rw[hr];rfl),hB⟩
 ·go_wp2_with fail;refine(jQ 118 #[] x n c ps _ _ (hp.later hB) hn (JE n ps _) BU).mono ?_;rintro e w2 ⟨rfl,hb2⟩;go_wp2;go_ret;exact⟨aM (by rw[hr];simp),hB.trans (hb2.mono hB.size)⟩
theorem aC(h:V.heap[b]?=some (.cells cs t)):(∀j,V.cell? ⟨b,j,none⟩=cs[j]?)/\(∀j,V.frozen? ⟨b,j,none⟩=false):=by
 refine⟨fun j=>?_,fun j=>?_⟩
 ·simp[World.cell?,h]
 ·simp[World.frozen?,h]
theorem aP(h:w.heap[b]?=some (.cells cs t))(i:Nat)(hv:cs[i]?=some v):w.cell? ⟨b,i,none⟩=some v:=((aC h).1 i).trans hv
theorem aR(h:w.heap[b]?=some (.cells cs t))(h0:cs[0]?=some v0)(h1:cs[1]?=some v1):w.cell? ⟨b,0,none⟩=some v0/\w.cell? ⟨b,1,none⟩=some v1:=⟨aP h 0 h0,aP h 1 h1⟩
theorem bI(h:w.heap[b]?=some (.cells cs t))(h0:cs[0]?=some v0)(h1:cs[1]?=some v1)(h2:cs[2]?=some v2):w.cell? ⟨b,0,none⟩=some v0/\w.cell? ⟨b,1,none⟩=some v1/\w.cell? ⟨b,2,none⟩=some v2:=⟨aP h 0 h0,aP h 1 h1,aP h 2 h2⟩
theorem dL(h:w.heap[b]?=some (.cells cs t))(h0:cs[0]?=some v0)(h1:cs[1]?=some v1)(h2:cs[2]?=some v2)(h3:cs[3]?=some v3):w.cell? ⟨b,0,none⟩=some v0/\w.cell? ⟨b,1,none⟩=some v1/\w.cell? ⟨b,2,none⟩=some v2/\w.cell? ⟨b,3,none⟩=some v3:=⟨aP h 0 h0,aP h 1 h1,aP h 2 h2,aP h 3 h3⟩
theorem bx5(h:w.heap[b]?=some (.cells cs t))(h0:cs[0]?=some v0)(h1:cs[1]?=some v1)(h2:cs[2]?=some v2)(h3:cs[3]?=some v3)(h4:cs[4]?=some v4):w.cell? ⟨b,0,none⟩=some v0/\w.cell? ⟨b,1,none⟩=some v1/\w.cell? ⟨b,2,none⟩=some v2/\w.cell? ⟨b,3,none⟩=some v3/\w.cell? ⟨b,4,none⟩=some v4:=⟨aP h 0 h0,aP h 1 h1,aP h 2 h2,aP h 3 h3,aP h 4 h4⟩
theorem uJ{v5 v6 v7 v8 v9:Value}(h:w.heap[b]?=some (.cells cs t))(h0:cs[0]?=some v0)(h1:cs[1]?=some v1)(h2:cs[2]?=some v2)(h3:cs[3]?=some v3)(h4:cs[4]?=some v4)(h5:cs[5]?=some v5)(h6:cs[6]?=some v6)(h7:cs[7]?=some v7)(h8:cs[8]?=some v8)(h9:cs[9]?=some v9):w.cell? ⟨b,0,none⟩=some v0/\w.cell? ⟨b,1,none⟩=some v1/\w.cell? ⟨b,2,none⟩=some v2/\w.cell? ⟨b,3,none⟩=some v3/\w.cell? ⟨b,4,none⟩=some v4/\w.cell? ⟨b,5,none⟩=some v5/\w.cell? ⟨b,6,none⟩=some v6/\w.cell? ⟨b,7,none⟩=some v7/\w.cell? ⟨b,8,none⟩=some v8/\w.cell? ⟨b,9,none⟩=some v9:=⟨aP h 0 h0,aP h 1 h1,aP h 2 h2,aP h 3 h3,aP h 4 h4,aP h 5 h5,aP h 6 h6,aP h 7 h7,aP h 8 h8,aP h 9 h9⟩
theorem bW(h:w.heap[b]?=some (.cells cs t)):w.frozen? ⟨b,0,none⟩=false/\w.frozen? ⟨b,1,none⟩=false:=⟨(aC h).2 0,(aC h).2 1⟩
theorem dQ(h:w.heap[b]?=some (.cells cs t)):w.frozen? ⟨b,0,none⟩=false/\w.frozen? ⟨b,1,none⟩=false/\w.frozen? ⟨b,2,none⟩=false:=⟨(aC h).2 0,(aC h).2 1,(aC h).2 2⟩
theorem iY(h:w.heap[b]?=some (.cells cs t)):w.frozen? ⟨b,0,none⟩=false/\w.frozen? ⟨b,1,none⟩=false/\w.frozen? ⟨b,2,none⟩=false/\w.frozen? ⟨b,3,none⟩=false:=⟨(aC h).2 0,(aC h).2 1,(aC h).2 2,(aC h).2 3⟩
theorem aA{o:Obj}(hb:Below V.heap.size V V')(h:V.heap[b]?=some o):V'.heap[b]?=some o:=(hb.block _ (zG h)).trans h
abbrev poV(p:Po):Value:= .agg #[.int .i64 p.id, .int .i64 p.up, .int .i64 p.a, .int .i64 p.l, .int .i64 p.mn, .int .i64 p.mx, .int .i64 p.us, .int .i64 p.co, .slice p.x p.n p.c]
abbrev CP(p:Po):Obj:= .cells #[.int .i64 p.id, .int .i64 p.up, .int .i64 p.a, .int .i64 p.l, .int .i64 p.mn, .int .i64 p.mx, .int .i64 p.us, .int .i64 p.co, .slice p.x p.n p.c] 85
theorem bC(h:i<ps.length):poAt ps i=ps[i]:=by simp[poAt,List.getD_eq_getElem?_getD,h]
theorem uL(h:j<i):poAt (ps.take i) j=poAt ps j:=by
 unfold poAt;rw[zF,zF,List.getElem?_take_of_lt h]
theorem mX.take(h:mX w x n ps)(hi:i<=n):mX w x i (ps.take i) where
 len:=by rw[List.length_take,h.len];omega
 cells:=fun j hj=>by rw[uL hj];exact h.cells j (by omega)
 leases:=fun j hj=>by rw[uL hj];exact h.leases j (by omega)
theorem uM(h:∀j,j<n->f j=g j):anyAt n f=anyAt n g:=by
 cases hg:anyAt n g
 ·refine nJ fun j hj=>?_;rw[h j hj]
  cases hgj:g j
  ·rfl
  ·rw[bR hj hgj]at hg;cases hg
 ·unfold anyAt at hg⊢;rw[List.any_eq_true]at hg⊢;obtain⟨j,hj,hgj⟩:=hg;exact⟨j,hj,by rw[h j (by simpa using hj)];exact hgj⟩
def mH(ps:List Po)(i:Nat):Bool:=!(((poAt ps i).up==0)&&anyAt i (iX ps (poAt ps i).a (poAt ps i).l))
def gF(ps:List Po):Bool:=(List.range ps.length).all (mH ps)
theorem VA(hk:k<ps.length)(h:mH ps k=false):gF ps=false:=by
 unfold gF;rw[List.all_eq_false];exact⟨k,by simpa using hk,by simp[h]⟩
theorem QT(h:∀j,j<ps.length->mH ps j=true):gF ps=true:=by
 unfold gF;rw[List.all_eq_true];intro j hj;exact h j (by simpa using hj)
theorem GQ(ps:List Po)(i:Nat)(x:Option Addr)(n k:Nat)(w:World)(t:Bool)(hp:mX w x n ps)(hi:i<=n)(hn:n<=64)(c m:Int)(h:anyAt i (iX ps c m)=t):
  Calls Tryz.prog 84 #[.slice x i k, .agg #[.int .i64 c, .int .i64 m]] w fun e w'=>e= .returned (.bool t)/\Below w.heap.size w w':=by
 have hm:=sJ c m x i k (ps.take i) w (hp.take hi) (by omega);rw[uM (f:=iX (ps.take i) c m) (g:=iX ps c m) (fun j hj=>by unfold iX;rw[uL hj]),h]at hm;exact hm
theorem BV(x:Option Addr)(n c:Nat)(ps:List Po)(w:World)(hp:mX w x n ps)(hn:n<=64)(hnc:n<=c)(hc63:c<=9223372036854775807):
  Calls Tryz.prog 60 #[.slice x n c] w fun e w'=>e= .returned (.bool (gF ps))/\Below w.heap.size w w':=by
 have hpl:Hid (ps.length=n):=hp.len;go_enter Tryz.func60,Tryz.ntmps60;go_wp2;go_loopw [7] (fun i wr=>∃k:Nat,k<=n/\i= .int .i64 k/\Below w.heap.size w wr/\(∀j,j<k->mH ps j=true)) (fun i _=>n- (intOf i).toNat)
 case atStart=>exact⟨0,by omega,rfl,zD,fun j hj=>by omega⟩
 case round=>
  obtain⟨k,hk,rfl,hB,hok⟩:=hrel
  by_cases hlt:k<n
  ·have hpr:=hp.later hB;obtain⟨b,o,rfl,c0,c1,c2,c3,c4,c5,c6,c7,c8⟩:=hpr.cells k hlt;have hlt':=hlt;have hta:Hid (mH ps k=!(((poAt ps k).up==0)&&anyAt k (iX ps (poAt ps k).a (poAt ps k).l))):=rfl;go_upto_region 4 with fail
   obtain⟨w2,hw2⟩:∃w2,w2=wr.alloc (CP (poAt ps k)):=⟨_,rfl⟩;rw[<-hw2];have h02:Below wr.heap.size wr w2:=by rw[hw2];exact bl1 wr _
   have hbox:w2.heap[wr.heap.size]?=some (CP (poAt ps k)):=by rw[hw2];exact aB _ rfl
   clear hw2 c0 c1 c2 c3 c4 c5 c6 c7 c8;have hp2:=hpr.later h02;obtain⟨hcl, -⟩:=aC hbox;have g1:=Ws.here (v:= .int .i64 (poAt ps k).up) (hcl 1);have g2:=Ws.here (v:= .int .i64 (poAt ps k).a) (hcl 2);have g3:=Ws.here (v:= .int .i64 (poAt ps k).l) (hcl 3);clear hcl
   cases hu:((poAt ps k).up==0)
   ·refine aH w2.heap.size (by kernel_rfl) (by kernel_rfl) ?_;repeat(go_big_quiet_step (fail))
    refine wpQuiet_nil ?_;rintro _ ⟨u,rfl⟩;have hB2:=hB.trans (h02.mono hB.size);have hu2:=hB2.trans (u.property.mono hB2.size);generalize u.val=wu at hu2⊢;clear u g1 g2 g3;go_wp2;go_roundw
    case rel=>exact⟨k+1,hlt',by go_num,hu2,fun j hj=>by
     by_cases hj2:j<k
     ·exact hok j hj2
     ·obtain rfl:j=k:=by omega
      rw[hta.out,hu];rfl⟩
    case measure=>simp[intOf];omega
   ·cases ha:anyAt k (iX ps (poAt ps k).a (poAt ps k).l);all_goals refine aH w2.heap.size (by kernel_rfl) (by kernel_rfl) ?_
    all_goals repeat(go_big_quiet_step ((go_at_call 84;exact Calls.in_ws (zE) (GQ ps k _ n _ _ _ (hp2.later (Ws.property _)) (by omega) hn _ _ ha))))
    all_goals refine wpQuiet_nil ?_
    all_goals rintro _ ⟨u,rfl⟩
    all_goals have hB2:=hB.trans (h02.mono hB.size)
    all_goals have hu2:=hB2.trans (u.property.mono hB2.size)
    all_goals generalize u.val=wu at hu2⊢
    all_goals clear u g1 g2 g3
    ·go_wp2;go_roundw
     case rel=>exact⟨k+1,hlt',by go_num,hu2,fun j hj=>by
      by_cases hj2:j<k
      ·exact hok j hj2
      ·obtain rfl:j=k:=by omega
       rw[hta.out,hu,ha];rfl⟩
     case measure=>simp[intOf];omega
    ·go_wp2;go_ret;exact⟨aM (VA (by rw[hpl.out];exact hlt') (by rw[hta.out,hu,ha];rfl)).symm,hu2⟩
  ·obtain rfl:k=n:=by omega
   go_wp2;go_ret;exact⟨aM (QT (by rw[hpl.out];exact hok)).symm,hB⟩
def bP(n:Nat)(f:Nat->Bool):Int:=match(List.range n).find? f with |some i=>(i:Int)|none=> -1
theorem kS(hi:i<n)(h:f i=true)(hno:∀j,j<i->f j=false):bP n f=i:=by
 unfold bP;have hf:(List.range n).find? f=some i:=by
  rw[List.find?_range_eq_some];exact⟨h,by simpa using hi,fun j hj=>by simp[hno j hj]⟩
 rw[hf]
theorem rB(hno:∀j,j<n->f j=false):bP n f= -1:=by
 unfold bP;have hf:(List.range n).find? f=none:=by
  rw[List.find?_eq_none];intro j hj;simp[hno j (by simpa using hj)]
 rw[hf]
theorem yP(h:anyAt n f=true):∃i,i<n/\f i=true/\∀j,j<i->f j=false:=by
 induction n with
 |zero=>simp[anyAt]at h
 |succ n ih=>
  cases ha:anyAt n f
  ·refine⟨n,by omega,?_,fun j hj=>?_⟩
   ·unfold anyAt at h ha;rw[List.range_succ,List.any_append,ha]at h;simpa using h
   ·cases hj2:f j
    ·rfl
    ·rw[bR hj hj2]at ha;cases ha
  ·obtain⟨i,hi,h1,h2⟩:=ih ha;exact⟨i,by omega,h1,h2⟩
theorem firstAt_any:(anyAt n f=true/\∃i:Nat,i<n/\f i=true/\(∀j,j<i->f j=false)/\bP n f=i)\/(anyAt n f=false/\(∀j,j<n->f j=false)/\bP n f= -1):=by
 cases h:anyAt n f
 ·have hno:∀j,j<n->f j=false:=fun j hj=>by
   cases hj2:f j
   ·rfl
   ·rw[bR hj hj2]at h;cases h
  exact .inr ⟨rfl,hno,rB hno⟩
 ·obtain⟨i,h1,h2,h3⟩:=yP h;exact .inl ⟨rfl,i,h1,h2,h3,kS h1 h2 h3⟩
theorem wG(id:Int)(p:Po)(w:World)(hp:LS w p.x p.n p.ls)(hn:p.n<=1048576):
  Calls Tryz.prog 92 #[poV p, .int .i64 id] w fun e w'=>e= .returned (.int .i64 (bP p.n (gL p.ls id)))/\Below w.heap.size w w':=by
 refine(EG id p w hp hn).mono ?_;rintro e w' ⟨⟨r,rfl,hr⟩,hb⟩;rcases hr with ⟨i,hi,h1,h2,rfl⟩|⟨h1,rfl⟩
 ·exact⟨by rw[kS hi h1 h2],hb⟩
 ·exact⟨by rw[rB h1],hb⟩
theorem aX{id:Int}(h:¬aO ps id<0):∃i:Nat,i<ps.length/\aO ps id=i/\(poAt ps i).id=id:=by
 unfold aO at h⊢
 cases hf:ps.findIdx? (fun p=>p.id==id)with
 |none=>rw[hf]at h;simp at h
 |some i=>
  rw[List.findIdx?_eq_some_iff_getElem]at hf
  obtain⟨hi,h1, -⟩:=hf
  exact⟨i,hi,rfl,by rw[bC hi];simpa using h1⟩
def lL(ps:List Po):Nat->Po->Bool
 |0,_=>false
 |f+1,p=>if p.up=0 then true else if aO ps p.up<0 then false else if anyAt (poAt ps (aO ps p.up).toNat).n (gL (poAt ps (aO ps p.up).toNat).ls p.id)=true then lL ps f (poAt ps (aO ps p.up).toNat)else false
theorem YC{f:Nat}(h:p.up=0):lL ps (f+1) p=true:=by unfold lL;rw[if_pos h]
theorem VB{f:Nat}(h:p.up≠0)(h2:aO ps p.up<0):lL ps (f+1) p=false:=by unfold lL;rw[if_neg h,if_pos h2]
theorem YD{f:Nat}(h:p.up≠0)(h2:aO ps p.up=i)(h3:anyAt (poAt ps i).n (gL (poAt ps i).ls p.id)=false):lL ps (f+1) p=false:=by
 unfold lL;rw[if_neg h,h2,if_neg (by omega)];simp only[Int.toNat_natCast];rw[h3];rfl
theorem LO{f:Nat}(h:p.up≠0)(h2:aO ps p.up=i)(h3:anyAt (poAt ps i).n (gL (poAt ps i).ls p.id)=true):lL ps (f+1) p=lL ps f (poAt ps i):=by
 unfold lL;rw[if_neg h,h2,if_neg (by omega)];simp only[Int.toNat_natCast];rw[if_pos h3]
 cases f<;>rfl
theorem VC(q:Po)(h:V.heap[b]?=some (CP p)):((((((((((V).setCell ⟨b,0,none⟩ (.int .i64 q.id)).setCell ⟨b,1,none⟩ (.int .i64 q.up)).setCell ⟨b,2,none⟩ (.int .i64 q.a)).setCell ⟨b,3,none⟩ (.int .i64 q.l)).setCell ⟨b,4,none⟩ (.int .i64 q.mn)).setCell ⟨b,5,none⟩ (.int .i64 q.mx)).setCell ⟨b,6,none⟩ (.int .i64 q.us)).setCell ⟨b,7,none⟩ (.int .i64 q.co)).setCell ⟨b,8,none⟩ (.slice q.x q.n q.c)).heap[b]?=some (CP q):=by
 have h0:=heap_setCell_same V b 0 _ 85 (.int .i64 q.id) h;have h1:=heap_setCell_same _ b 1 _ 85 (.int .i64 q.up) h0;have h2:=heap_setCell_same _ b 2 _ 85 (.int .i64 q.a) h1;have h3:=heap_setCell_same _ b 3 _ 85 (.int .i64 q.l) h2;have h4:=heap_setCell_same _ b 4 _ 85 (.int .i64 q.mn) h3;have h5:=heap_setCell_same _ b 5 _ 85 (.int .i64 q.mx) h4;have h6:=heap_setCell_same _ b 6 _ 85 (.int .i64 q.us) h5;have h7:=heap_setCell_same _ b 7 _ 85 (.int .i64 q.co) h6;have h8:=heap_setCell_same _ b 8 _ 85 (.slice q.x q.n q.c) h7;simpa using h8
theorem ND(q:Po)(h:k≠b):((((((((((V).setCell ⟨b,0,none⟩ (.int .i64 q.id)).setCell ⟨b,1,none⟩ (.int .i64 q.up)).setCell ⟨b,2,none⟩ (.int .i64 q.a)).setCell ⟨b,3,none⟩ (.int .i64 q.l)).setCell ⟨b,4,none⟩ (.int .i64 q.mn)).setCell ⟨b,5,none⟩ (.int .i64 q.mx)).setCell ⟨b,6,none⟩ (.int .i64 q.us)).setCell ⟨b,7,none⟩ (.int .i64 q.co)).setCell ⟨b,8,none⟩ (.slice q.x q.n q.c)).heap[k]?=V.heap[k]?:=by
 rw[zB h,zB h,zB h,zB h,zB h,zB h,zB h,zB h,zB h]
theorem NE(q:Po)(h:Below w.heap.size w V)(hb:w.heap.size<=b):Below w.heap.size w ((((((((((V).setCell ⟨b,0,none⟩ (.int .i64 q.id)).setCell ⟨b,1,none⟩ (.int .i64 q.up)).setCell ⟨b,2,none⟩ (.int .i64 q.a)).setCell ⟨b,3,none⟩ (.int .i64 q.l)).setCell ⟨b,4,none⟩ (.int .i64 q.mn)).setCell ⟨b,5,none⟩ (.int .i64 q.mx)).setCell ⟨b,6,none⟩ (.int .i64 q.us)).setCell ⟨b,7,none⟩ (.int .i64 q.co)).setCell ⟨b,8,none⟩ (.slice q.x q.n q.c)):=
 ((((((((h.setCell hb _).setCell hb _).setCell hb _).setCell hb _).setCell hb _).setCell hb _).setCell hb _).setCell hb _).setCell hb _
theorem GR(t:Int)(x:Option Addr)(n c:Nat)(ps:List Po)(p:Po)(w:World)(hp:mX w x n ps)(hn:n<=64):
  Calls Tryz.prog 122 #[.agg #[.int .i64 t, .slice x n c],poV p] w fun e w'=>e= .returned (.bool (lL ps n p))/\Below w.heap.size w w':=by
 have hpl:Hid (ps.length=n):=hp.len;go_enter Tryz.func122,Tryz.ntmps122;go_upto_region 1 with fail
 obtain⟨w0,hw0⟩:∃w0,w0=(w.alloc (.cells #[.int .i64 t, .slice x n c] 37)).alloc (CP p):=⟨_,rfl⟩;rw[<-hw0];have hB0:Below w.heap.size w w0:=by rw[hw0];exact bO w _ _
 have hb0:w0.heap[w.heap.size]?=some (.cells #[.int .i64 t, .slice x n c] 37):=by rw[hw0];exact aG _ (aB _ rfl)
 have hq0:w0.heap[w.heap.size+1]?=some (CP p):=by rw[hw0];exact aB _ (by simp)
 clear hw0;obtain⟨kb, -⟩:=aC hb0;go_wp2;clear kb;go_loopw [9] (fun i wr=>∃(k:Nat) (q:Po),k<=n/\i= .int .i64 k/\Hid (lL ps n p=lL ps (n- k) q)/\wr.heap[w.heap.size]?=some (.cells #[.int .i64 t, .slice x n c] 37)/\wr.heap[w.heap.size+1]?=some (CP q)/\Below w.heap.size w wr) (fun i _=>n- (intOf i).toNat)
 case atStart=>exact⟨0,p,by omega,rfl,rfl,hb0,hq0,hB0⟩
 case round=>
  obtain⟨k,q,hk,rfl,hup,hbb,hbq,hB⟩:=hrel
  clear hb0 hq0 hB0
  by_cases hlt:k<n
  ·have hlt':=hlt;obtain⟨f,hf⟩:∃f:Nat,Hid (n- k=f+1):=⟨n- k- 1,by unfold Hid;omega⟩;obtain⟨kb, -⟩:=aC hbb;obtain⟨kq,fq⟩:=aC hbq
   cases hu:(q.up==0)
   ·have hu':Hid (q.up≠0):=by unfold Hid;simpa using hu
    go_upto_region 6 with (go_at_call 83;refine(pplace_any t q.up x n c ps _ (hp.later hB) hn).mono ?_;rintro e w1 ⟨rfl,hb1⟩)
    have hbb1:=aA hb1 hbb;have hbq1:=aA hb1 hbq;have hB1:=hB.trans (hb1.mono hB.size);clear hb1 kb kq fq hbb hbq hB;obtain⟨kb, -⟩:=aC hbb1;obtain⟨kq,fq⟩:=aC hbq1;have g0:=Ws.here (v:= .slice x n c) (kb 1);have g1:=Ws.here (v:= .int .i64 q.id) (kq 0)
    cases hneg:decide (aO ps q.up<0)
    ·obtain⟨i,hi,hai, -⟩:=aX (ps:=ps) (id:=q.up) (by simpa using hneg);have hai':Hid (aO ps q.up=i):=hai;rw[hpl.out]at hi;have hpw:=hp.later hB1;obtain⟨b,o,rfl,c0,c1,c2,c3,c4,c5,c6,c7,c8⟩:=hpw.cells i hi;obtain⟨hl1,hl2,hl3⟩:=hpw.leases i hi;rw[hai];have hge:decide ((i:Int)<0)=false:=by simp
     clear hai hneg;have hi':=hi;have e0:=Ws.here c0;have e1:=Ws.here c1;have e2:=Ws.here c2;have e3:=Ws.here c3;have e4:=Ws.here c4;have e5:=Ws.here c5;have e6:=Ws.here c6;have e7:=Ws.here c7;have e8:=Ws.here c8;have hlf:=fun W h=>wG q.id (poAt ps i) W h hl2
     cases ha:anyAt (poAt ps i).n (gL (poAt ps i).ls q.id)
     ·have hfb:decide (bP (poAt ps i).n (gL (poAt ps i).ls q.id)<0)=true:=by
       rcases firstAt_any (n:=(poAt ps i).n) (f:=gL (poAt ps i).ls q.id)with ⟨h1, -⟩|⟨-, -,h1⟩
       ·rw[ha]at h1;cases h1
       ·rw[h1];rfl
      refine aH w1.heap.size (by kernel_rfl) (by kernel_rfl) ?_;repeat(go_big_quiet_step ((go_at_call 92;exact Calls.in_ws (zE) (hlf _ (hl3.later (Ws.property _))))))
      refine wpQuiet_nil ?_;rintro _ ⟨u,rfl⟩;have hu2:=hB1.trans (u.property.mono hB1.size);generalize u.val=wu at hu2⊢;clear u g0 g1 e0 e1 e2 e3 e4 e5 e6 e7 e8 c0 c1 c2 c3 c4 c5 c6 c7 c8;go_wp2;go_ret;exact⟨aM (by rw[hup.out,hf.out,YD hu'.out hai'.out ha]),hu2⟩
     ·have hfb:decide (bP (poAt ps i).n (gL (poAt ps i).ls q.id)<0)=false:=by
       rcases firstAt_any (n:=(poAt ps i).n) (f:=gL (poAt ps i).ls q.id)with ⟨-,k', -, -, -,h1⟩|⟨h1, -⟩
       ·rw[h1];simp
       ·rw[ha]at h1;cases h1
      refine aH w1.heap.size (by kernel_rfl) (by kernel_rfl) ?_;repeat(go_big_quiet_step ((go_at_call 92;exact Calls.in_ws (zE) (hlf _ (hl3.later (Ws.property _))))))
      refine wpQuiet_nil ?_;rintro _ ⟨u,rfl⟩;have hu0:Below w1.heap.size w1 u.val:=u.property;generalize u.val=wu at hu0⊢;clear u g0 g1 e0 e1 e2 e3 e4 e5 e6 e7 e8 kb kq fq;have hu2:=hB1.trans (hu0.mono hB1.size);have hbb2:=aA hu0 hbb1;have hbq2:=aA hu0 hbq1;replace c0:=cell_later hu0 c0;replace c1:=cell_later hu0 c1;replace c2:=cell_later hu0 c2;replace c3:=cell_later hu0 c3;replace c4:=cell_later hu0 c4;replace c5:=cell_later hu0 c5;replace c6:=cell_later hu0 c6;replace c7:=cell_later hu0 c7;replace c8:=cell_later hu0 c8;obtain⟨kb, -⟩:=aC hbb2;obtain⟨kq,fq⟩:=aC hbq2;go_wp2;go_roundw
      case rel=>exact⟨k+1,poAt ps i,hlt',by go_num,by
       unfold Hid;rw[hup.out,hf.out,LO hu'.out hai'.out ha];congr 1;have:=hf.out;omega,(ND (poAt ps i) (by omega)).trans hbb2,VC (poAt ps i) hbq2,NE (poAt ps i) hu2 (by omega)⟩
      case measure=>simp[intOf];omega
    ·have hai':Hid (aO ps q.up<0):=by unfold Hid;simpa using hneg
     refine aH w1.heap.size (by kernel_rfl) (by kernel_rfl) ?_;repeat(go_big_quiet_step (fail))
     refine wpQuiet_nil ?_;rintro _ ⟨u,rfl⟩;have hu2:=hB1.trans (u.property.mono hB1.size);generalize u.val=wu at hu2⊢;clear u g0 g1;go_wp2;go_ret;exact⟨aM (by rw[hup.out,hf.out,VB hu'.out hai'.out]),hu2⟩
   ·have hu':Hid (q.up=0):=by unfold Hid;simpa using hu
    go_wp2;go_ret;exact⟨aM (by rw[hup.out,hf.out,YC hu'.out]),hB⟩
  ·obtain rfl:k=n:=by omega
   go_wp2;go_ret;exact⟨aM (by rw[hup.out,Nat.sub_self];rfl),hB⟩
abbrev YE(e:Le):Value:= .agg #[.int .i64 e.a, .int .i64 e.l, .int .i64 e.kd, .int .i64 e.ow, .int .i64 e.un]
abbrev UQ(e:Le):Obj:= .cells #[.int .i64 e.a, .int .i64 e.l, .int .i64 e.kd, .int .i64 e.ow, .int .i64 e.un] 87
abbrev VD(t:Int)(x:Option Addr)(n c:Nat):Obj:= .cells #[.int .i64 t, .slice x n c] 37
def YF(q:Po)(id:Int)(e:Le):Bool:=(q.up==id)&&(decide (q.a=e.a)&&decide (q.l=e.l))&&(e.un==0)
def rC(t:Int)(ps:List Po)(id:Int)(e:Le):Bool:=
 if e.kd=1 then dE e.ow 1 65536&&(e.un==0)
 else if e.kd=2 then(if aO ps e.ow<0 then false else YF (poAt ps (aO ps e.ow).toNat) id e)
 else if e.kd=3 then(e.ow==0)&&(decide (t<e.un)&&decide (e.un<=t+1024))else false
theorem isId_is(v:Int)(t:Bool)(h:dE v 1 65536=t)(w:World):Calls Tryz.prog 81 #[.int .i64 v] w fun e w'=>e= .returned (.bool t)/\w'=w:=by
 subst h;exact isId_any v w
theorem JG{Q:Act->Prop}{o:Oper}(x y:Operand)(t:TypeId)(a l c m:Int)(hop:o.op= .binOp .eql 26 x y t)(hg:Region.wanted o (yielded ops A.tmps)=true)
 (hx:A.eval x= .agg #[.int .i64 a, .int .i64 l])(hy:A.eval y= .agg #[.int .i64 c, .int .i64 m])(h:wpQuiet Tryz.prog ops C Q rest (A.put o.dst (.bool (decide (a=c)&&decide (l=m))))):wpQuiet Tryz.prog ops C Q (o::rest) A:=by
 unfold wpQuiet;rw[if_pos hg];refine⟨_,fun w _=>?_,h⟩;unfold Oper.quietAt execOp;rw[hop];simp only[hx,hy,Sem.run_bind,sB,CJ,Result.andThen_ok,Sem.run_pure];exact⟨rfl,rfl⟩
theorem aCw{t:Int}{id:Int}(h:e.kd=1):rC t ps id e=(dE e.ow 1 65536&&(e.un==0)):=by unfold rC;rw[if_pos h]
theorem aAw{t:Int}{id:Int}(h:e.kd=2)(h2:aO ps e.ow<0):rC t ps id e=false:=by unfold rC;rw[if_neg (by omega),if_pos h,if_pos h2]
theorem aAx{t:Int}{id:Int}(h:e.kd=2)(h2:aO ps e.ow=i):rC t ps id e=YF (poAt ps i) id e:=by
 unfold rC;rw[if_neg (by omega),if_pos h,h2,if_neg (by omega)];simp only[Int.toNat_natCast]
theorem aCx{t:Int}{id:Int}(h:e.kd=3):rC t ps id e=((e.ow==0)&&(decide (t<e.un)&&decide (e.un<=t+1024))):=by unfold rC;rw[if_neg (by omega),if_neg (by omega),if_pos h]
theorem aCy{t:Int}{id:Int}(h1:e.kd≠1)(h2:e.kd≠2)(h3:e.kd≠3):rC t ps id e=false:=by unfold rC;rw[if_neg h1,if_neg h2,if_neg h3]
theorem EI(t id:Int)(x:Option Addr)(n c:Nat)(ps:List Po)(e:Le)(w:World)(hk:e.kd=1):
  Calls Tryz.prog 123 #[.agg #[.int .i64 t, .slice x n c], .int .i64 id,YE e] w fun r w'=>r= .returned (.bool (rC t ps id e))/\Below w.heap.size w w':=by
 have hb1:(e.kd==1)=true:=by simpa using hk
 rw[aCw hk];clear hk
 cases hi:dE e.ow 1 65536;all_goals go_enter Tryz.func123,Tryz.ntmps123
 all_goals go_wp2_with (go_at_call 81;refine(isId_is e.ow _ hi _).mono ?_;rintro r w1 ⟨rfl,rfl⟩)
 all_goals go_ret
 all_goals exact⟨rfl,bO w _ _⟩
theorem EJ(t id:Int)(x:Option Addr)(n c:Nat)(ps:List Po)(e:Le)(w:World)(hk:e.kd=3)(t0:0<=t)(t1:t<=1073741824):
  Calls Tryz.prog 123 #[.agg #[.int .i64 t, .slice x n c], .int .i64 id,YE e] w fun r w'=>r= .returned (.bool (rC t ps id e))/\Below w.heap.size w w':=by
 have hb1:(e.kd==1)=false:=by simp[hk]
 have hb2:(e.kd==2)=false:=by simp[hk]
 have hb3:(e.kd==3)=true:=by simp[hk]
 rw[aCx hk];clear hk
 cases ho:(e.ow==0)
 ·go_enter Tryz.func123,Tryz.ntmps123;go_wp2;go_ret;exact⟨rfl,bO w _ _⟩
 ·cases hu:decide (t<e.un);all_goals go_enter Tryz.func123,Tryz.ntmps123
  all_goals go_wp2
  all_goals go_ret
  all_goals exact⟨rfl,bO w _ _⟩
theorem EK(t id:Int)(x:Option Addr)(n c:Nat)(ps:List Po)(e:Le)(w:World)(h1:e.kd≠1)(h2:e.kd≠2)(h3:e.kd≠3):
  Calls Tryz.prog 123 #[.agg #[.int .i64 t, .slice x n c], .int .i64 id,YE e] w fun r w'=>r= .returned (.bool (rC t ps id e))/\Below w.heap.size w w':=by
 have hb1:(e.kd==1)=false:=by simpa using h1
 have hb2:(e.kd==2)=false:=by simpa using h2
 have hb3:(e.kd==3)=false:=by simpa using h3
 rw[aCy h1 h2 h3];clear h1 h2 h3;go_enter Tryz.func123,Tryz.ntmps123;go_wp2;go_ret;exact⟨rfl,bO w _ _⟩
theorem EL(t id:Int)(x:Option Addr)(n c:Nat)(ps:List Po)(e:Le)(w:World)(hp:mX w x n ps)(hn:n<=64)(hk:e.kd=2):
  Calls Tryz.prog 123 #[.agg #[.int .i64 t, .slice x n c], .int .i64 id,YE e] w fun r w'=>r= .returned (.bool (rC t ps id e))/\Below w.heap.size w w':=by
 have hpl:Hid (ps.length=n):=hp.len;have hb1:(e.kd==1)=false:=by simp[hk]
 have hb2:(e.kd==2)=true:=by simp[hk]
 have hk':Hid (e.kd=2):=hk;clear hk;go_enter Tryz.func123,Tryz.ntmps123;go_upto_region 5 with fail
 obtain⟨w0,hw0⟩:∃w0,w0=(w.alloc (VD t x n c)).alloc (UQ e):=⟨_,rfl⟩;rw[<-hw0];have hB0:Below w.heap.size w w0:=by rw[hw0];exact bO w _ _
 have hb0:w0.heap[w.heap.size]?=some (VD t x n c):=by rw[hw0];exact aG _ (aB _ rfl)
 have hq0:w0.heap[w.heap.size+1]?=some (UQ e):=by rw[hw0];exact aB _ (by simp)
 clear hw0;obtain⟨kb, -⟩:=aC hb0;obtain⟨kq, -⟩:=aC hq0;go_upto_region 6 with (go_at_call 83;refine(pplace_any t e.ow x n c ps _ (hp.later hB0) hn).mono ?_;rintro r w1 ⟨rfl,hb1'⟩)
 have hbb1:=aA hb1' hb0;have hbq1:=aA hb1' hq0;have hB1:=hB0.trans (hb1'.mono hB0.size);clear hb1' kb kq hb0 hq0 hB0;obtain⟨kb, -⟩:=aC hbb1;obtain⟨kq, -⟩:=aC hbq1;have g0:=Ws.here (v:= .slice x n c) (kb 1);have g1:=Ws.here (v:= .int .i64 e.a) (kq 0);have g2:=Ws.here (v:= .int .i64 e.l) (kq 1);have g3:=Ws.here (v:= .int .i64 e.un) (kq 4)
 cases hneg:decide (aO ps e.ow<0)
 ·obtain⟨i,hi,hai, -⟩:=aX (ps:=ps) (id:=e.ow) (by simpa using hneg);have hai':Hid (aO ps e.ow=i):=hai;rw[hpl.out]at hi;have hpw:=hp.later hB1;obtain⟨b,o,rfl,c0,c1,c2,c3, -⟩:=hpw.cells i hi;rw[hai];have hge:decide ((i:Int)≥0)=true:=by simp
  clear hai hneg;have e1:=Ws.here c1;have e2:=Ws.here c2;have e3:=Ws.here c3
  cases hup:((poAt ps i).up==id)
  ·refine aH w1.heap.size (by kernel_rfl) (by kernel_rfl) ?_;repeat(go_big_quiet_step (fail))
   refine wpQuiet_nil ?_;rintro _ ⟨u,rfl⟩;have hu2:=hB1.trans (u.property.mono hB1.size);generalize u.val=wu at hu2⊢;clear u g0 g1 g2 g3 e1 e2 e3;go_wp2;go_ret;exact⟨aM (by rw[aAx hk'.out hai'.out];unfold YF;rw[hup];rfl),hu2⟩
  ·cases heq:(decide ((poAt ps i).a=e.a)&&decide ((poAt ps i).l=e.l));all_goals refine aH w1.heap.size (by kernel_rfl) (by kernel_rfl) ?_
   all_goals repeat(go_big_quiet_step (fail))
   all_goals refine JG _ _ _ (poAt ps i).a (poAt ps i).l e.a e.l rfl (by rfl) rfl rfl ?_
   all_goals rw[heq]
   all_goals simp only[Act.put,List.setIfInBounds_toArray,List.set_cons_zero,List.set_cons_succ]
   all_goals repeat(go_big_quiet_step (fail))
   all_goals refine wpQuiet_nil ?_
   all_goals rintro _ ⟨u,rfl⟩
   all_goals have hu2:=hB1.trans (u.property.mono hB1.size)
   all_goals generalize u.val=wu at hu2⊢
   all_goals clear u g0 g1 g2 g3 e1 e2 e3
   all_goals go_wp2
   all_goals go_ret
   all_goals exact⟨aM (by rw[aAx hk'.out hai'.out];unfold YF;rw[hup,heq];rfl),hu2⟩
 ·have hai':Hid (aO ps e.ow<0):=by unfold Hid;simpa using hneg
  have hge:decide (aO ps e.ow≥0)=false:=by simp at hneg⊢;omega
  clear hneg;refine aH w1.heap.size (by kernel_rfl) (by kernel_rfl) ?_;repeat(go_big_quiet_step (fail))
  refine wpQuiet_nil ?_;rintro _ ⟨u,rfl⟩;have hu2:=hB1.trans (u.property.mono hB1.size);generalize u.val=wu at hu2⊢;clear u g0 g1 g2 g3;go_wp2;go_ret;exact⟨aM (by rw[aAw hk'.out hai'.out]),hu2⟩
theorem yQ(t id:Int)(x:Option Addr)(n c:Nat)(ps:List Po)(e:Le)(w:World)(hp:mX w x n ps)(hn:n<=64)(t0:0<=t)(t1:t<=1073741824):
  Calls Tryz.prog 123 #[.agg #[.int .i64 t, .slice x n c], .int .i64 id,YE e] w fun r w'=>r= .returned (.bool (rC t ps id e))/\Below w.heap.size w w':=by
 by_cases h1:e.kd=1
 ·exact EI t id x n c ps e w h1
 ·by_cases h2:e.kd=2
  ·exact EL t id x n c ps e w hp hn h2
  ·by_cases h3:e.kd=3
   ·exact EJ t id x n c ps e w h3 t0 t1
   ·exact EK t id x n c ps e w h1 h2 h3
def BW(t:Int)(ps:List Po)(p:Po):Bool:=(List.range p.n).all fun i=>rC t ps p.id (aN p.ls i)
def kT(t:Int)(ps:List Po)(n:Nat)(p:Po):Bool:=(kM p.a p.l p.n (lp p.ls)==0)&&(dC p.mn p.mx p.us p.co p.l&&(lL ps n p&&BW t ps p))
theorem YG{t:Int}(hk:k<p.n)(h:rC t ps p.id (aN p.ls k)=false):BW t ps p=false:=by
 unfold BW;rw[List.all_eq_false];exact⟨k,by simpa using hk,by simp[h]⟩
theorem VE{t:Int}(h:∀j,j<p.n->rC t ps p.id (aN p.ls j)=true):BW t ps p=true:=by
 unfold BW;rw[List.all_eq_true];intro j hj;exact h j (by simpa using hj)
theorem sL(mn mx us co a l:Int)(t:Bool)(h:dC mn mx us co l=t)(w:World):
  Calls Tryz.prog 121 #[.agg #[.int .i64 mn, .int .i64 mx, .int .i64 us, .int .i64 co], .agg #[.int .i64 a, .int .i64 l]] w fun e w'=>e= .returned (.bool t)/\Below w.heap.size w w':=by
 subst h;exact qG mn mx us co a l w
theorem yR(t:Int)(x:Option Addr)(n c:Nat)(ps:List Po)(p:Po)(r:Bool)(h:lL ps n p=r)(w:World)(hp:mX w x n ps)(hn:n<=64):
  Calls Tryz.prog 122 #[.agg #[.int .i64 t, .slice x n c],poV p] w fun e w'=>e= .returned (.bool r)/\Below w.heap.size w w':=by
 subst h;exact GR t x n c ps p w hp hn
theorem qH(t id:Int)(x:Option Addr)(n c:Nat)(ps:List Po)(e:Le)(r:Bool)(h:rC t ps id e=r)(w:World)(hp:mX w x n ps)(hn:n<=64)(t0:0<=t)(t1:t<=1073741824):
  Calls Tryz.prog 123 #[.agg #[.int .i64 t, .slice x n c], .int .i64 id,YE e] w fun r' w'=>r'= .returned (.bool r)/\Below w.heap.size w w':=by
 subst h;exact yQ t id x n c ps e w hp hn t0 t1
theorem qI(a l:Int)(n:Nat)(ls:List Le)(v:Int)(hv:kM a l n (lp ls)=v)(x:Option Addr)(c:Nat)(w:World)(h:PS w x n (lp ls)):
  Calls Tryz.prog 119 #[.agg #[.int .i64 a, .int .i64 l, .slice x n c]] w fun e w'=>e= .returned (.int .i64 v)/\Below w.heap.size w w':=by
 subst hv;exact yJ a l x n c (lp ls) w (fun _=>h)
theorem BX(t:Int)(x:Option Addr)(n c:Nat)(ps:List Po)(p:Po)(w:World)(hp:mX w x n ps)(hn:n<=64)(hl:LS w p.x p.n p.ls)(hpn:p.n<=1048576)(t0:0<=t)(t1:t<=1073741824):
  Calls Tryz.prog 61 #[.agg #[.int .i64 t, .slice x n c],poV p] w fun e w'=>e= .returned (.bool (kT t ps n p))/\Below w.heap.size w w':=by
 unfold kT;go_enter Tryz.func61,Tryz.ntmps61;go_upto_region 1 with fail
 obtain⟨w0,hw0⟩:∃w0,w0=(w.alloc (VD t x n c)).alloc (CP p):=⟨_,rfl⟩;rw[<-hw0];have hB0:Below w.heap.size w w0:=by rw[hw0];exact bO w _ _
 have hb0:w0.heap[w.heap.size]?=some (VD t x n c):=by rw[hw0];exact aG _ (aB _ rfl)
 have hq0:w0.heap[w.heap.size+1]?=some (CP p):=by rw[hw0];exact aB _ (by simp)
 clear hw0;obtain⟨kq, -⟩:=aC hq0
 cases hch:(kM p.a p.l p.n (lp p.ls)==0)
 ·have hch':(kM p.a p.l p.n (lp p.ls)!=0)=true:=by simpa using hch
  generalize hv:kM p.a p.l p.n (lp p.ls)=v at hch hch';go_wp2_with fail;refine(nY p _ (hl.later hB0) hpn).mono ?_;rintro e w1 ⟨x1,c1,rfl,hb1,hp1⟩;have hB1:=hB0.trans (hb1.mono hB0.size);obtain⟨kq1, -⟩:=aC (aA hb1 hq0);go_wp2_with fail;refine(qI p.a p.l p.n p.ls v hv x1 c1 _ hp1).mono ?_;rintro e w2 ⟨rfl,hb2⟩;have hB2:=hB1.trans (hb2.mono hB1.size);go_wp2;go_ret;exact⟨aM (by rw[hv,hch];rfl),hB2⟩
 ·have hch0:kM p.a p.l p.n (lp p.ls)=0:=by simpa using hch
  have hn32:p.n<=32:=(gV hch0).1;go_wp2_with fail;refine(nY p _ (hl.later hB0) hpn).mono ?_;rintro e w1 ⟨x1,c1,rfl,hb1,hp1⟩;have hB1:=hB0.trans (hb1.mono hB0.size);have hb1b:=aA hb1 hb0;have hb1q:=aA hb1 hq0;clear hb1 hb0 hq0 hB0 kq;go_wp2_with fail;refine(qI p.a p.l p.n p.ls 0 hch0 x1 c1 _ hp1).mono ?_;rintro e w2 ⟨rfl,hb2⟩;have hB2:=hB1.trans (hb2.mono hB1.size);have hb2b:=aA hb2 hb1b;have hb2q:=aA hb2 hb1q;clear hb2 hb1b hb1q hB1 hp1 hch;obtain⟨kq, -⟩:=aC hb2q
  cases hru:dC p.mn p.mx p.us p.co p.l
  ·go_wp2_with fail;refine(sL _ _ _ _ _ _ _ hru _).mono ?_;rintro e w3 ⟨rfl,hb3⟩;go_wp2;go_ret;exact⟨aM (by rw[hch0,hru];rfl),hB2.trans (hb3.mono hB2.size)⟩
  ·go_wp2_with fail;refine(sL _ _ _ _ _ _ _ hru _).mono ?_;rintro e w3 ⟨rfl,hb3⟩;have hB3:=hB2.trans (hb3.mono hB2.size);have hb3b:=aA hb3 hb2b;have hb3q:=aA hb3 hb2q;clear hb3 hb2b hb2q hB2 kq;obtain⟨kq, -⟩:=aC hb3q;obtain⟨kb, -⟩:=aC hb3b
   cases hup:lL ps n p
   ·go_wp2_with fail;refine(yR t x n c ps p _ hup _ (hp.later hB3) hn).mono ?_;rintro e w4 ⟨rfl,hb4⟩;go_wp2;go_ret;exact⟨aM (by rw[hch0,hru,hup];rfl),hB3.trans (hb4.mono hB3.size)⟩
   ·go_wp2_with fail;refine(yR t x n c ps p _ hup _ (hp.later hB3) hn).mono ?_;rintro e w4 ⟨rfl,hb4⟩;have hB4:=hB3.trans (hb4.mono hB3.size);have hb4b:=aA hb4 hb3b;have hb4q:=aA hb4 hb3q;clear hb4 hb3b hb3q hB3 kq kb;obtain⟨kq, -⟩:=aC hb4q;go_wp2;clear kq;go_loopw [28] (fun i wr=>∃k:Nat,k<=p.n/\i= .int .i64 k/\(∀j,j<k->rC t ps p.id (aN p.ls j)=true)/\wr.heap[w.heap.size]?=some (VD t x n c)/\wr.heap[w.heap.size+1]?=some (CP p)/\Below w.heap.size w wr) (fun i _=>p.n- (intOf i).toNat)
    case atStart=>exact⟨0,by omega,rfl,fun j hj=>by omega,hb4b,hb4q,hB4⟩
    case round=>
     obtain⟨k,hk,rfl,hok,hbb,hbq,hB⟩:=hrel
     clear hb4b hb4q hB4
     by_cases hlt:k<p.n
     ·obtain⟨b,o,hx,c0,c1,c2,c3,c4⟩:=(hl.later hB).cells k hlt;have hlt':=hlt;have hbb':=aG (UQ (aN p.ls k)) hbb;have hbq':=aG (UQ (aN p.ls k)) hbq;have hB':=hB.alloc hB.size (UQ (aN p.ls k));obtain⟨kb, -⟩:=aC hbb';obtain⟨kq, -⟩:=aC hbq';rw[hx]
      cases hle:rC t ps p.id (aN p.ls k)
      ·go_wp2_with fail;refine(qH t p.id x n c ps (aN p.ls k) _ hle _ (hp.later hB') hn t0 t1).mono ?_;rintro e w5 ⟨rfl,hb5⟩;go_wp2;go_ret;exact⟨aM (by rw[hch0,hru,hup,YG hlt' hle];rfl),hB'.trans (hb5.mono hB'.size)⟩
      ·go_wp2_with fail;refine(qH t p.id x n c ps (aN p.ls k) _ hle _ (hp.later hB') hn t0 t1).mono ?_;rintro e w5 ⟨rfl,hb5⟩;have hbb5:=aA hb5 hbb';have hbq5:=aA hb5 hbq';clear kb kq;go_wp2;go_roundw
       case rel=>exact⟨k+1,hlt',by go_num,fun j hj=>by
        by_cases hj2:j<k
        ·exact hok j hj2
        ·obtain rfl:j=k:=by omega
         exact hle,hbb5,hbq5,hB'.trans (hb5.mono hB'.size)⟩
       case measure=>simp[intOf];omega
     ·obtain rfl:k=p.n:=by omega
      go_wp2;go_ret;exact⟨aM (by rw[hch0,hru,hup,VE hok];rfl),hB⟩
def oA(t:Int)(ps:List Po):Bool:=(List.range ps.length).all fun i=>kT t ps ps.length (poAt ps i)
def aS(t:Int)(ps:List Po):Int:=if 8<ps.length then 2 else if(dE t 0 1073741824&&(lQ ps.length ps&&(gF ps&&oA t ps)))=true then 0 else 1
theorem QU{t:Int}(hk:k<ps.length)(h:kT t ps ps.length (poAt ps k)=false):oA t ps=false:=by
 unfold oA;rw[List.all_eq_false];exact⟨k,by simpa using hk,by simp[h]⟩
theorem uN{t:Int}(h:∀j,j<ps.length->kT t ps ps.length (poAt ps j)=true):oA t ps=true:=by
 unfold oA;rw[List.all_eq_true];intro j hj;exact h j (by simpa using hj)
theorem QV{t:Int}(h:8<ps.length):aS t ps=2:=by unfold aS;rw[if_pos h]
theorem yS{t:Int}(h:ps.length<=8)(h2:(dE t 0 1073741824&&(lQ ps.length ps&&(gF ps&&oA t ps)))=false):aS t ps=1:=by unfold aS;rw[if_neg (by omega),h2];rfl
theorem EM{t:Int}(h:ps.length<=8)(h2:(dE t 0 1073741824&&(lQ ps.length ps&&(gF ps&&oA t ps)))=true):aS t ps=0:=by unfold aS;rw[if_neg (by omega),if_pos h2]
theorem yT(x:Option Addr)(n c:Nat)(ps:List Po)(r:Bool)(h:lQ n ps=r)(w:World)(hp:mX w x n ps)(hn:n<=64):
  Calls Tryz.prog 59 #[.slice x n c] w fun e w'=>e= .returned (.bool r)/\Below w.heap.size w w':=by
 subst h;exact GP x n c ps w hp hn
theorem sM(x:Option Addr)(n c:Nat)(ps:List Po)(r:Bool)(h:gF ps=r)(w:World)(hp:mX w x n ps)(hn:n<=64)(hnc:n<=c)(hc63:c<=9223372036854775807):
  Calls Tryz.prog 60 #[.slice x n c] w fun e w'=>e= .returned (.bool r)/\Below w.heap.size w w':=by
 subst h;exact BV x n c ps w hp hn hnc hc63
theorem sN(t:Int)(x:Option Addr)(n c:Nat)(ps:List Po)(p:Po)(r:Bool)(h:kT t ps n p=r)(w:World)(hp:mX w x n ps)(hn:n<=64)(hl:LS w p.x p.n p.ls)(hpn:p.n<=1048576)(t0:0<=t)(t1:t<=1073741824):
  Calls Tryz.prog 61 #[.agg #[.int .i64 t, .slice x n c],poV p] w fun e w'=>e= .returned (.bool r)/\Below w.heap.size w w':=by
 subst h;exact BX t x n c ps p w hp hn hl hpn t0 t1
theorem QW{v b:Int}(h:v<a\/b<v):dE v a b=false:=by
 unfold dE;rcases h with h|h
 ·rw[decide_eq_false (by omega),Bool.false_and]
 ·rw[decide_eq_false (p:=v<=b) (by omega),Bool.and_false]
theorem VF{v b:Int}(h:a<=v)(h2:v<=b):dE v a b=true:=by
 unfold dE;rw[decide_eq_true h,decide_eq_true h2];rfl
structure Bk(w:World)(x:Option Addr)(n c:Nat)(ps:List Po):Prop where
 ps:mX w x n ps
 nc:n<=c
 cm:c<=9223372036854775807
theorem Bk.later(h:Bk w x n c ps)(hb:Below w.heap.size w w'):Bk w' x n c ps:=⟨h.ps.later hb,h.nc,h.cm⟩
theorem fA(t:Int)(x:Option Addr)(n c:Nat)(ps:List Po)(w:World)(hk:Bk w x n c ps):
  Calls Tryz.prog 31 #[.agg #[.int .i64 t, .slice x n c]] w fun e w'=>e= .returned (.int .i64 (aS t ps))/\Below w.heap.size w w':=by
 obtain⟨hp,hnc,hcm⟩:=hk;have hpl:Hid (ps.length=n):=hp.len;by_cases hn8:8<n
 ·rw[QV (by rw[hpl.out];exact hn8)];go_enter Tryz.func31,Tryz.ntmps31;go_wp2;go_ret;exact⟨rfl,bl1 w _⟩
 ·have hle:Hid (ps.length<=8):=by unfold Hid;rw[hpl.out];omega
  by_cases ht0:t<0
  ·rw[yS hle.out (by rw[QW (.inl ht0)];rfl)];go_enter Tryz.func31,Tryz.ntmps31;go_wp2;go_ret;exact⟨rfl,bl1 w _⟩
  ·by_cases ht1:1073741824<t
   ·rw[yS hle.out (by rw[QW (.inr ht1)];rfl)];go_enter Tryz.func31,Tryz.ntmps31;go_wp2;go_ret;exact⟨rfl,bl1 w _⟩
   ·have hwt:Hid (dE t 0 1073741824=true):=VF (by omega) (by omega);go_enter Tryz.func31,Tryz.ntmps31;go_upto_region 3 with fail
    obtain⟨w0,hw0⟩:∃w0,w0=w.alloc (VD t x n c):=⟨_,rfl⟩;rw[<-hw0];have hB0:Below w.heap.size w w0:=by rw[hw0];exact bl1 w _
    have hb0:w0.heap[w.heap.size]?=some (VD t x n c):=by rw[hw0];exact aB _ rfl
    clear hw0;obtain⟨kb, -⟩:=aC hb0
    cases hid:lQ n ps
    ·go_wp2_with fail;refine(yT x n c ps _ hid _ (hp.later hB0) (by omega)).mono ?_;rintro e w1 ⟨rfl,hb1⟩;go_wp2;go_ret;exact⟨cO (yS hle.out (by rw[hwt.out,hpl.out,hid];rfl)).symm,hB0.trans (hb1.mono hB0.size)⟩
    ·go_wp2_with fail;refine(yT x n c ps _ hid _ (hp.later hB0) (by omega)).mono ?_;rintro e w1 ⟨rfl,hb1⟩;have hB1:=hB0.trans (hb1.mono hB0.size);have hb1b:=aA hb1 hb0;clear hb1 hb0 hB0 kb;obtain⟨kb, -⟩:=aC hb1b
     cases hto:gF ps
     ·go_wp2_with fail;refine(sM x n c ps _ hto _ (hp.later hB1) (by omega) hnc hcm).mono ?_;rintro e w2 ⟨rfl,hb2⟩;go_wp2;go_ret;exact⟨cO (yS hle.out (by rw[hwt.out,hpl.out,hid,hto];rfl)).symm,hB1.trans (hb2.mono hB1.size)⟩
     ·go_wp2_with fail;refine(sM x n c ps _ hto _ (hp.later hB1) (by omega) hnc hcm).mono ?_;rintro e w2 ⟨rfl,hb2⟩;have hB2:=hB1.trans (hb2.mono hB1.size);have hb2b:=aA hb2 hb1b;clear hb2 hb1b hB1 kb;obtain⟨kb, -⟩:=aC hb2b;go_wp2;clear kb;go_loopw [34] (fun i wr=>∃k:Nat,k<=n/\i= .int .i64 k/\(∀j,j<k->kT t ps n (poAt ps j)=true)/\wr.heap[w.heap.size]?=some (VD t x n c)/\Below w.heap.size w wr) (fun i _=>n- (intOf i).toNat)
      case atStart=>exact⟨0,by omega,rfl,fun j hj=>by omega,hb2b,hB2⟩
      case round=>
       obtain⟨k,hk,rfl,hok,hbb,hB⟩:=hrel
       clear hb2b hB2
       by_cases hlt:k<n
       ·have hpw:=hp.later hB;obtain⟨b,o,rfl,c0,c1,c2,c3,c4,c5,c6,c7,c8⟩:=hpw.cells k hlt;obtain⟨hl1,hl2,hl3⟩:=hpw.leases k hlt;have hlt':=hlt;have hbb':=aG (CP (poAt ps k)) hbb;have hB':=hB.alloc hB.size (CP (poAt ps k));have hl':=hl3.later (bl1 wr (CP (poAt ps k)));have hp':=hpw.later (bl1 wr (CP (poAt ps k)));obtain⟨kb, -⟩:=aC hbb'
        cases hpo:kT t ps n (poAt ps k)
        ·go_wp2_with fail;refine(sN t _ n c ps (poAt ps k) _ hpo _ hp' (by omega) hl' hl2 (by omega) (by omega)).mono ?_;rintro e w5 ⟨rfl,hb5⟩;go_wp2;go_ret;exact⟨cO (yS hle.out (by rw[hwt.out,hpl.out,hid,hto,QU (k:=k) (by rw[hpl.out];exact hlt') (by rw[hpl.out];exact hpo)];rfl)).symm,hB'.trans (hb5.mono hB'.size)⟩
        ·go_wp2_with fail;refine(sN t _ n c ps (poAt ps k) _ hpo _ hp' (by omega) hl' hl2 (by omega) (by omega)).mono ?_;rintro e w5 ⟨rfl,hb5⟩;have hbb5:=aA hb5 hbb';clear kb;go_wp2;go_roundw
         case rel=>exact⟨k+1,hlt',by go_num,fun j hj=>by
          by_cases hj2:j<k
          ·exact hok j hj2
          ·obtain rfl:j=k:=by omega
           exact hpo,hbb5,hB'.trans (hb5.mono hB'.size)⟩
         case measure=>simp[intOf];omega
       ·obtain rfl:k=n:=by omega
        go_wp2;go_ret;exact⟨cO (EM hle.out (by rw[hwt.out,hpl.out,hid,hto,uN (by rw[hpl.out];exact hok)];rfl)).symm,hB⟩
end Go.Proofs.YtjphnaccgfjnjaaGreatDoor
