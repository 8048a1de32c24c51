/- A part of the proof. -/
import Derived.Test.YtkgeoeglidnnnaaGreatDoorMD14
set_option maxRecDepth 100000
set_option maxHeartbeats 20000000
namespace Go.Proofs.YtkgeoeglidnnnaaGreatDoor
variable {m n c vn vc ln k b : Nat} {u w W wr : World} {t a l : Int} {x vx lx : Option Addr} {ps : List Po} {vs : List Vn} {ls : List (Int × Int)} {v : Value} {ops : Array Oper} {C : World → Prop} {A : Act} {o : Oper} {rest : List Oper} {f : Nat → Bool} {xs ys : List Int}
open Go.RowKit Go.Shelf
def TZ(L:List ByteArray):ByteArray:=⟨(L.map (·.data.toList)).flatten.toArray⟩
theorem CW:∀xs:List (List UInt8),Lib.join xs []=xs.flatten
 |[]=>rfl
 |x::xs=>by
  rw[Lib.join_cons];simp[Lib.joinTail]
theorem uJ:∀L:List ByteArray,(∀x∈L,x.size<=m)->(L.map (·.data.toList)).flatten.length<=L.length*m
 |[],_=>by simp
 |x::L,h=>by
  have h1:=uJ L fun y hy=>h y (by simp[hy]);have h2:x.data.toList.length<=m:=Nat.le_trans (Nat.le_of_eq Array.length_toList) (h x (List.mem_cons_self ..));rw[zK,List.flatten_cons,List.length_append,List.length_cons,Nat.add_mul];omega
theorem O9(base b:Nat)(v:Value)(L:List ByteArray)(w:World)(hP:BO w base b v L)(h0:0<L.length)(hL:L.length<=2000):
  Calls Tryz.prog 11 #[.pointer (some ⟨b,0,none⟩)] w fun e w'=>e= .returned (.string (TZ L))/\Below w.heap.size w w':=by
 have hs:=uJ L hP.sz;have hr:=hP.row;rcases hP.row.2 with ⟨-,hv⟩|⟨g,cap,cur,rfl,h3,h4,h5,h6,h7,h8⟩
 ·omega
 have hr:=(DI hP.row (fun u hu=>by simp only[List.mem_map]at hu;obtain⟨y, -,rfl⟩:=hu;rfl)).2.2.2 _ rfl;have hj:=sQ g 0 cap L ⟨#[]⟩ w (fun j x hx=>by have:=hr j (.string x) (by simp[hx]);rwa[cA]at this) (zG h4) (by omega) h5 (by show(Lib.join _ []).length<=_;rw[CW];omega);have he:Lib.join (L.map (·.data.toList)) (ByteArray.mk #[]).data.toList=(L.map (·.data.toList)).flatten:=CW _;rw[he]at hj;have c0:=aO hP.box 0 rfl;clear hr he hs;go_enter Tryz.func11,Tryz.ntmps11;go_wp2_with (go_at_call 30;refine hj.mono ?_;rintro e w1 ⟨rfl,hb1⟩);go_ret;exact⟨rfl,hb1⟩
structure YI(u:World)(t:Int)(ps:List Po)(vs:List Vn)(ls:List (Int×Int))(n vn ln:Nat):Prop where
 tk:num t
 po:∀p∈ps,poW u p
 nv:∀z∈vs,vnN z
 lk:∀l∈ls,num l.1/\num l.2
 n8:n<=8
 v6:vn<=6
 l12:ln<=12
def T0(t:Int)(ps:List Po)(vs:List Vn)(ls:List (Int×Int)):List ByteArray:=bkL t ps++ntL vs ls
def shE(t:Int)(ps:List Po)(vn:Nat)(vs:List Vn)(ln:Nat)(ls:List (Int×Int)):ByteArray:=if hZ t ps vn vs ln ls=0 then TZ (T0 t ps vs ls)else⟨#[]⟩
theorem L3(hs:Si u x n c ps vx vn vc vs lx ln ls)(hN:YI u t ps vs ls n vn ln):0<(T0 t ps vs ls).length/\(bkL t ps).length<=600/\(T0 t ps vs ls).length<=2000:=by
 have h1:=fR AG (m:=65) ps fun p hp=>by
  have h2:=hN.po p hp;have:=h2.ls.len;have:=h2.n;simp[AG];omega
 have h3:=fR qP (m:=100) vs fun z hz=>by
  obtain⟨i,hi,rfl⟩:=List.getElem_of_mem hz;have h2:=(hs.vps.vps i (by rw[<-hs.vps.len];exact hi)).2.2.2;unfold vnAt at h2;rw[zF,List.getElem?_eq_getElem hi]at h2;exact wZ h2 (hN.nv _ (List.getElem_mem hi))
 have:=hs.bk.ps.len;have:=hs.vps.len;have:=hs.lk.len;have:=hN.n8;have:=hN.v6;have:=hN.l12;simp only[T0,bkL,ntL,List.length_append,List.length_cons,List.length_map];omega
theorem HW(t:Int)(x:Option Addr)(n c:Nat)(ps:List Po)(vx:Option Addr)(vn vc:Nat)(vs:List Vn)(lx:Option Addr)(ln lc:Nat)(ls:List (Int×Int))(w:World)(hs:Si w x n c ps vx vn vc vs lx ln ls)(hE:A0 w)(hN:hZ t ps vn vs ln ls=0->YI w t ps vs ls n vn ln):
  Calls Tryz.prog 4 #[.agg #[.int .i64 t, .slice x n c, .slice vx vn vc, .slice lx ln lc]] w fun e w'=>e= .returned (.tuple #[.string (shE t ps vn vs ln ls), .int .i64 (hZ t ps vn vs ln ls)])/\Below w.heap.size w w':=by
 obtain⟨w0,hw0⟩:∃w0,w0=w.alloc (lH t (.slice x n c) (.slice vx vn vc) (.slice lx ln lc)):=⟨_,rfl⟩;have hB0:Below w.heap.size w w0:=by rw[hw0];exact bl1 w _
 have hq0:w0.heap[w.heap.size]?=some (lH t (.slice x n c) (.slice vx vn vc) (.slice lx ln lc)):=by rw[hw0];exact aB _ rfl
 have hck:=zZ t x n c ps vx vn vc vs lx ln lc ls w0 (hs.later hB0);obtain⟨E,hEe⟩:∃E,hZ t ps vn vs ln ls=E:=⟨_,rfl⟩;have hsh:Hid (shE t ps vn vs ln ls=if E=0 then TZ (T0 t ps vs ls)else⟨#[]⟩):=by unfold Hid shE;rw[hEe]
 rw[hEe]at hck hN⊢;clear hEe;obtain⟨s0,s1,s2,s3⟩:=fW hq0 rfl rfl rfl rfl;go_enter Tryz.func4,Tryz.ntmps4;go_upto_region 1 with fail
 rw[<-hw0];clear hw0;go_wp2_with fail;refine hck.mono ?_;rintro _ w1 ⟨rfl,hb1⟩;have hB1:=hB0.trans (hb1.mono hB0.size);clear hck s0 s1 s2 s3;have hq1:=aA hb1 hq0;by_cases hz:E=0
 ·subst hz;rw[if_pos rfl]at hsh;replace hN:=hN rfl;obtain⟨hl0,hlb,hl2⟩:=L3 hs hN;have h8:=hN.n8;have h6:=hN.v6;have h12:=hN.l12;go_upto_region 5 with fail
  obtain⟨w2,hw2⟩:∃w2,w2=w1.alloc (.cells #[.slice none 0 0] 42):=⟨_,rfl⟩;have hb2:Below w1.heap.size w1 w2:=by rw[hw2];exact bl1 w1 _
  have hp2:w2.heap[w1.heap.size]?=some (.cells #[.slice none 0 0] 42):=by rw[hw2];exact aB _ rfl
  rw[<-hw2];clear hw2;have hB2:=hB1.trans (hb2.mono hB1.size);have hq2:=aA hb2 hq1;have hne:w.heap.size≠w1.heap.size:=by have:=(zG hq1);omega
  obtain⟨s0,s1⟩:=aZ hq2 rfl rfl;go_wp2_with fail;refine(O7 w w1.heap.size (.slice none 0 0) [] t x n c ps w2 hB2 ⟨hp2,⟨rfl, .inl ⟨rfl,rfl⟩⟩,hB1.size,fun x hx=>by cases hx⟩ hE (by simp) hs.bk.ps (by omega) hN.tk hN.po).mono ?_;rintro _ w3 ⟨rfl,⟨v3,hP3⟩,hT3⟩;have hq3:=hT3.box _ _ _ hne (by decide) hq2;have hB3:=hB2.trans hT3.below;clear s0 s1 hT3;have s2:=aO hq3 2 rfl;have s3:=aO hq3 3 rfl;go_wp2_with fail;refine(TY w w1.heap.size v3 _ vx vn vc vs lx ln lc ls w3 hB3 hP3 hE (by simp;omega) hs.vps hs.lk (by omega) (by omega) hN.nv hN.lk).mono ?_;rintro _ w4 ⟨rfl,⟨v4,hP4⟩,hT4⟩;have hB4:=hB3.trans hT4.below;clear s2 s3 hT4;rw[List.nil_append]at hP4;go_wp2_with fail;refine(O9 w.heap.size _ v4 _ w4 hP4 hl0 hl2).mono ?_;rintro _ w5 ⟨rfl,hb5⟩;go_wp2;go_ret2;exact⟨by rw[hsh.out];rfl,hB4.trans (hb5.mono hB4.size)⟩
 ·rw[if_neg hz]at hsh;go_wp2;go_ret2;exact⟨by rw[hsh.out];rfl,hB1⟩
theorem PA(sep:List UInt8)(x:List UInt8)(xs:List (List UInt8))(h:xs≠[]):Lib.join (xs++[x]) sep=Lib.join xs sep++sep++x:=by
 cases xs with
 |nil=>exact absurd rfl h
 |cons y ys=>
  rw[List.cons_append,Lib.join_cons,Lib.join_cons]
  simp[Lib.joinTail]
def jwB(ws:List ByteArray):ByteArray:=⟨(Lib.join (ws.map (·.data.toList)) [32]).toArray⟩
theorem AH(s:ByteArray)(l:List UInt8):ByteArray.mk l.toArray++s=ByteArray.mk (l++s.data.toList).toArray:=by
 have:s=ByteArray.mk s.data.toList.toArray:=by simp
 conv=>lhs;rw[this]
 rw[ByteArray.mk_append_mk]
theorem WZ{ws:List ByteArray}(h:k<ws.length):jwB (ws.take (k+1))=(if k=0 then jwB (ws.take k)else jwB (ws.take k)++⟨#[32]⟩)++ws.getD k ⟨#[]⟩:=by
 have e:ws.take (k+1)=ws.take k++[ws.getD k ⟨#[]⟩]:=by
  rw[List.take_add_one,zF,List.getElem?_eq_getElem h];rfl
 rw[e];unfold jwB;split
 ·rename_i hk;subst hk;rw[List.take_zero,List.nil_append,AH];simp[Lib.join_nil,Lib.join_one]
 ·rename_i hk;rw[List.map_append,zK,zM,PA _ _ _ (fun e=>by have h1:=congrArg List.length e;rw[List.length_map,List.length_take,List.length_nil]at h1;omega),AH,AH]
theorem L4{ws:List ByteArray}(hw:TT ws)(k:Nat):(jwB (ws.take k)).size<=21474836490:=by
 have h1:=AF (ws.take k) fun x hx=>hw.2 x (List.mem_of_mem_take hx);have h2:=hw.1;have h3:(jwB (ws.take k)).size=(Lib.join ((ws.take k).map (·.data.toList)) [32]).length:=by simp[jwB,ByteArray.size]
 rw[h3];rw[List.length_take]at h1;have:min k ws.length<=10:=by omega
 omega
theorem gM{ws:List ByteArray}(hw:TT ws):(lnB ws).size<=21474836491:=by
 have h1:=L4 hw ws.length;rw[List.take_length]at h1;have:(lnB ws).size=(jwB ws).size+1:=ByteArray.size_append;omega
theorem CX(g n c:Nat)(ws:List ByteArray)(w:World)(hc:∀(j:Nat) x,ws[j]?=some x->w.cell? ⟨g,0+j,none⟩=some (.string x))(hn:ws.length=n)(hw:TT ws):
  Calls Tryz.prog 17 #[.slice (some ⟨g,0,none⟩) n c] w fun e w'=>e= .returned (.string (lnB ws))/\Below w.heap.size w w':=by
 have hn10:n<=10:=by rw[<-hn];exact hw.1
 have hnl:Hid (ws.length=n):=hn;clear hn;go_enter Tryz.func17,Tryz.ntmps17;go_wp2;go_loopw [3,4] (fun s i wr=>∃k:Nat,i= .int .i64 k/\k<=n/\s= .string (jwB (ws.take k))/\wr=w) (fun _ i _=>n- (intOf i).toNat)
 case atStart=>exact⟨0,rfl,by omega,rfl,rfl⟩
 case round=>
  obtain⟨k,rfl,hk,rfl,rfl⟩:=hrel
  have hz:=L4 hw k
  by_cases hlt:k<n
  ·have hlt':Hid (k<n):=hlt;have hkl:k<ws.length:=by rw[hnl.out];exact hlt
   have hst:Hid (jwB (ws.take (k+1))=(if k=0 then jwB (ws.take k)else jwB (ws.take k)++⟨#[32]⟩)++ws.getD k ⟨#[]⟩):=WZ hkl;have hce:=hc k (ws.getD k ⟨#[]⟩) (by rw[zF,List.getElem?_eq_getElem hkl];rfl);rw[Nat.zero_add]at hce;have hsz:(ws.getD k ⟨#[]⟩).size<=2147483648:=hw.2 _ (bS _ hkl);generalize ws.getD k ⟨#[]⟩=x at*;generalize jwB (ws.take k)=s at*;by_cases h0:k=0
   ·subst h0;rw[if_pos rfl]at hst;go_wp2;go_roundw
    case rel=>exact⟨1,by go_num,hlt'.out,by rw[hst.out],trivial⟩
    case measure=>simp[intOf];have:=hlt'.out;omega
   ·rw[if_neg h0]at hst;have hg:(k:Int)>0:=by omega
    go_wp2;go_roundw
    case rel=>exact⟨k+1,by go_num,hlt'.out,by rw[hst.out],trivial⟩
    case measure=>simp[intOf];have:=hlt'.out;omega
  ·obtain rfl:k=n:=by omega
   have e:ws.take k=ws:=by rw[<-hnl.out,List.take_length]
   rw[e]at hz⊢;have hl:Hid (lnB ws=jwB ws++⟨#[10]⟩):=rfl;generalize jwB ws=s at*;go_wp2;go_ret;exact⟨by rw[hl.out];rfl,zD⟩
def Tx(s:ByteArray)(L:List ByteArray):Prop:=s=TZ L/\∀x∈L,x.size<=21474836491
theorem Tx.size{s:ByteArray}{L:List ByteArray}(h:Tx s L):s.size<=L.length*21474836491:=by
 have h1:=uJ L h.2;rw[h.1];simpa[TZ,ByteArray.size]using h1
theorem Tx.snoc{s:ByteArray}{L ws:List ByteArray}(h:Tx s L)(hw:TT ws):Tx (s++lnB ws) (L++[lnB ws]):=by
 refine⟨?_,fun x hx=>?_⟩
 ·rw[h.1];unfold TZ;rw[AH,List.map_append,List.flatten_append];simp
 ·rcases List.mem_append.1 hx with hx|hx
  ·exact h.2 x hx
  ·obtain rfl:x=lnB ws:=by simpa using hx
   exact gM hw
theorem Tx.nil:Tx ⟨#[]⟩ []:=⟨rfl,fun x hx=>by cases hx⟩
theorem fS{g:Nat}{ws:List ByteArray}(hq:w.heap[g]?=some (.cells (ws.map Value.string).toArray 9))(hw:TT ws)(hn:ws.length=n):
  Calls Tryz.prog 17 #[.slice (some ⟨g,0,none⟩) n c] w fun e w'=>e= .returned (.string (lnB ws))/\Below w.heap.size w w':=
 CX g n c ws w (fun j x hx=>by rw[Nat.zero_add,(aD hq).1 j];simp[hx]) hn hw
theorem aAk{a b c d e:ByteArray}(ha:a.size<=2147483648)(hb:b.size<=2147483648)(hc:c.size<=2147483648)(hd:d.size<=2147483648)(he:e.size<=2147483648):TT [a,b,c,d,e]:=⟨by simp,fun u hu=>by simp at hu;rcases hu with rfl|rfl|rfl|rfl|rfl<;>assumption⟩
theorem Tx.big{s:ByteArray}{L:List ByteArray}(h:Tx s L)(g:L.length<=2000):s.size<=42949672982000:=by
 have:=h.size;omega
theorem ET(t:Int)(x:Option Addr)(n c:Nat)(ps:List Po)(vx:Option Addr)(vn vc:Nat)(vs:List Vn)(lx:Option Addr)(ln lc:Nat)(ls:List (Int×Int))(w:World)(hs:Si w x n c ps vx vn vc vs lx ln ls)(hN:YI w t ps vs ls n vn ln):
  Calls Tryz.prog 6 #[.agg #[.int .i64 t, .slice x n c, .slice vx vn vc, .slice lx ln lc]] w fun e w'=>e= .returned (.string (TZ (T0 t ps vs ls)))/\Below w.heap.size w w':=by
 have h8:=hN.n8;have h6:=hN.v6;have h12:=hN.l12;obtain⟨hl0,hlb,hl2⟩:=L3 hs hN;have hpl:Hid (ps.length=n):=hs.bk.ps.len;have hvl:Hid (vs.length=vn):=hs.vps.len;have hkl:Hid (ls.length=ln):=hs.lk.len;go_enter Tryz.func6,Tryz.ntmps6;go_upto_region 1 with fail
 obtain⟨w0,hw0⟩:∃w0,w0=w.alloc (lH t (.slice x n c) (.slice vx vn vc) (.slice lx ln lc)):=⟨_,rfl⟩;have hB0:Below w.heap.size w w0:=by rw[hw0];exact bl1 w _
 have hq0:w0.heap[w.heap.size]?=some (lH t (.slice x n c) (.slice vx vn vc) (.slice lx ln lc)):=by rw[hw0];exact aB _ rfl
 rw[<-hw0];clear hw0;have s0:=aO hq0 0 rfl;go_wp2_with fail;refine(sR t hN.tk.1 hN.tk.2 _).mono ?_;rintro _ w1 ⟨rfl,hb1⟩;clear s0;have hb2:=hb1.trans ((bl1 w1 (.cells #[.string ⟨#[116,105,99,107]⟩, .string (aQ t)] 9)).mono hb1.size);go_wp2_with fail;refine(fS (ws:=[⟨#[116,105,99,107]⟩,aQ t]) (aB _ rfl) (KJ (by decide) hN.tk.ok) rfl).mono ?_;rintro _ w3 ⟨rfl,hb3⟩;have hB3:=hb2.trans (hb3.mono hb2.size);have hT3:Tx (lnB [⟨#[116,105,99,107]⟩,aQ t]) ([]++[lnB [⟨#[116,105,99,107]⟩,aQ t]]):=by
  have:=Tx.nil.snoc (KJ (x:=⟨#[116,105,99,107]⟩) (by decide) hN.tk.ok);rwa[AH (lnB [⟨#[116,105,99,107]⟩,aQ t]) []]at this
 go_wp2;clear hb1 hb2 hb3;obtain⟨A,hA⟩:∃A,Hid (A=[lnB [⟨#[116,105,99,107]⟩,aQ t]]):=⟨_,rfl⟩;rw[List.nil_append,<-hA.out]at hT3;have hAl:A.length=1:=by rw[hA.out];rfl
 go_loopw [3,4] (fun s i wr=>∃(k:Nat) (S:ByteArray),i= .int .i64 k/\k<=n/\s= .string S/\Tx S (A++(ps.take k).flatMap AG)/\Below w0.heap.size w0 wr) (fun _ i _=>n- (intOf i).toNat)
 case atStart=>exact⟨0,_,rfl,by omega,rfl,by simpa using hT3,hB3⟩
 case round=>
  obtain⟨k,S,rfl,hk,rfl,hTx,hBr⟩:=hrel
  have hBw:=hB0.trans (hBr.mono hB0.size)
  have hqr:=aA hBr hq0
  have s1:=aO hqr 1 rfl
  have hlen:(A++(ps.take k).flatMap AG).length<=600:=by
   have h1:=fR AG (m:=65) (ps.take k) fun p hp=>by
    have h2:=hN.po p (List.mem_of_mem_take hp);have:=h2.ls.len;have:=h2.n;simp[AG];omega
   rw[List.length_take]at h1;rw[List.length_append];omega
  have hSz:=hTx.big (by omega)
  by_cases hlt:k<n
  ·have hlt':Hid (k<n):=hlt;have hkl:k<ps.length:=by rw[hpl.out];exact hlt
   obtain⟨bb,oo,hx,d0,d1,d2,d3,d4,d5,d6,d7,d8⟩:=(hs.bk.ps.later hBw).cells k hlt;have hst:Hid ((ps.take (k+1)).flatMap AG=(ps.take k).flatMap AG++AG (poAt ps k)):=iX AG YX hkl;have hpw:poW w (poAt ps k):=hN.po _ (cZ hkl);rw[hx]at s1⊢;generalize poAt ps k=f at*;go_upto_region 6 with fail
   obtain⟨wo,hwo⟩:∃wo,wo=wr.alloc (oL f):=⟨_,rfl⟩;have hbo:Below wr.heap.size wr wo:=by rw[hwo];exact bl1 wr _
   have hqo:wo.heap[wr.heap.size]?=some (oL f):=by rw[hwo];exact aB _ rfl
   rw[<-hwo];clear hwo d0 d1 d2 d3 d4 d5 d6 d7 d8 s1;have hBo:=hBr.trans (hbo.mono hBr.size);have s0:=Ws.here (aO hqo 0 rfl);have s1:=Ws.here (aO hqo 1 rfl);have s2:=Ws.here (aO hqo 2 rfl);have s3:=Ws.here (aO hqo 3 rfl);have hlz:=gM (aAk (a:=⟨#[112,111,111,108]⟩) (c:=⟨#[117,112]⟩) (by decide) hpw.id.ok (by decide) hpw.up.ok (dP hpw.rt));refine aR [0,1,4,7] [2,5,8] [3,6,9,10,11,12] [13] (by kernel_rfl) (by kernel_rfl) (fun d _ _ _ _ h=>by cases d<;>exact h) ?_;simp only[zK,zM,zI,zJ];repeat(go_big_quiet_step (fail))
   refine wpQuiet_nil ?_;repeat(go_big_quiet_step (fail))
   refine wpQuiet_nil ?_;clear s0 s1 s2 s3;have hBd:Below wo.heap.size wo wo.drew:=(zD).drew;refine aJ fun K hK=>?_;go_wp2_with fail;refine(sR f.id hpw.id.1 hpw.id.2 _).mono ?_;rintro _ y0 ⟨rfl,hb⟩;have hC0:Below wo.heap.size wo y0:=hBd.trans (hb.mono hBd.size);go_wp2_with fail;refine aC (hK.out _ _ hC0 ?_);clear hK K hb hBd;refine aJ fun K hK=>?_;go_wp2_with fail;refine(sR f.up hpw.up.1 hpw.up.2 _).mono ?_;rintro _ y1 ⟨rfl,hb⟩;have hC1:Below wo.heap.size wo y1:=hC0.trans (hb.mono hC0.size);go_wp2_with fail;refine aC (hK.out _ _ hC1 ?_);clear hK K hb hC0;refine aJ fun K hK=>?_;go_wp2_with fail;refine(dF f.a f.l _ hpw.rt).mono ?_;rintro _ y2 ⟨rfl,hb⟩;have hC2:Below wo.heap.size wo y2:=hC1.trans (hb.mono hC1.size);go_wp2_with fail;refine aC (hK.out _ _ hC2 ?_);clear hK K hb hC1;refine aJ fun K hK=>?_;go_wp2_with fail;have hCb:=hC2.trans ((bl1 _ (.cells #[.string ⟨#[112,111,111,108]⟩, .string (aQ f.id), .string ⟨#[117,112]⟩, .string (aQ f.up), .string (lK f.a f.l)] 9)).mono hC2.size);refine aC (hK.out _ _ hCb ?_);clear hK K;refine aJ fun K hK=>?_;go_wp2_with fail;refine(fS (ws:=[⟨#[112,111,111,108]⟩,aQ f.id,⟨#[117,112]⟩,aQ f.up,lK f.a f.l]) (aB _ rfl) (aAk (a:=⟨#[112,111,111,108]⟩) (c:=⟨#[117,112]⟩) (by decide) hpw.id.ok (by decide) hpw.up.ok (dP hpw.rt)) rfl).mono ?_;rintro _ yl ⟨rfl,hb⟩;have hCl:=hCb.trans (hb.mono hCb.size);go_wp2_with fail;refine aC (hK.out _ _ hCl ?_);clear hK K hb hC2 hCb;refine aJ fun K hK=>?_;go_wp2_with fail;refine aC (hK.out _ _ hCl ?_);clear hK K hlz;refine bR ?_;have hBn:=hBo.trans (hCl.mono hBo.size);have hTn:=hTx.snoc (aAk (a:=⟨#[112,111,111,108]⟩) (c:=⟨#[117,112]⟩) (by decide) hpw.id.ok (by decide) hpw.up.ok (dP hpw.rt));have hql:=aA hCl hqo;obtain⟨D,hD⟩:∃D,Hid (D=A++(ps.take k).flatMap AG++[lnB [⟨#[112,111,111,108]⟩,aQ f.id,⟨#[117,112]⟩,aQ f.up,lK f.a f.l]]):=⟨_,rfl⟩;rw[<-hD.out]at hTn;have hDl:D.length<=601:=by rw[hD.out,List.length_append,List.length_cons,List.length_nil];omega
   have hfl:Hid (f.ls.length=f.n):=hpw.ls.len;have hf64:=hpw.n;obtain⟨pb,hpb⟩:∃pb,Hid (pb=wr.heap.size):=⟨_,rfl⟩;rw[<-hpb.out]at hql hqo⊢;go_wp2;go_loopw [3,6] (fun s i wr=>∃(q:Nat) (S:ByteArray),i= .int .i64 q/\q<=f.n/\s= .string S/\Tx S (D++(f.ls.take q).map vU)/\Below w0.heap.size w0 wr/\wr.heap[pb]?=some (oL f)) (fun _ i _=>f.n- (intOf i).toNat)
   case atStart=>exact⟨0,_,rfl,by omega,rfl,by simpa using hTn,hBn,hql⟩
   case round=>
    clear hTx hBr hBw hqr hSz hBo hCl hBn hTn hql hqo hbo
    obtain⟨q,S,rfl,hq,rfl,hTx,hBr,hqr⟩:=hrel
    have hBw:=hB0.trans (hBr.mono hB0.size)
    have c8:=aO hqr 8 rfl
    have hSz:=hTx.big (by rw[List.length_append,List.length_map,List.length_take];omega)
    by_cases hlq:q<f.n
    ·have hlq':Hid (q<f.n):=hlq;have hql:q<f.ls.length:=by rw[hfl.out];exact hlq
     obtain⟨b2,o2,hx2,d0,d1,d2,d3,d4⟩:=(hpw.ls.later hBw).cells q hlq;have hst2:Hid ((f.ls.take (q+1)).map vU=(f.ls.take q).map vU++[vU (leAt f.ls q)]):=eP vU K1 hql;have hle:leW (leAt f.ls q):=hpw.le _ (fH hql);rw[hx2]at c8⊢;generalize leAt f.ls q=e at*;go_upto_region 11 with fail
     obtain⟨wo,hwo⟩:∃wo,wo=wr.alloc (tC e):=⟨_,rfl⟩;have hbo:Below wr.heap.size wr wo:=by rw[hwo];exact bl1 wr _
     have hqo:wo.heap[wr.heap.size]?=some (tC e):=by rw[hwo];exact aB _ rfl
     rw[<-hwo];clear hwo d0 d1 d2 d3 d4 c8;have hBo:=hBr.trans (hbo.mono hBr.size);have hqb:=aA hbo hqr;have c2:=aO hqo 2 rfl;have s0:=Ws.here (aO hqo 0 rfl);have s1:=Ws.here (aO hqo 1 rfl);have s3:=Ws.here (aO hqo 3 rfl);have s4:=Ws.here (aO hqo 4 rfl);by_cases k1:e.kd=1
     ·skip;have hl:Hid (vU e=lnB [⟨#[117,115,101,114]⟩,aQ e.ow,lK e.a e.l]):=by unfold Hid vU;rw[if_pos k1]
      go_upto_region 14 with fail
      have hlz:=gM (iL (x:=⟨#[117,115,101,114]⟩) (by decide) hle.2.1.ok (dP hle.1));refine aR [0,1,4] [2,5] [3,6,7,8,9] [10] (by kernel_rfl) (by kernel_rfl) (fun d _ _ _ _ h=>by cases d<;>exact h) ?_;simp only[zK,zM,zI,zJ];repeat(go_big_quiet_step (fail))
      refine wpQuiet_nil ?_;repeat(go_big_quiet_step (fail))
      refine wpQuiet_nil ?_;clear s0 s1 s3 s4;have hBd:Below wo.heap.size wo wo.drew:=(zD).drew;refine aJ fun K hK=>?_;go_wp2_with fail;refine(sR e.ow hle.2.1.1 hle.2.1.2 _).mono ?_;rintro _ y0 ⟨rfl,hb⟩;have hC0:Below wo.heap.size wo y0:=hBd.trans (hb.mono hBd.size);go_wp2_with fail;refine aC (hK.out _ _ hC0 ?_);clear hK K hb hBd;refine aJ fun K hK=>?_;go_wp2_with fail;refine(dF e.a e.l _ hle.1).mono ?_;rintro _ y1 ⟨rfl,hb⟩;have hC1:Below wo.heap.size wo y1:=hC0.trans (hb.mono hC0.size);go_wp2_with fail;refine aC (hK.out _ _ hC1 ?_);clear hK K hb hC0;refine aJ fun K hK=>?_;go_wp2_with fail;have hCb:=hC1.trans ((bl1 _ (.cells #[.string ⟨#[117,115,101,114]⟩, .string (aQ e.ow), .string (lK e.a e.l)] 9)).mono hC1.size);refine aC (hK.out _ _ hCb ?_);clear hK K;refine aJ fun K hK=>?_;go_wp2_with fail;refine(fS (ws:=[⟨#[117,115,101,114]⟩,aQ e.ow,lK e.a e.l]) (aB _ rfl) (iL (x:=⟨#[117,115,101,114]⟩) (by decide) hle.2.1.ok (dP hle.1)) rfl).mono ?_;rintro _ yl ⟨rfl,hb⟩;have hCl:=hCb.trans (hb.mono hCb.size);go_wp2_with fail;refine aC (hK.out _ _ hCl ?_);clear hK K hb hC1 hCb;refine aJ fun K hK=>?_;go_wp2_with fail;refine aC (hK.out _ _ hCl ?_);clear hK K hlz;refine bR ?_;have hBn:=hBo.trans (hCl.mono hBo.size);have hTn:=hTx.snoc (iL (x:=⟨#[117,115,101,114]⟩) (by decide) hle.2.1.ok (dP hle.1));go_wp2;go_roundw
      case rel=>exact⟨q+1,_,by go_num,hlq'.out,rfl,by rw[hst2.out,hl.out,<-List.append_assoc];exact hTn,hBn,aA hCl hqb⟩
      case measure=>simp[intOf];have:=hlq'.out;omega
     by_cases k2:e.kd=2
     ·skip;have hl:Hid (vU e=lnB [⟨#[110,101,115,116]⟩,aQ e.ow,lK e.a e.l]):=by unfold Hid vU;rw[if_neg k1,if_pos k2]
      go_upto_region 16 with fail
      have hlz:=gM (iL (x:=⟨#[110,101,115,116]⟩) (by decide) hle.2.1.ok (dP hle.1));refine aR [0,1,4] [2,5] [3,6,7,8,9] [10] (by kernel_rfl) (by kernel_rfl) (fun d _ _ _ _ h=>by cases d<;>exact h) ?_;simp only[zK,zM,zI,zJ];repeat(go_big_quiet_step (fail))
      refine wpQuiet_nil ?_;repeat(go_big_quiet_step (fail))
      refine wpQuiet_nil ?_;clear s0 s1 s3 s4;have hBd:Below wo.heap.size wo wo.drew:=(zD).drew;refine aJ fun K hK=>?_;go_wp2_with fail;refine(sR e.ow hle.2.1.1 hle.2.1.2 _).mono ?_;rintro _ y0 ⟨rfl,hb⟩;have hC0:Below wo.heap.size wo y0:=hBd.trans (hb.mono hBd.size);go_wp2_with fail;refine aC (hK.out _ _ hC0 ?_);clear hK K hb hBd;refine aJ fun K hK=>?_;go_wp2_with fail;refine(dF e.a e.l _ hle.1).mono ?_;rintro _ y1 ⟨rfl,hb⟩;have hC1:Below wo.heap.size wo y1:=hC0.trans (hb.mono hC0.size);go_wp2_with fail;refine aC (hK.out _ _ hC1 ?_);clear hK K hb hC0;refine aJ fun K hK=>?_;go_wp2_with fail;have hCb:=hC1.trans ((bl1 _ (.cells #[.string ⟨#[110,101,115,116]⟩, .string (aQ e.ow), .string (lK e.a e.l)] 9)).mono hC1.size);refine aC (hK.out _ _ hCb ?_);clear hK K;refine aJ fun K hK=>?_;go_wp2_with fail;refine(fS (ws:=[⟨#[110,101,115,116]⟩,aQ e.ow,lK e.a e.l]) (aB _ rfl) (iL (x:=⟨#[110,101,115,116]⟩) (by decide) hle.2.1.ok (dP hle.1)) rfl).mono ?_;rintro _ yl ⟨rfl,hb⟩;have hCl:=hCb.trans (hb.mono hCb.size);go_wp2_with fail;refine aC (hK.out _ _ hCl ?_);clear hK K hb hC1 hCb;refine aJ fun K hK=>?_;go_wp2_with fail;refine aC (hK.out _ _ hCl ?_);clear hK K hlz;refine bR ?_;have hBn:=hBo.trans (hCl.mono hBo.size);have hTn:=hTx.snoc (iL (x:=⟨#[110,101,115,116]⟩) (by decide) hle.2.1.ok (dP hle.1));go_wp2;go_roundw
      case rel=>exact⟨q+1,_,by go_num,hlq'.out,rfl,by rw[hst2.out,hl.out,<-List.append_assoc];exact hTn,hBn,aA hCl hqb⟩
      case measure=>simp[intOf];have:=hlq'.out;omega
     ·skip;have hl:Hid (vU e=lnB [⟨#[99,111,111,108]⟩,aQ e.un,lK e.a e.l]):=by unfold Hid vU;rw[if_neg k1,if_neg k2]
      go_upto_region 12 with fail
      have hlz:=gM (iL (x:=⟨#[99,111,111,108]⟩) (by decide) hle.2.2.ok (dP hle.1));refine aR [0,1,4] [2,5] [3,6,7,8,9] [10] (by kernel_rfl) (by kernel_rfl) (fun d _ _ _ _ h=>by cases d<;>exact h) ?_;simp only[zK,zM,zI,zJ];repeat(go_big_quiet_step (fail))
      refine wpQuiet_nil ?_;repeat(go_big_quiet_step (fail))
      refine wpQuiet_nil ?_;clear s0 s1 s3 s4;have hBd:Below wo.heap.size wo wo.drew:=(zD).drew;refine aJ fun K hK=>?_;go_wp2_with fail;refine(sR e.un hle.2.2.1 hle.2.2.2 _).mono ?_;rintro _ y0 ⟨rfl,hb⟩;have hC0:Below wo.heap.size wo y0:=hBd.trans (hb.mono hBd.size);go_wp2_with fail;refine aC (hK.out _ _ hC0 ?_);clear hK K hb hBd;refine aJ fun K hK=>?_;go_wp2_with fail;refine(dF e.a e.l _ hle.1).mono ?_;rintro _ y1 ⟨rfl,hb⟩;have hC1:Below wo.heap.size wo y1:=hC0.trans (hb.mono hC0.size);go_wp2_with fail;refine aC (hK.out _ _ hC1 ?_);clear hK K hb hC0;refine aJ fun K hK=>?_;go_wp2_with fail;have hCb:=hC1.trans ((bl1 _ (.cells #[.string ⟨#[99,111,111,108]⟩, .string (aQ e.un), .string (lK e.a e.l)] 9)).mono hC1.size);refine aC (hK.out _ _ hCb ?_);clear hK K;refine aJ fun K hK=>?_;go_wp2_with fail;refine(fS (ws:=[⟨#[99,111,111,108]⟩,aQ e.un,lK e.a e.l]) (aB _ rfl) (iL (x:=⟨#[99,111,111,108]⟩) (by decide) hle.2.2.ok (dP hle.1)) rfl).mono ?_;rintro _ yl ⟨rfl,hb⟩;have hCl:=hCb.trans (hb.mono hCb.size);go_wp2_with fail;refine aC (hK.out _ _ hCl ?_);clear hK K hb hC1 hCb;refine aJ fun K hK=>?_;go_wp2_with fail;refine aC (hK.out _ _ hCl ?_);clear hK K hlz;refine bR ?_;have hBn:=hBo.trans (hCl.mono hBo.size);have hTn:=hTx.snoc (iL (x:=⟨#[99,111,111,108]⟩) (by decide) hle.2.2.ok (dP hle.1));go_wp2;go_roundw
      case rel=>exact⟨q+1,_,by go_num,hlq'.out,rfl,by rw[hst2.out,hl.out,<-List.append_assoc];exact hTn,hBn,aA hCl hqb⟩
      case measure=>simp[intOf];have:=hlq'.out;omega
    ·obtain rfl:q=f.n:=by omega
     have e:f.ls.take f.n=f.ls:=by rw[<-hfl.out,List.take_length]
     rw[e,hD.out,List.append_assoc]at hTx;go_wp2;go_roundw
     case rel=>exact⟨k+1,S,by go_num,hlt'.out,rfl,by rw[hst.out,<-List.append_assoc];exact hTx,hBr⟩
     case measure=>simp[intOf];have:=hlt'.out;omega
  ·obtain rfl:k=n:=by omega
   have e:ps.take k=ps:=by rw[<-hpl.out,List.take_length]
   rw[e]at hTx hlen;clear e;obtain⟨D,hD⟩:∃D,Hid (D=A++ps.flatMap AG):=⟨_,rfl⟩;rw[<-hD.out]at hTx hlen;go_wp2;clear s1 hSz hBw hqr;go_loopw [3,8] (fun s i wr=>∃(m:Nat) (S:ByteArray),i= .int .i64 m/\m<=vn/\s= .string S/\Tx S (D++(vs.take m).flatMap qP)/\Below w0.heap.size w0 wr) (fun _ i _=>vn- (intOf i).toNat)
   case atStart=>exact⟨0,_,rfl,by omega,rfl,by simpa using hTx,hBr⟩
   case round=>
    clear hTx hBr
    obtain⟨m,S,rfl,hm,rfl,hTx,hBr⟩:=hrel
    have hBw:=hB0.trans (hBr.mono hB0.size)
    have hqr:=aA hBr hq0
    have s2:=aO hqr 2 rfl
    have hlen2:(D++(vs.take m).flatMap qP).length<=1300:=by
     have h1:=fR qP (m:=100) (vs.take m) fun z hz=>by
      obtain⟨i,hi,rfl⟩:=List.getElem_of_mem (List.mem_of_mem_take hz);have h2:=(hs.vps.vps i (by rw[<-hvl.out];exact hi)).2.2.2;unfold vnAt at h2;rw[zF,List.getElem?_eq_getElem hi]at h2;exact wZ h2 (hN.nv _ (List.getElem_mem hi))
     rw[List.length_take]at h1;rw[List.length_append];omega
    have hSz:=hTx.big (by omega)
    by_cases hlm:m<vn
    ·have hlm':Hid (m<vn):=hlm;have hml:m<vs.length:=by rw[hvl.out];exact hlm
     obtain⟨bb,oo,hx,d0,d1,d2⟩:=(hs.vps.later hBw).cells m hlm;have hst:Hid ((vs.take (m+1)).flatMap qP=(vs.take m).flatMap qP++qP (vnAt vs m)):=iX qP UM hml;have hvp:=(hs.vps.vps m hlm).2.2.2;have hvn:vnN (vnAt vs m):=hN.nv _ (bS UM hml);rw[hx]at s2⊢;generalize vnAt vs m=z at*;go_upto_region 21 with fail
     obtain⟨wo,hwo⟩:∃wo,wo=wr.alloc (D8 z):=⟨_,rfl⟩;have hbo:Below wr.heap.size wr wo:=by rw[hwo];exact bl1 wr _
     have hqo:wo.heap[wr.heap.size]?=some (D8 z):=by rw[hwo];exact aB _ rfl
     rw[<-hwo];clear hwo d0 d1 d2 s2;have hBo:=hBr.trans (hbo.mono hBr.size);have c0:=aO hqo 0 rfl;have hlz:=gM (KJ (x:=⟨#[110,101,116]⟩) (by decide) hvn.1.ok);go_wp2_with fail;refine(sR z.id hvn.1.1 hvn.1.2 _).mono ?_;rintro _ y0 ⟨rfl,hb⟩;have hC:=hb.trans ((bl1 y0 (.cells #[.string ⟨#[110,101,116]⟩, .string (aQ z.id)] 9)).mono hb.size);go_wp2_with fail;refine(fS (ws:=[⟨#[110,101,116]⟩,aQ z.id]) (aB _ rfl) (KJ (by decide) hvn.1.ok) rfl).mono ?_;rintro _ yl ⟨rfl,hb2⟩;have hCl:=hC.trans (hb2.mono hC.size);have hBn:=hBo.trans (hCl.mono hBo.size);have hql:=aA hCl hqo;have hTn:=hTx.snoc (KJ (x:=⟨#[110,101,116]⟩) (by decide) hvn.1.ok);obtain⟨D2,hD2⟩:∃D2,Hid (D2=D++(vs.take m).flatMap qP++[lnB [⟨#[110,101,116]⟩,aQ z.id]]):=⟨_,rfl⟩;rw[<-hD2.out]at hTn;have hD2l:D2.length<=1301:=by rw[hD2.out,List.length_append,List.length_cons,List.length_nil];omega
     obtain⟨vb,hvb⟩:∃vb,Hid (vb=wr.heap.size):=⟨_,rfl⟩;rw[<-hvb.out]at hql hqo c0⊢;go_wp2;clear c0 hlz hb hb2 hC hCl hBo hqo hbo hTx hBr hBw hqr hSz;have hrl:Hid (z.rs.length=z.rn):=hvp.ranges.len;have hsl:Hid (z.ss.length=z.sn):=hvp.subs.len;have hr4:=hvn.2.1;have hs6:=hvn.2.2.1;go_loopw [3,10] (fun s i wr=>∃(q:Nat) (S:ByteArray),i= .int .i64 q/\q<=z.rn/\s= .string S/\Tx S (D2++(z.rs.take q).map KK)/\Below w0.heap.size w0 wr/\wr.heap[vb]?=some (D8 z)) (fun _ i _=>z.rn- (intOf i).toNat)
     case atStart=>exact⟨0,_,rfl,by omega,rfl,by simpa using hTn,hBn,hql⟩
     case round=>
      clear hBn hTn hql
      obtain⟨q,S,rfl,hq,rfl,hTx,hBr,hqr⟩:=hrel
      have hBw:=hB0.trans (hBr.mono hB0.size)
      have c1:=aO hqr 1 rfl
      have hSz:=hTx.big (by rw[List.length_append,List.length_map,List.length_take];omega)
      by_cases hlq:q<z.rn
      ·have hlq':Hid (q<z.rn):=hlq;have hql:q<z.rs.length:=by rw[hrl.out];exact hlq
       obtain⟨b2,o2,hx2,d0,d1,d2⟩:=(hvp.ranges.later hBw).cells q hlq;have hst2:Hid ((z.rs.take (q+1)).map KK=(z.rs.take q).map KK++[KK (rgAt z.rs q)]):=eP KK QD hql;have hrg:rgN (rgAt z.rs q):=hvn.2.2.2.1 _ (bS QD hql);rw[hx2]at c1;clear hx2;generalize rgAt z.rs q=e at*;go_upto_region 25 with fail
       have t1:=Ws.here c1;have t2:=Ws.here d0;have t3:=Ws.here d1;have t4:=Ws.here d2;clear d0 d1 d2;have hlz:=gM (iL (x:=⟨#[114,97,110,103,101]⟩) (by decide) (dP hrg.1) hrg.2.ok);refine aR [0,1,3,8,10] [2,4,5,6,9,11,12,13] [7,14,15,16,17] [18] (by kernel_rfl) (by kernel_rfl) (fun d _ _ _ _ h=>by cases d<;>exact h) ?_;simp only[zK,zM,zI,zJ];repeat(go_big_quiet_step (fail))
       refine wpQuiet_nil ?_;repeat(go_big_quiet_step (fail))
       refine wpQuiet_nil ?_;clear t1 t2 t3 t4;have hBd:Below wr.heap.size wr wr.drew:=(zD).drew;refine aJ fun K hK=>?_;go_wp2_with fail;refine(dF e.a e.l _ hrg.1).mono ?_;rintro _ y0 ⟨rfl,hb⟩;have hC0:Below wr.heap.size wr y0:=hBd.trans (hb.mono hBd.size);go_wp2_with fail;refine aC (hK.out _ _ hC0 ?_);clear hK K hb hBd;refine aJ fun K hK=>?_;go_wp2_with fail;refine(sR e.p hrg.2.1 hrg.2.2 _).mono ?_;rintro _ y1 ⟨rfl,hb⟩;have hC1:Below wr.heap.size wr y1:=hC0.trans (hb.mono hC0.size);go_wp2_with fail;refine aC (hK.out _ _ hC1 ?_);clear hK K hb hC0;refine aJ fun K hK=>?_;go_wp2_with fail;have hCb:=hC1.trans ((bl1 _ (.cells #[.string ⟨#[114,97,110,103,101]⟩, .string (lK e.a e.l), .string (aQ e.p)] 9)).mono hC1.size);refine aC (hK.out _ _ hCb ?_);clear hK K;refine aJ fun K hK=>?_;go_wp2_with fail;refine(fS (ws:=[⟨#[114,97,110,103,101]⟩,lK e.a e.l,aQ e.p]) (aB _ rfl) (iL (x:=⟨#[114,97,110,103,101]⟩) (by decide) (dP hrg.1) hrg.2.ok) rfl).mono ?_;rintro _ yl ⟨rfl,hb⟩;have hCl:=hCb.trans (hb.mono hCb.size);go_wp2_with fail;refine aC (hK.out _ _ hCl ?_);clear hK K hb hC1 hCb;refine aJ fun K hK=>?_;go_wp2_with fail;refine aC (hK.out _ _ hCl ?_);clear hK K hlz;refine bR ?_;have hBn:=hBr.trans (hCl.mono hBr.size);have hTn:=hTx.snoc (iL (x:=⟨#[114,97,110,103,101]⟩) (by decide) (dP hrg.1) hrg.2.ok);go_wp2;go_roundw
       case rel=>exact⟨q+1,_,by go_num,hlq'.out,rfl,by rw[hst2.out,<-List.append_assoc];exact hTn,hBn,aA hCl hqr⟩
       case measure=>simp[intOf];have:=hlq'.out;omega
      ·obtain rfl:q=z.rn:=by omega
       have e:z.rs.take z.rn=z.rs:=by rw[<-hrl.out,List.take_length]
       rw[e]at hTx;clear e;obtain⟨D3,hD3⟩:∃D3,Hid (D3=D2++z.rs.map KK):=⟨_,rfl⟩;rw[<-hD3.out]at hTx;have hD3l:D3.length<=1305:=by rw[hD3.out,List.length_append,List.length_map,hrl.out];omega
       go_wp2;clear c1 hSz hBw;go_loopw [3,11] (fun s i wr=>∃(q:Nat) (S:ByteArray),i= .int .i64 q/\q<=z.sn/\s= .string S/\Tx S (D3++(z.ss.take q).flatMap wY)/\Below w0.heap.size w0 wr/\wr.heap[vb]?=some (D8 z)) (fun _ i _=>z.sn- (intOf i).toNat)
       case atStart=>exact⟨0,_,rfl,by omega,rfl,by simpa using hTx,hBr,hqr⟩
       case round=>
        clear hTx hBr hqr
        obtain⟨q,S,rfl,hq,rfl,hTx,hBr,hqr⟩:=hrel
        have hBw:=hB0.trans (hBr.mono hB0.size)
        have c1:=aO hqr 2 rfl
        have hlen3:(D3++(z.ss.take q).flatMap wY).length<=1400:=by
         have h1:=fR wY (m:=9) (z.ss.take q) fun s hs=>ES (KL hvp.subs s (List.mem_of_mem_take hs)) (hvn.2.2.2.2 s (List.mem_of_mem_take hs));rw[List.length_take]at h1;rw[List.length_append];omega
        have hSz:=hTx.big (by omega)
        by_cases hlq:q<z.sn
        ·have hlq':Hid (q<z.sn):=hlq;have hql:q<z.ss.length:=by rw[hsl.out];exact hlq
         obtain⟨b2,o2,hx2,d0,d1,d2,d3⟩:=(hvp.subs.later hBw).cells q hlq;have hfc:=(hvp.subs.faces q hlq).2.2;have hst2:Hid ((z.ss.take (q+1)).flatMap wY=(z.ss.take q).flatMap wY++wY (aG z.ss q)):=iX wY U2 hql;have hsn:sbN (aG z.ss q):=hvn.2.2.2.2 _ (bS U2 hql);have hmem:Hid (∀W,Below w0.heap.size w0 W->W.cell? ⟨b2,o2+q*4+3,none⟩=some (.slice (aG z.ss q).x (aG z.ss q).n (aG z.ss q).c)):=fun W hW=>by
          obtain⟨b3,o3,hx3, -, -, -,h3⟩:=(hvp.subs.later (hB0.trans (hW.mono hB0.size))).cells q hlq;rw[hx2]at hx3
          cases hx3;exact h3
         rw[hx2]at c1;have hxh:Hid (z.sx=some ⟨b2,o2,none⟩):=hx2;clear hx2;generalize aG z.ss q=e at*;go_upto_region 29 with fail
         have t1:=Ws.here c1;have t2:=Ws.here d0;have t3:=Ws.here d1;have t4:=Ws.here d2;clear d0 d1 d2 d3;have hlz:=gM (iL (x:=⟨#[115,117,98]⟩) (by decide) hsn.1.ok (dP hsn.2.1));refine aR [0,1,3,8,10] [2,4,5,6,9,11,12,13] [7,14,15,16,17] [18] (by kernel_rfl) (by kernel_rfl) (fun d _ _ _ _ h=>by cases d<;>exact h) ?_;simp only[zK,zM,zI,zJ];repeat(go_big_quiet_step (fail))
         refine wpQuiet_nil ?_;repeat(go_big_quiet_step (fail))
         refine wpQuiet_nil ?_;clear t1 t2 t3 t4;have hBd:Below wr.heap.size wr wr.drew:=(zD).drew;refine aJ fun K hK=>?_;go_wp2_with fail;refine(sR e.id hsn.1.1 hsn.1.2 _).mono ?_;rintro _ y0 ⟨rfl,hb⟩;have hC0:Below wr.heap.size wr y0:=hBd.trans (hb.mono hBd.size);go_wp2_with fail;refine aC (hK.out _ _ hC0 ?_);clear hK K hb hBd;refine aJ fun K hK=>?_;go_wp2_with fail;refine(dF e.a e.l _ hsn.2.1).mono ?_;rintro _ y1 ⟨rfl,hb⟩;have hC1:Below wr.heap.size wr y1:=hC0.trans (hb.mono hC0.size);go_wp2_with fail;refine aC (hK.out _ _ hC1 ?_);clear hK K hb hC0;refine aJ fun K hK=>?_;go_wp2_with fail;have hCb:=hC1.trans ((bl1 _ (.cells #[.string ⟨#[115,117,98]⟩, .string (aQ e.id), .string (lK e.a e.l)] 9)).mono hC1.size);refine aC (hK.out _ _ hCb ?_);clear hK K;refine aJ fun K hK=>?_;go_wp2_with fail;refine(fS (ws:=[⟨#[115,117,98]⟩,aQ e.id,lK e.a e.l]) (aB _ rfl) (iL (x:=⟨#[115,117,98]⟩) (by decide) hsn.1.ok (dP hsn.2.1)) rfl).mono ?_;rintro _ yl ⟨rfl,hb⟩;have hCl:=hCb.trans (hb.mono hCb.size);go_wp2_with fail;refine aC (hK.out _ _ hCl ?_);clear hK K hb hC1 hCb;refine aJ fun K hK=>?_;go_wp2_with fail;refine aC (hK.out _ _ hCl ?_);clear hK K hlz;refine bR ?_;have hBn:=hBr.trans (hCl.mono hBr.size);have hTn:=hTx.snoc (iL (x:=⟨#[115,117,98]⟩) (by decide) hsn.1.ok (dP hsn.2.1));obtain⟨D4,hD4⟩:∃D4,Hid (D4=D3++(z.ss.take q).flatMap wY++[lnB [⟨#[115,117,98]⟩,aQ e.id,lK e.a e.l]]):=⟨_,rfl⟩;rw[<-hD4.out]at hTn;have hD4l:D4.length<=1401:=by rw[hD4.out,List.length_append,List.length_cons,List.length_nil];omega
         have hql2:=aA hCl hqr;go_wp2;clear hCl hTx hBr hBw hSz c1 hqr;have hfl:Hid (e.fs.length=e.n):=hfc.len;have hf8:=hsn.2.2.1;go_loopw [3,12] (fun s i wr=>∃(r:Nat) (S:ByteArray),i= .int .i64 r/\r<=e.n/\s= .string S/\Tx S (D4++(e.fs.take r).map IG)/\Below w0.heap.size w0 wr/\wr.heap[vb]?=some (D8 z)) (fun _ i _=>e.n- (intOf i).toNat)
         case atStart=>exact⟨0,_,rfl,by omega,rfl,by simpa using hTn,hBn,hql2⟩
         case round=>
          clear hTn hBn hql2
          obtain⟨r,S,rfl,hr,rfl,hTx,hBr,hqr⟩:=hrel
          have hBw:=hB0.trans (hBr.mono hB0.size)
          have c1:=aO hqr 2 rfl
          have d3:=hmem.out wr hBr
          have hSz:=hTx.big (by rw[List.length_append,List.length_map,List.length_take];omega)
          rw[hxh.out]at c1
          by_cases hlr:r<e.n
          ·have hlr':Hid (r<e.n):=hlr;have hrl:r<e.fs.length:=by rw[hfl.out];exact hlr
           obtain⟨b3,o3,hx3,f0,f1⟩:=(hfc.later hBw).cells r hlr;have hst3:Hid ((e.fs.take (r+1)).map IG=(e.fs.take r).map IG++[IG (fcAt e.fs r)]):=eP IG U1 hrl;have hfn:fcN (fcAt e.fs r):=hsn.2.2.2 _ (bS U1 hrl);have hns:=(hfc.addrs r hlr).2.2;rw[hx3]at d3;clear hx3;generalize fcAt e.fs r=y at*;have hnl:Hid (y.ns.length=y.n):=hns.len;have hn4:=hfn.2.1;go_upto_region 34 with fail
           obtain⟨wf,hwf⟩:∃wf,wf=wr.alloc (fcO y):=⟨_,rfl⟩;have hbf:Below wr.heap.size wr wf:=by rw[hwf];exact bl1 wr _
           have hqf:wf.heap[wr.heap.size]?=some (fcO y):=by rw[hwf];exact aB _ rfl
           rw[<-hwf];clear hwf f0 f1 d3 c1;have hBf:=hBr.trans (hbf.mono hBr.size);have hqv:=aA hbf hqr;have c0:=aO hqf 0 rfl;go_wp2_with fail;refine(sR y.id hfn.1.1 hfn.1.2 _).mono ?_;rintro _ w4 ⟨rfl,hb4⟩;have hB4:Below wf.heap.size wf (w4.alloc (.cells #[.string ⟨#[102,97,99,101]⟩, .string (aQ y.id)] 9)):=hb4.trans ((bl1 _ _).mono hb4.size);have hO4:(w4.alloc (.cells #[.string ⟨#[102,97,99,101]⟩, .string (aQ y.id)] 9)).ownsRow wf.heap.size 9 1 (.slice (some ⟨w4.heap.size,0,none⟩) 2 2) 2 [.string ⟨#[102,97,99,101]⟩, .string (aQ y.id)]:=
            ⟨rfl, .inr ⟨w4.heap.size,2,#[.string ⟨#[102,97,99,101]⟩, .string (aQ y.id)],rfl,hb4.size,aB _ rfl,by omega,by unfold maxLen;omega,rfl,rfl⟩⟩
           obtain⟨fb,hfb⟩:∃fb,Hid (fb=wr.heap.size):=⟨_,rfl⟩;rw[<-hfb.out]at hqf c0⊢;go_wp2;clear c0 hbf;go_loopw [14,15] (fun ws i wr=>∃a:Nat,i= .int .i64 a/\a<=y.n/\wr.ownsRow wf.heap.size 9 1 ws (2+a) ((⟨#[102,97,99,101]⟩::aQ y.id::(y.ns.take a).map aQ).map Value.string)/\Below wf.heap.size wf wr) (fun _ i _=>y.n- (intOf i).toNat)
           case atStart=>exact⟨0,rfl,by omega,by simpa using hO4,hB4⟩
           case round=>
            obtain⟨a,rfl,ha,hO,hBa⟩:=hrel
            have huw:=hB0.trans ((hBf.trans (hBa.mono hBf.size)).mono hB0.size)
            have c1:wr.cell? ⟨fb,1,none⟩=some (.slice y.x y.n y.c):=(aD (aA hBa hqf)).1 1
            by_cases hla:a<y.n
            ·have hla':Hid (a<y.n):=hla;obtain⟨b5,o5,hx5,g0⟩:=(hns.later huw).cells a hla;have ha2:Hid ((y.ns.take (a+1)).map aQ=(y.ns.take a).map aQ++[aQ (aU y.ns a)]):=eP aQ 0 (by rw[hnl.out];exact hla);have hnu:num (aU y.ns a):=hfn.2.2 _ (bS 0 (by rw[hnl.out];exact hla));rw[hx5]at c1;clear hx5;generalize aU y.ns a=j at*;go_wp2_with fail;refine(sR j hnu.1 hnu.2 _).mono ?_;rintro _ w5 ⟨rfl,hb5⟩;go_wp2_with (at_builtin;refine Hid.out ?_);unfold Hid;have hb6:Below w5.heap.size w5 (w5.alloc (.cells #[.string (aQ j)] 9)):=bl1 _ _;have hB6:=(hBa.trans (hb5.mono hBa.size)).trans (hb6.mono (Nat.le_trans hBa.size hb5.size));refine cM aAh rfl _ _ rfl wf.heap.size _ rfl (cW (cW hO hb5) hb6) ⟨w5.heap.size,0,none⟩ 1 1 rfl (rw1 (aB _ rfl)) (by omega) hB6.size fun v' w' hO' hg=>?_;have hB7:=dH hB6 hg (ER (cW (cW hO hb5) hb6));go_wp2;go_roundw
             case rel=>exact⟨a+1,by go_num,hla'.out,by rw[ha2.out,<-Nat.add_assoc];simpa using hO',hB7⟩
             case measure=>simp[intOf];have:=hla'.out;omega
            ·obtain rfl:a=y.n:=by omega
             have et:y.ns.take y.n=y.ns:=by rw[<-hnl.out,List.take_length]
             rw[et]at hO;clear et;have hwk:TT (⟨#[102,97,99,101]⟩::aQ y.id::y.ns.map aQ):=⟨by simp[hnl.out];omega,fun x hx=>by
              simp only[List.mem_cons,List.mem_map]at hx;rcases hx with rfl|rfl|⟨i,hi,rfl⟩
              ·decide
              ·exact hfn.1.ok
              ·exact(hfn.2.2 i hi).ok⟩
             have hlz:=gM hwk;have hTn:=hTx.snoc hwk;rcases hO.2 with ⟨-,hv⟩|⟨g,cap,cur,rfl,h3,h4,h5,h6,h7,h9⟩
             ·omega
             have hrr:=(DI hO (fun u hu=>by simp only[List.mem_map]at hu;obtain⟨y, -,rfl⟩:=hu;rfl)).2.2.2 _ rfl;have hfl2:Hid (IG y=lnB (⟨#[102,97,99,101]⟩::aQ y.id::y.ns.map aQ)):=rfl;have hlr2:=CX g (2+y.n) cap (⟨#[102,97,99,101]⟩::aQ y.id::y.ns.map aQ) wr (fun j x hx=>by have:=hrr j (.string x) (by rw[List.getElem?_map,hx];rfl);rwa[cA]at this) (by simp[hnl.out];omega) hwk;generalize lnB (⟨#[102,97,99,101]⟩::aQ y.id::y.ns.map aQ)=Z at*;go_wp2_with fail;refine hlr2.mono ?_;rintro _ w6 ⟨rfl,hb6⟩;have hB6:=hBf.trans ((hBa.trans (hb6.mono hBa.size)).mono hBf.size);go_wp2;go_roundw
             case rel=>exact⟨r+1,_,by go_num,hlr'.out,rfl,by rw[hst3.out,hfl2.out,<-List.append_assoc];exact hTn,hB6,aA (hBa.trans (hb6.mono hBa.size)) hqv⟩
             case measure=>simp[intOf];have:=hlr'.out;omega
          ·obtain rfl:r=e.n:=by omega
           have et:e.fs.take e.n=e.fs:=by rw[<-hfl.out,List.take_length]
           rw[et,hD4.out,List.append_assoc]at hTx;go_wp2;go_roundw
           case rel=>exact⟨q+1,S,by go_num,hlq'.out,rfl,by rw[hst2.out,<-List.append_assoc];exact hTx,hBr,hqr⟩
           case measure=>simp[intOf];have:=hlq'.out;omega
        ·obtain rfl:q=z.sn:=by omega
         have et:z.ss.take z.sn=z.ss:=by rw[<-hsl.out,List.take_length]
         rw[et,hD3.out,hD2.out]at hTx;go_wp2;go_roundw
         case rel=>exact⟨m+1,S,by go_num,hlm'.out,rfl,by rw[hst.out];simpa[qP]using hTx,hBr⟩
         case measure=>simp[intOf];have:=hlm'.out;omega
    ·obtain rfl:m=vn:=by omega
     have et:vs.take m=vs:=by rw[<-hvl.out,List.take_length]
     rw[et]at hTx hlen2;clear et;obtain⟨D5,hD5⟩:∃D5,Hid (D5=D++vs.flatMap qP):=⟨_,rfl⟩;rw[<-hD5.out]at hTx hlen2;go_wp2;clear s2 hSz hBw hqr;go_loopw [3,16] (fun s i wr=>∃(q:Nat) (S:ByteArray),i= .int .i64 q/\q<=ln/\s= .string S/\Tx S (D5++(ls.take q).map O8)/\Below w0.heap.size w0 wr) (fun _ i _=>ln- (intOf i).toNat)
     case atStart=>exact⟨0,_,rfl,by omega,rfl,by simpa using hTx,hBr⟩
     case round=>
      clear hTx hBr
      obtain⟨q,S,rfl,hq,rfl,hTx,hBr⟩:=hrel
      have hBw:=hB0.trans (hBr.mono hB0.size)
      have hqr:=aA hBr hq0
      have s3:=aO hqr 3 rfl
      have hSz:=hTx.big (by rw[List.length_append,List.length_map,List.length_take];omega)
      by_cases hlq:q<ln
      ·have hlq':Hid (q<ln):=hlq;have hql:q<ls.length:=by rw[hkl.out];exact hlq
       obtain⟨b2,o2,hx2,d0,d1⟩:=(hs.lk.later hBw).cells q hlq;replace d0:wr.cell? ⟨b2,o2+q*2,none⟩=some (.int .i64 (pQ ls q).1):=d0;replace d1:wr.cell? ⟨b2,o2+q*2+1,none⟩=some (.int .i64 (pQ ls q).2):=d1;have hst2:Hid ((ls.take (q+1)).map O8=(ls.take q).map O8++[O8 (pQ ls q)]):=eP O8 (0,0) hql;have hlk:=hN.lk (pQ ls q) (bS (0,0) hql);rw[hx2]at s3;clear hx2;generalize pQ ls q=e at*;go_upto_region 43 with fail
       have t1:=Ws.here s3;have t2:=Ws.here d0;have t3:=Ws.here d1;clear d0 d1;have hlz:=gM (iL (x:=⟨#[108,105,110,107]⟩) (by decide) hlk.1.ok hlk.2.ok);refine aR [0,1,2,4,9,10,12] [3,5,6,7,11,13,14,15] [8,16,17,18,19] [20] (by kernel_rfl) (by kernel_rfl) (fun d _ _ _ _ h=>by cases d<;>exact h) ?_;simp only[zK,zM,zI,zJ];repeat(go_big_quiet_step (fail))
       refine wpQuiet_nil ?_;repeat(go_big_quiet_step (fail))
       refine wpQuiet_nil ?_;clear t1 t2 t3;have hBd:Below wr.heap.size wr wr.drew:=(zD).drew;refine aJ fun K hK=>?_;go_wp2_with fail;refine(sR e.1 hlk.1.1 hlk.1.2 _).mono ?_;rintro _ y0 ⟨rfl,hb⟩;have hC0:Below wr.heap.size wr y0:=hBd.trans (hb.mono hBd.size);go_wp2_with fail;refine aC (hK.out _ _ hC0 ?_);clear hK K hb hBd;refine aJ fun K hK=>?_;go_wp2_with fail;refine(sR e.2 hlk.2.1 hlk.2.2 _).mono ?_;rintro _ y1 ⟨rfl,hb⟩;have hC1:Below wr.heap.size wr y1:=hC0.trans (hb.mono hC0.size);go_wp2_with fail;refine aC (hK.out _ _ hC1 ?_);clear hK K hb hC0;refine aJ fun K hK=>?_;go_wp2_with fail;have hCb:=hC1.trans ((bl1 _ (.cells #[.string ⟨#[108,105,110,107]⟩, .string (aQ e.1), .string (aQ e.2)] 9)).mono hC1.size);refine aC (hK.out _ _ hCb ?_);clear hK K;refine aJ fun K hK=>?_;go_wp2_with fail;refine(fS (ws:=[⟨#[108,105,110,107]⟩,aQ e.1,aQ e.2]) (aB _ rfl) (iL (x:=⟨#[108,105,110,107]⟩) (by decide) hlk.1.ok hlk.2.ok) rfl).mono ?_;rintro _ yl ⟨rfl,hb⟩;have hCl:=hCb.trans (hb.mono hCb.size);go_wp2_with fail;refine aC (hK.out _ _ hCl ?_);clear hK K hb hC1 hCb;refine aJ fun K hK=>?_;go_wp2_with fail;refine aC (hK.out _ _ hCl ?_);clear hK K hlz;refine bR ?_;have hBn:=hBr.trans (hCl.mono hBr.size);have hTn:=hTx.snoc (iL (x:=⟨#[108,105,110,107]⟩) (by decide) hlk.1.ok hlk.2.ok);go_wp2;go_roundw
       case rel=>exact⟨q+1,_,by go_num,hlq'.out,rfl,by rw[hst2.out,<-List.append_assoc];exact hTn,hBn⟩
       case measure=>simp[intOf];have:=hlq'.out;omega
      ·obtain rfl:q=ln:=by omega
       have et:ls.take q=ls:=by rw[<-hkl.out,List.take_length]
       rw[et,hD5.out,hD.out,hA.out]at hTx;go_wp2;go_ret;exact⟨EQ (by rw[hTx.1];simp[T0,bkL,ntL]),hBw⟩
def BP(ps:List Po)(id a l:Int):Bool:=if aS ps id<0 then false else anyAt (poAt ps (aS ps id).toNat).n (mB (poAt ps (aS ps id).toNat).ls a l)
def W7(ps:List Po)(id a l:Int)(w:World)(r:Ending)(w':World):Prop:=∃f:Le,r= .returned (.tuple #[LA f, .bool (BP ps id a l)])/\Below w.heap.size w w'/\(BP ps id a l=true->UL ps id a l f.ow)
structure LA3(w W:World)(t a l:Int)(v:Value):Prop where
 hb:W.heap[w.heap.size]?=some (lP t v)
 hp:W.heap[w.heap.size+1]?=some (.cells #[.int .i64 a, .int .i64 l] 53)
 hr:W.heap[w.heap.size+1+1]?=some (.cells #[.int .i64 0, .int .i64 0, .int .i64 0, .int .i64 0, .int .i64 0] 55)
 below:Below w.heap.size w W
theorem LA3.later{W':World}(h:LA3 w W t a l v)(hb:Below W.heap.size W W'):LA3 w W' t a l v:=
 ⟨aA hb h.hb,aA hb h.hp,aA hb h.hr,h.below.trans (hb.mono h.below.size)⟩
theorem Below.put9(h:Below w.heap.size w W)(o:Nat)(v:Value):Below w.heap.size w (W.setCell ⟨w.heap.size+1+1,o,none⟩ v):=h.setCell (p:=⟨w.heap.size+1+1,o,none⟩) (by show w.heap.size<=w.heap.size+1+1;omega) v
theorem Below.put5(h:Below w.heap.size w W)(a b c d e:Value):Below w.heap.size w (((((W.setCell ⟨w.heap.size+1+1,0,none⟩ a).setCell ⟨w.heap.size+1+1,1,none⟩ b).setCell ⟨w.heap.size+1+1,2,none⟩ c).setCell ⟨w.heap.size+1+1,3,none⟩ d).setCell ⟨w.heap.size+1+1,4,none⟩ e):=
 Below.put9 (Below.put9 (Below.put9 (Below.put9 (Below.put9 h 0 a) 1 b) 2 c) 3 d) 4 e
theorem EU(t:Int)(x:Option Addr)(n c:Nat)(ps:List Po)(id a l:Int)(w:World)(hk:Bk w x n c ps)(hn:n<=64):
  Calls Tryz.prog 14 #[.agg #[.int .i64 t, .slice x n c], .int .i64 id, .agg #[.int .i64 a, .int .i64 l]] w (W7 ps id a l w):=by
 have hpl:Hid (ps.length=n):=hk.ps.len;go_enter Tryz.func14,Tryz.ntmps14;go_upto_region 1 with fail
 obtain⟨w0,hw0⟩:∃w0,w0=((w.alloc (lP t (.slice x n c))).alloc (.cells #[.int .i64 a, .int .i64 l] 53)).alloc (.cells #[.int .i64 0, .int .i64 0, .int .i64 0, .int .i64 0, .int .i64 0] 55):=⟨_,rfl⟩;rw[<-hw0];have hT0:LA3 w w0 t a l (.slice x n c):=by
  rw[hw0];exact⟨aH _ (aH _ (aB _ rfl)),aH _ (aB _ (by simp)),aB _ (by simp),(bP w _ _).alloc (by simp;omega) _⟩
 clear hw0;obtain⟨b0,b1⟩:=aZ hT0.hb rfl rfl;have hpc:=poolAt_any t id x n c ps w0 (hk.later hT0.below).ps (by omega);by_cases hat:aS ps id<0
 ·obtain⟨ia,hia⟩:∃ia,Hid (ia=aS ps id):=⟨_,rfl⟩;have hB:Hid (BP ps id a l=false):=if_pos hat;rw[<-hia.out]at hpc hat;go_wp2_with fail;refine hpc.mono ?_;rintro e w1 ⟨rfl,hb1⟩;have hT1:=hT0.later hb1;have hge:¬ia≥0:=by omega
  clear b0 b1 hb1 hpc hia;go_wp2;go_loopw [9] (fun kk wr=>kk= .int .i64 0/\LA3 w wr t a l (.slice x n c)) (fun _ _=>0)
  case atStart=>exact⟨rfl,hT1⟩
  case round=>
   obtain⟨rfl,hT⟩:=hrel
   obtain⟨s0,s1,s2,s3,s4⟩:=bx5 hT.hr rfl rfl rfl rfl rfl
   have zz:=(aD hT.hr).2
   go_wp2
   refine bodyPost_ret (v:= .tuple #[.agg #[.int .i64 0, .int .i64 0, .int .i64 0, .int .i64 0, .int .i64 0], .bool false]) (by simp[results,Tryz.results14,go_sem,s0,s1,s2,s3,s4]) rfl ?_
   exact⟨K1,by first|(rw[hB.out];done)|(rw[hB.out];rfl),Below.put5 hT.below _ _ _ _ _,fun h=>by rw[hB.out]at h;cases h⟩
 ·obtain⟨i,hi,hati,hidi⟩:=bW hat;have hidh:Hid ((poAt ps i).id=id):=hidi;clear hidi;rw[hpl.out]at hi;have hB0:Hid (BP ps id a l=anyAt (poAt ps i).n (mB (poAt ps i).ls a l)):=by
   unfold Hid BP;rw[if_neg hat,hati,Int.toNat_natCast]
  rw[hati]at hpc;go_wp2_with fail;refine hpc.mono ?_;rintro e w1 ⟨rfl,hb1⟩;have hT1:=hT0.later hb1;have hi0:(0:Int)<=i:=by omega
  have hige:(i:Int)≥0:=by omega
  have hin:(i:Int)<n:=by omega
  clear b0 b1 hb1 hpc hat hati;go_wp2;go_loopw [9] (fun kk wr=>∃j:Nat,kk= .int .i64 j/\j<=(poAt ps i).n/\LA3 w wr t a l (.slice x n c)/\∀q,q<j->mB (poAt ps i).ls a l q=false) (fun kk _=>(poAt ps i).n- (intOf kk).toNat)
  case atStart=>exact⟨0,rfl,by omega,hT1,fun q hq=>by omega⟩
  case round=>
   clear hT1 hT0
   obtain⟨j,rfl,hjn,hT,hno⟩:=hrel
   have hno':Hid (∀q,q<j->mB (poAt ps i).ls a l q=false):=hno
   clear hno
   have hkr:=hk.later hT.below
   obtain⟨b,o,rfl, -, -, -, -, -, -, -, -,c8⟩:=hkr.ps.cells i hi
   obtain⟨hlc,hlm,hLS⟩:=hkr.ps.leases i hi
   have b1:=aO hT.hb 1 rfl
   by_cases hlt:j<(poAt ps i).n
   ·obtain⟨b2,o2,hx2,e0,e1,e2,e3,e4⟩:=hLS.cells j hlt;rw[hx2]at c8;have hj0:(0:Int)<=j:=by omega
    have hjn2:(j:Int)<(poAt ps i).n:=by omega
    have hlth:Hid (j<(poAt ps i).n):=hlt;clear hlt;have huse:Hid (mB (poAt ps i).ls a l j=(((leAt (poAt ps i).ls j).kd==1)&&(decide ((leAt (poAt ps i).ls j).a=a)&&decide ((leAt (poAt ps i).ls j).l=l)))):=rfl;go_upto_region 6 with fail
    obtain⟨e,he⟩:∃e,Hid (e=leAt (poAt ps i).ls j):=⟨_,rfl⟩;rw[<-he.out]at e0 e1 e2 e3 e4 huse;rw[<-he.out];obtain⟨wl,hwl⟩:∃wl,wl=wr.alloc (tC e):=⟨_,rfl⟩;rw[show wr.alloc (.cells #[.int .i64 e.a, .int .i64 e.l, .int .i64 e.kd, .int .i64 e.ow, .int .i64 e.un] 55)=wl from hwl.symm];have hBl:Below wr.heap.size wr wl:=by rw[hwl];exact bl1 _ _
    have hvb:wl.heap[wr.heap.size]?=some (tC e):=by rw[hwl];exact aB _ rfl
    have hTl:=hT.later hBl;clear hwl b1 c8 e0 e1 e2 e3 e4;obtain⟨p0,p1⟩:=aZ hTl.hp rfl rfl;obtain⟨l0,l1,l2,l3,l4⟩:=bx5 hvb rfl rfl rfl rfl rfl;by_cases hkd:e.kd=1
    ·rw[hkd]at l2;by_cases ha:e.a=a
     ·rw[ha]at l0;by_cases hl:e.l=l
      ·rw[hl]at l1;have hB:Hid (BP ps id a l=true):=by
        unfold Hid;rw[hB0.out];exact aW hlth.out (by simp[huse.out,hkd,ha,hl])
       have hUL:Hid (UL ps id a l e.ow):=⟨poAt ps i,cZ (by rw[hpl.out];exact hi),hidh.out,e,by rw[he.out];exact fH (by rw[hLS.len];exact hlth.out),hkd,ha,hl,rfl⟩;clear hB0 hno';obtain⟨s0,s1,s2,s3,s4⟩:=bx5 hTl.hr rfl rfl rfl rfl rfl;have zz:=(aD hTl.hr).2;go_wp2;refine bodyPost_ret (v:= .tuple #[.agg #[.int .i64 a, .int .i64 l, .int .i64 1, .int .i64 e.ow, .int .i64 e.un], .bool true]) (by simp[results,Tryz.results14,go_sem,s0,s1,s2,s3,s4]) rfl ?_;exact⟨⟨a,l,1,e.ow,e.un⟩,by first|(rw[hB.out];done)|(rw[hB.out];rfl),Below.put5 hTl.below _ _ _ _ _,fun _=>hUL.out⟩
      ·have hst:Hid (mB (poAt ps i).ls a l j=false):=by
        have:decide (e.l=l)=false:=by simpa using hl
        unfold Hid;rw[huse.out,this];simp
       have hld:decide (e.l=l)=false:=by simpa using hl
       go_wp2;go_roundw
       case rel=>exact⟨j+1,by go_num,hlth.out,hTl,fun q hq=>by
        by_cases hq2:q<j
        ·exact hno'.out q hq2
        ·obtain rfl:q=j:=by omega
         exact hst.out⟩
       case measure=>have:=hlth.out;simp[intOf];omega
     ·have hst:Hid (mB (poAt ps i).ls a l j=false):=by
       have:decide (e.a=a)=false:=by simpa using ha
       unfold Hid;rw[huse.out,this];simp
      have hld:decide (e.a=a)=false:=by simpa using ha
      go_wp2;go_roundw
      case rel=>exact⟨j+1,by go_num,hlth.out,hTl,fun q hq=>by
       by_cases hq2:q<j
       ·exact hno'.out q hq2
       ·obtain rfl:q=j:=by omega
        exact hst.out⟩
      case measure=>have:=hlth.out;simp[intOf];omega
    ·have hst:Hid (mB (poAt ps i).ls a l j=false):=by
      have:(e.kd==1)=false:=by simpa using hkd
      unfold Hid;rw[huse.out,this];simp
     have hld:(e.kd==1)=false:=by simpa using hkd
     go_wp2;go_roundw
     case rel=>exact⟨j+1,by go_num,hlth.out,hTl,fun q hq=>by
      by_cases hq2:q<j
      ·exact hno'.out q hq2
      ·obtain rfl:q=j:=by omega
       exact hst.out⟩
     case measure=>have:=hlth.out;simp[intOf];omega
   ·have hnj:¬(j:Int)<(poAt ps i).n:=by omega
    have hB:Hid (BP ps id a l=false):=by
     unfold Hid;rw[hB0.out];exact dD fun q hq=>hno'.out q (by omega)
    clear hB0 hno';obtain⟨s0,s1,s2,s3,s4⟩:=bx5 hT.hr rfl rfl rfl rfl rfl;have zz:=(aD hT.hr).2;go_wp2;refine bodyPost_ret (v:= .tuple #[.agg #[.int .i64 0, .int .i64 0, .int .i64 0, .int .i64 0, .int .i64 0], .bool false]) (by simp[results,Tryz.results14,go_sem,s0,s1,s2,s3,s4]) rfl ?_;exact⟨K1,by first|(rw[hB.out];done)|(rw[hB.out];rfl),Below.put5 hT.below _ _ _ _ _,fun h=>by rw[hB.out]at h;cases h⟩
theorem KM:Tryz.prog.underlying 59=some (.struct (Tryz.prog.fieldsOf 59)):=by kernel_rfl
theorem T1:Tryz.prog.stoodInHeld 59=false:=by kernel_rfl
theorem W8(a l p c m q:Int)(w:World):(binOp .eql 59 (.agg #[.int .i64 a, .int .i64 l, .int .i64 p]) (.agg #[.int .i64 c, .int .i64 m, .int .i64 q])).run Tryz.prog w= .ok (.bool (decide (a=c)&&decide (l=m)&&decide (p=q))) w:=by
 rw[run_eql_struct,show(10000:Nat)=9999+1 from rfl,run_equalIn_agg w 9999 _ _ _ KM T1];simp only[Program.fieldsOf,Tryz.underlying59];go_simp;by_cases h1:a=c<;>by_cases h2:l=m<;>by_cases h3:p=q<;>simp[h1,h2,h3]
theorem PB:Tryz.prog.eqGuardType Tryz.prog.depth 59=false:=by kernel_rfl
theorem PC(op:BinOp)(x y:Operand)(p q:Array Value)(w:World):(eqGuard op 59 x y (.agg p) (.agg q)).run Tryz.prog w= .ok () w:=by
 have h:=PB;unfold eqGuard
 cases op<;>simp[go_sem,h]
theorem HX{Q:Act->Prop}(x y:Operand)(t:TypeId)(a l p c m q:Int)(hop:o.op= .binOp .eql 59 x y t)(hg:o.guard=none)
 (hx:A.eval x= .agg #[.int .i64 a, .int .i64 l, .int .i64 p])(hy:A.eval y= .agg #[.int .i64 c, .int .i64 m, .int .i64 q])(h:wpQuiet Tryz.prog ops C Q rest (A.put o.dst (.bool (decide (a=c)&&decide (l=m)&&decide (p=q))))):wpQuiet Tryz.prog ops C Q (o::rest) A:=by
 unfold wpQuiet;rw[if_pos (by simp[Region.wanted,hg])];refine⟨_,fun w _=>?_,h⟩;unfold Oper.quietAt execOp;rw[hop];simp only[hx,hy,Sem.run_bind,PC,W8,Result.andThen_ok,Sem.run_pure];exact⟨rfl,rfl⟩
def EV(rs:List Rg)(a l p:Int)(i:Nat):Bool:=decide ((rgAt rs i).a=a)&&decide ((rgAt rs i).l=l)&&decide ((rgAt rs i).p=p)
theorem EW(z:Vn)(a l p:Int)(w:World)(hp:RS w z.rx z.rn z.rs)(hn:z.rn<=64):
  Calls Tryz.prog 16 #[aDu z, .agg #[.int .i64 a, .int .i64 l, .int .i64 p]] w fun e w'=>e= .returned (.bool (anyAt z.rn (EV z.rs a l p)))/\Below w.heap.size w w':=by
 go_enter Tryz.func16,Tryz.ntmps16;go_upto_region 1 with fail
 obtain⟨w0,hw0⟩:∃w0,w0=(w.alloc (D8 z)).alloc (AY ⟨a,l,p⟩):=⟨_,rfl⟩;have hB0:Below w.heap.size w w0:=by rw[hw0];exact bP w _ _
 have hq0:w0.heap[w.heap.size]?=some (D8 z):=by rw[hw0];exact aH _ (aB _ rfl)
 have hq1:w0.heap[w.heap.size+1]?=some (AY ⟨a,l,p⟩):=by rw[hw0];exact aB _ (by simp)
 rw[<-hw0];clear hw0;have hp0:=hp.later hB0;have c1:=aO hq0 1 rfl;obtain⟨r0,r1,r2⟩:=bZ hq1 rfl rfl rfl;clear hq0 hq1;go_wp2;go_loopw [5] (fun i wr=>∃k:Nat,i= .int .i64 k/\k<=z.rn/\(∀j,j<k->EV z.rs a l p j=false)/\Below w0.heap.size w0 wr) (fun i _=>z.rn- (intOf i).toNat)
 case atStart=>exact⟨0,rfl,by omega,fun j hj=>by omega,zD⟩
 case round=>
  obtain⟨k,rfl,hk,hno,hBr⟩:=hrel
  have hno':Hid (∀j,j<k->EV z.rs a l p j=false):=hno
  clear hno
  replace c1:=cell_later hBr c1
  replace r0:=cell_later hBr r0
  replace r1:=cell_later hBr r1
  replace r2:=cell_later hBr r2
  by_cases hlt:k<z.rn
  ·have hlt':Hid (k<z.rn):=hlt;obtain⟨bb,oo,hx,d0,d1,d2⟩:=(hp0.later hBr).cells k hlt;have he:Hid (EV z.rs a l p k=(decide ((rgAt z.rs k).a=a)&&decide ((rgAt z.rs k).l=l)&&decide ((rgAt z.rs k).p=p))):=rfl;rw[hx]at c1;clear hx;generalize rgAt z.rs k=e at*;obtain⟨T,hT⟩:∃T,(decide (e.a=a)&&decide (e.l=l)&&decide (e.p=p))=T:=⟨_,rfl⟩;go_upto_region 4 with fail
   have t0:=Ws.here c1;have t1:=Ws.here d0;have t2:=Ws.here d1;have t3:=Ws.here d2;have t4:=Ws.here r0;have t5:=Ws.here r1;have t6:=Ws.here r2;refine aE wr.heap.size (by kernel_rfl) (by kernel_rfl) ?_;repeat(go_big_quiet_step (fail))
   refine HX _ _ _ e.a e.l e.p a l p rfl rfl rfl rfl ?_;refine wpQuiet_nil ?_;rintro _ ⟨y,rfl⟩;have hBy:=hBr.trans (y.property.mono hBr.size);rw[hT]at he⊢;clear t0 t1 t2 t3 t4 t5 t6
   cases T
   ·go_wp2;go_roundw
    case rel=>exact⟨k+1,by go_num,hlt'.out,fun j hj=>by
     by_cases c:j<k
     ·exact hno'.out j c
     ·obtain rfl:j=k:=by omega
      exact he.out,hBy⟩
    case measure=>simp[intOf];have:=hlt'.out;omega
   ·go_wp2;go_ret;exact⟨aI (aW hlt'.out he.out).symm,hB0.trans (hBy.mono hB0.size)⟩
  ·obtain rfl:k=z.rn:=by omega
   go_wp2;go_ret;exact⟨aI (dD hno'.out).symm,hB0.trans (hBr.mono hB0.size)⟩
theorem XA(h:VS w x n vs):∀v∈vs,CU v:=fun v hv=>by
 obtain⟨i,hi,rfl⟩:=List.getElem_of_mem hv;have h1:=h.vps i (by rw[<-h.len];exact hi);unfold vnAt at h1;rw[zF,List.getElem?_eq_getElem hi]at h1;exact mI.full h1
theorem XB(hF:kH ps)(hB:aX t ps=0)(hN:bQ vn vs ln ls=0)(hvl:vs.length=vn)(hfv:∀v∈vs,CU v):AZ (bL ps) (gV vs)=true↔Agr ps (gV vs):=by
 subst hvl;obtain⟨-, -,hr,hc⟩:=oU hN;have hid:∀i,i<vs.length->(vnAt vs i).id≠0:=fun i hi e=>by
  have:=(mF (hc i hi)).1;rw[e]at this;exact absurd this (by decide)
 rw[WE (vC hF hB)]
 ·intro v hv;obtain⟨i,hi,rfl⟩:=sO.1 hv;exact⟨hid i hi,KF (hfv _ (lE hi)) (hc i hi)⟩
 ·unfold gV;rw[List.pairwise_map,List.pairwise_iff_getElem];intro i j hi hj hij e;have:=sI hr i j hij hj;have e1:vnAt vs i=vs[i]:=by unfold vnAt;rw[zF,List.getElem?_eq_getElem hi];rfl
  have e2:vnAt vs j=vs[j]:=by unfold vnAt;rw[zF,List.getElem?_eq_getElem hj];rfl
  rw[e1,e2]at this;simp only at e;omega
def lL(ps:List Po)(vs:List Vn)(i k:Nat):Prop:=UL ps (rgAt (vnAt vs i).rs k).p (rgAt (vnAt vs i).rs k).a (rgAt (vnAt vs i).rs k).l (vnAt vs i).id
def mW(vs:List Vn)(p:Po)(e:Le):Prop:=e.kd=1->∀i,i<vs.length->(vnAt vs i).id=e.ow->anyAt (vnAt vs i).rs.length (EV (vnAt vs i).rs e.a e.l p.id)=true
theorem T2(h:anyAt n f=true):∃k,k<n/\f k=true:=by
 unfold anyAt at h;rw[List.any_eq_true]at h;obtain⟨k,hk,hf⟩:=h;exact⟨k,List.mem_range.1 hk,hf⟩
theorem XC:Agr ps (gV vs)↔(∀i,i<vs.length->∀k,k<(vnAt vs i).rs.length->lL ps vs i k)/\∀p∈ps,∀e∈p.ls,mW vs p e:=by
 constructor
 ·intro h;refine⟨fun i hi k hk=>?_,fun p hp e he hk i hi ho=>?_⟩
  ·refine(h _ (sO.2 ⟨i,hi,rfl⟩) _ _ _).2 ?_;exact List.mem_map.2 ⟨rgAt (vnAt vs i).rs k,bS QD hk,rfl⟩
  ·have h1:=(h _ (sO.2 ⟨i,hi,rfl⟩) p.id e.a e.l).1 ⟨p,hp,rfl,e,he,hk,rfl,rfl,ho.symm⟩;obtain⟨r,hr,e1⟩:=List.mem_map.1 h1;obtain⟨k,hk2,rfl⟩:=List.getElem_of_mem hr;refine aW hk2 ?_;simp only[E7,Prod.mk.injEq]at e1;have:rgAt (vnAt vs i).rs k=(vnAt vs i).rs[k]:=nY hk2;simp[EV,this,e1.1,e1.2.1,e1.2.2]
 ·rintro⟨h1,h2⟩ v hv i a l;obtain⟨j,hj,rfl⟩:=sO.1 hv;constructor
  ·rintro⟨p,hp,rfl,e,he,hk,rfl,rfl,ho⟩;obtain⟨k,hk2,hf⟩:=T2 (h2 p hp e he hk j hj ho.symm);simp only[EV,zH,decide_eq_true_eq]at hf;refine List.mem_map.2 ⟨rgAt (vnAt vs j).rs k,bS QD hk2,?_⟩;simp[E7,hf.1.1,hf.1.2,hf.2]
  ·intro hm;obtain⟨r,hr,e1⟩:=List.mem_map.1 hm;obtain⟨k,hk2,rfl⟩:=List.getElem_of_mem hr;have h3:=h1 j hj k hk2;unfold lL at h3;rw[nY hk2]at h3;simp only[E7,Prod.mk.injEq]at e1;rw[<-e1.1,<-e1.2.1,<-e1.2.2];exact h3
theorem XD{id o:Int}(hF:kH ps)(hr:ps.Pairwise fun p q=>p.id<q.id)(h:BP ps id a l=false):¬UL ps id a l o:=by
 rintro⟨p,hp,rfl,e,he,hk,rfl,rfl, -⟩;obtain⟨i,hi,rfl⟩:=List.getElem_of_mem hp;have e1:poAt ps i=ps[i]:=bJ hi;have hat:aS ps ps[i].id=i:=by
  refine kT hi (by rw[e1]) fun j hj hjd=>?_;have:=List.pairwise_iff_getElem.1 hr j i (by omega) hi hj;rw[bJ (by omega:j<ps.length)]at hjd;omega
 unfold BP at h;rw[hat,if_neg (by omega),Int.toNat_natCast,e1]at h;obtain⟨q,hq,rfl⟩:=List.getElem_of_mem he;have hl:=hF i hi;rw[e1]at hl;have h2:anyAt ps[i].n (mB ps[i].ls ps[i].ls[q].a ps[i].ls[q].l)=true:=aW (k:=q) (by omega) (by
  have:leAt ps[i].ls q=ps[i].ls[q]:=by unfold leAt;rw[zF,List.getElem?_eq_getElem hq];rfl
  simp[mB,this,hk])
 rw[h2]at h
 cases h
theorem iM{x:Int}(h:bV x 1 65536=true):num x:=by
 simp only[bV,zH,decide_eq_true_eq]at h;exact⟨by omega,by omega⟩
theorem T3{c m:Int}(h:jQ a l c m=true):rt a l=true:=by
 unfold jQ at h;simp only[zH]at h;exact h.1.1.1
theorem aAl{f:Fc}(hr:rt a l=true)(h4:f.n<=4)(hl:f.ns.length=f.n)(h:(bV f.id 1 65536&&decide (0<f.n)&&PT a l f.n f.ns)=true):fcN f:=by
 simp only[zH,PT,Bool.not_eq_true']at h;refine⟨iM h.1.1,h4,fun x hx=>?_⟩;obtain⟨i,hi,rfl⟩:=List.getElem_of_mem hx;have h1:aU f.ns i=f.ns[i]:=by unfold aU;rw[zF,List.getElem?_eq_getElem hi];rfl
 have h2:mC a l (aU f.ns i)=true:=by
  cases h3:mC a l (aU f.ns i)with
  |true=>rfl
  |false=>
   have:anyAt f.n (fun i=>!mC a l (aU f.ns i))=true:=aW (k:=i) (by omega) (by simp[h3])
   rw[h.2.2]at this
   cases this
 have h5:=yG hr h2;rw[h1]at h5;exact⟨h5.1,by omega⟩
theorem aAm{v:Vn}(hv:Vp w v.rx v.rn v.rc v.rs v.sx v.sn v.sc v.ss)(h:bN v.id v.rn v.rs v.sn v.ss=0):vnN v:=by
 have hR:=LP hv.ranges.len hv.subs.len h;have hrl:=hv.ranges.len;have hsl:=hv.subs.len;refine⟨iM hR.iw,hR.r4,hR.s6,fun r hr=>?_,fun s hs=>?_⟩
 ·obtain⟨i,hi,rfl⟩:=List.getElem_of_mem hr;have h1:=hR.rg i (by omega);rw[nY hi]at h1;simp only[E5,zH]at h1;exact⟨h1.1,iM h1.2⟩
 ·obtain⟨i,hi,rfl⟩:=List.getElem_of_mem hs;have e:aG v.ss i=v.ss[i]:=by unfold aG;rw[zF,List.getElem?_eq_getElem hi];rfl
  have h1:=hR.sb i (by omega);have h2:=hR.fc i (by omega);have h3:=hR.n8 i (by omega);have h4:=hR.n4 i (by omega);have h5:=(hv.subs.faces i (by omega)).2.2;rw[e]at h1 h2 h3 h4 h5;simp only[oY,zH]at h1;have hrt:rt v.ss[i].a v.ss[i].l=true:=by
   obtain⟨k, -,hk⟩:=T2 h1.2;exact T3 hk
  refine⟨iM h1.1,hrt,h3,fun f hf=>?_⟩;obtain⟨j,hj,rfl⟩:=List.getElem_of_mem hf;have hfl:=h5.len;have e2:fcAt v.ss[i].fs j=v.ss[i].fs[j]:=by unfold fcAt;rw[zF,List.getElem?_eq_getElem hj];rfl
  have h6:=h4 j (by omega);have h7:=(h5.addrs j (by omega)).2.2.len;rw[e2]at h6 h7;simp only[oZ,zH]at h2;have h8:=List.all_eq_true.1 h2.1.1 j (List.mem_range.2 (by omega));unfold mU at h8;rw[e2]at h8;exact aAl hrt h6 h7 h8
theorem YI.of(hs:Si w x n c ps vx vn vc vs lx ln ls)(h:hZ t ps vn vs ln ls=0):YI w t ps vs ls n vn ln:=by
 obtain⟨hB,hN, -⟩:=KD h;have rb:=vC hs.bk.full hB;obtain⟨h6,h12,hr,hc⟩:=oU hN;have hpl:=hs.bk.ps.len;have hvl:=hs.vps.len;have hll:=hs.lk.len;have hid:∀y,¬aM vn vs y<0->num y:=fun y hy=>by
  obtain⟨i,hi,rfl⟩:=zV.1 hy;exact iM (mF (hc i hi)).1
 refine⟨⟨rb.t0,by have:=rb.t1;omega⟩,fun p hp=>?_,fun z hz=>?_,fun l hl=>?_,by have:=rb.few;omega,h6,h12⟩
 ·obtain⟨i,hi,rfl⟩:=List.getElem_of_mem hp;have e:poAt ps i=ps[i]:=bJ hi;have h1:=(hs.bk.ps.leases i (by omega)).2.2;rw[e]at h1;have h2:=rb.n32 _ hp;have h3:=h1.len;refine⟨h1,by omega,rb.root _ hp,iM (rb.idw _ hp),?_,fun e he=>?_⟩
  ·obtain⟨f,hf⟩:=rb.ups _ hp
   cases f with
   |zero=>cases hf
   |succ f=>
    unfold lY at hf
    by_cases c0:ps[i].up=0
    ·rw[c0];exact⟨by omega,by omega⟩
    ·rw[if_neg c0]at hf;by_cases c1:aS ps ps[i].up<0
     ·rw[if_pos c1]at hf;cases hf
     ·obtain⟨j,hj, -,hjd⟩:=bW c1;rw[<-hjd];exact iM (rb.idw _ (cZ hj))
  ·have hrt:rt e.a e.l=true:=T3 ((rb.used _ hp).inn (e.a,e.l) (List.mem_map.2 ⟨e,he,rfl⟩));rcases rb.les _ hp e he with ⟨-,h4,h5⟩|⟨-,h5,q,hq,h4, -⟩|⟨-,h4,h5,h7⟩
   ·exact⟨hrt,iM h4,by rw[h5];exact⟨by omega,by omega⟩⟩
   ·exact⟨hrt,by rw[<-h4];exact iM (rb.idw q hq),by rw[h5];exact⟨by omega,by omega⟩⟩
   ·have:=rb.t0;have:=rb.t1;exact⟨hrt,by rw[h4];exact⟨by omega,by omega⟩,⟨by omega,by omega⟩⟩
 ·obtain⟨i,hi,rfl⟩:=List.getElem_of_mem hz;have e:vnAt vs i=vs[i]:=by unfold vnAt;rw[zF,List.getElem?_eq_getElem hi];rfl
  have h1:=(hs.vps.vps i (by omega)).2.2.2;have h2:=hc i (by omega);rw[e]at h1 h2;exact aAm h1 h2
 ·obtain⟨i,hi,rfl⟩:=List.getElem_of_mem hl;obtain⟨-, -, -,hlk, -⟩:=oS hN;simp only[cN,zH,Bool.not_eq_true']at hlk;have h1:pB vn vs ls i=false:=by
   cases hb:pB vn vs ls i with
   |false=>rfl
   |true=>
    have:=aW (n:=ln) (k:=i) (by omega) hb
    rw[hlk.2]at this
    cases this
  have e:ls.getD i (0,0)=ls[i]:=by rw[zF,List.getElem?_eq_getElem hi];rfl
  simp only[pB,at0,bY,e,Bool.or_eq_false_iff,decide_eq_false_iff_not]at h1;exact⟨hid _ h1.1.2,hid _ h1.2⟩
theorem xA{f:Le}(hW:Below wr.heap.size wr W)(hq:W.heap[b]?=some (tC K1))(hb:wr.heap.size<=b):
  Below wr.heap.size wr (((((W.setCell ⟨b,0,none⟩ (.int .i64 f.a)).setCell ⟨b,1,none⟩ (.int .i64 f.l)).setCell ⟨b,2,none⟩ (.int .i64 f.kd)).setCell ⟨b,3,none⟩ (.int .i64 f.ow)).setCell ⟨b,4,none⟩ (.int .i64 f.un))/\
   (((((W.setCell ⟨b,0,none⟩ (.int .i64 f.a)).setCell ⟨b,1,none⟩ (.int .i64 f.l)).setCell ⟨b,2,none⟩ (.int .i64 f.kd)).setCell ⟨b,3,none⟩ (.int .i64 f.ow)).setCell ⟨b,4,none⟩ (.int .i64 f.un)).heap[b]?=some (tC f):=by
 refine⟨((((hW.setCell (p:=⟨b,0,none⟩) hb _).setCell (p:=⟨b,1,none⟩) hb _).setCell (p:=⟨b,2,none⟩) hb _).setCell (p:=⟨b,3,none⟩) hb _).setCell (p:=⟨b,4,none⟩) hb _,?_⟩;exact zC (zC (zC (zC (zC hq))))
theorem BQ(t:Int)(x:Option Addr)(n c:Nat)(ps:List Po)(vx:Option Addr)(vn vc:Nat)(vs:List Vn)(lx:Option Addr)(ln lc:Nat)(ls:List (Int×Int))(w:World)(hs:Si w x n c ps vx vn vc vs lx ln ls):
  Calls Tryz.prog 5 #[.agg #[.int .i64 t, .slice x n c, .slice vx vn vc, .slice lx ln lc]] w fun e w'=>e= .returned (.int .i64 (hZ t ps vn vs ln ls))/\Below w.heap.size w w':=by
 have hT:Hid (hZ t ps vn vs ln ls=if aX t ps≠0 then aX t ps else if bQ vn vs ln ls≠0 then bQ vn vs ln ls else if AZ (bL ps) (gV vs)=true then 0 else 1):=rfl;have hpl:Hid (ps.length=n):=hs.bk.ps.len;have hvl:Hid (vs.length=vn):=hs.vps.len;obtain⟨w0,hw0⟩:∃w0,w0=w.alloc (lH t (.slice x n c) (.slice vx vn vc) (.slice lx ln lc)):=⟨_,rfl⟩;have hB0:Below w.heap.size w w0:=by rw[hw0];exact bl1 w _
 have hq0:w0.heap[w.heap.size]?=some (lH t (.slice x n c) (.slice vx vn vc) (.slice lx ln lc)):=by rw[hw0];exact aB _ rfl
 obtain⟨s0,s1⟩:=aZ hq0 rfl rfl;have hcb:=BC t x n c ps w0 (hs.bk.later hB0);obtain⟨E,hE⟩:∃E,Hid (E=aX t ps):=⟨_,rfl⟩;rw[<-hE.out]at hcb hT;go_enter Tryz.func5,Tryz.ntmps5;go_upto_region 1 with fail
 rw[<-hw0];clear hw0;go_wp2_with fail;refine hcb.mono ?_;rintro _ w1 ⟨rfl,hb1⟩;clear s0 s1 hcb;by_cases h0:E=0
 case neg=>
  rw[if_pos h0]at hT
  go_wp2
  go_ret
  exact⟨by rw[hT.out];rfl,hB0.trans (hb1.mono hB0.size)⟩
 rw[if_neg (by simpa using h0)]at hT;subst h0;have hq1:=aA hb1 hq0;have s2:=aO hq1 2 rfl;have s3:=aO hq1 3 rfl;have hB1:=hB0.trans (hb1.mono hB0.size);have hcn:=EF vx vn vc vs lx ln lc ls w1 (hs.vps.later hB1) hs.v63 (hs.lk.later hB1) hs.l63;obtain⟨F,hF⟩:∃F,Hid (F=bQ vn vs ln ls):=⟨_,rfl⟩;rw[<-hF.out]at hcn hT;go_wp2_with fail;refine hcn.mono ?_;rintro _ w2 ⟨rfl,hb2⟩;clear s2 s3 hcn;have hb02:=hb1.trans (hb2.mono hb1.size);by_cases h0:F=0
 case neg=>
  rw[if_pos h0]at hT
  go_wp2
  go_ret
  exact⟨by rw[hT.out];rfl,hB0.trans (hb02.mono hB0.size)⟩
 rw[if_neg (by simpa using h0)]at hT;subst h0;have hag:Hid (AZ (bL ps) (gV vs)=true↔_):=(XB hs.bk.full hE.out.symm hF.out.symm hs.vps.len (XA hs.vps)).trans XC;have hrb:Hid (RB t ps):=vC hs.bk.full hE.out.symm;have hn8:n<=8:=by have:=hrb.out.few;rw[hpl.out]at this;exact this
 obtain⟨h6, -,hri,hcv⟩:=oU hF.out.symm;have hri':Hid (cX vs=true):=hri;have hcv':Hid (∀i,i<vn->bN (vnAt vs i).id (vnAt vs i).rn (vnAt vs i).rs (vnAt vs i).sn (vnAt vs i).ss=0):=hcv;clear hri hcv hE hF hq1 hb1 hb2 hB1;go_wp2;go_loopw [5] (fun i wr=>∃k:Nat,i= .int .i64 k/\k<=vn/\(∀j,j<k->∀q,q<(vnAt vs j).rs.length->lL ps vs j q)/\Below w0.heap.size w0 wr) (fun i _=>vn- (intOf i).toNat)
 case atStart=>exact⟨0,rfl,by omega,fun j hj=>by omega,hb02⟩
 case round=>
  obtain⟨k,rfl,hk,hok,hBr⟩:=hrel
  have hok':Hid (∀j,j<k->∀q,q<(vnAt vs j).rs.length->lL ps vs j q):=hok
  clear hok
  have hBw:=hB0.trans (hBr.mono hB0.size)
  have hqr:=aA hBr hq0
  have s2:=aO hqr 2 rfl
  by_cases hlt:k<vn
  ·have hlt':Hid (k<vn):=hlt;have hkl:Hid (k<vs.length):=by unfold Hid;rw[hvl.out];exact hlt
   obtain⟨bb,oo,hx,d0,d1,d2⟩:=(hs.vps.later hBw).cells k hlt;have hvp:=(hs.vps.vps k hlt).2.2.2;have hr4:=(LP hvp.ranges.len hvp.subs.len (hcv'.out k hlt)).r4;rw[hx]at s2⊢;obtain⟨z,hz⟩:∃z,Hid (z=vnAt vs k):=⟨_,rfl⟩;rw[<-hz.out]at d0 d1 d2 hvp hr4;go_upto_region 11 with fail
   obtain⟨wo,hwo⟩:∃wo,wo=wr.alloc (D8 z):=⟨_,rfl⟩;have hbo:Below wr.heap.size wr wo:=by rw[hwo];exact bl1 wr _
   have hqo:wo.heap[wr.heap.size]?=some (D8 z):=by rw[hwo];exact aB _ rfl
   rw[<-hwo];clear hwo d0 d1 d2 s2;have hBo:=hBr.trans (hbo.mono hBr.size);obtain⟨vb,hvb⟩:∃vb,Hid (vb=wr.heap.size):=⟨_,rfl⟩;rw[<-hvb.out]at hqo⊢;have hrl:Hid (z.rs.length=z.rn):=hvp.ranges.len;go_wp2;clear hBw hqr hBr hbo hx;go_loopw [7] (fun i wr=>∃q:Nat,i= .int .i64 q/\q<=z.rn/\(∀j,j<q->lL ps vs k j)/\Below w0.heap.size w0 wr/\wr.heap[vb]?=some (D8 z)) (fun i _=>z.rn- (intOf i).toNat)
   case atStart=>exact⟨0,rfl,by omega,fun j hj=>by omega,hBo,hqo⟩
   case round=>
    clear hBo hqo
    obtain⟨q,rfl,hq,hoq,hBr,hqv⟩:=hrel
    have hoq':Hid (∀j,j<q->lL ps vs k j):=hoq
    clear hoq
    have hBw:=hB0.trans (hBr.mono hB0.size)
    have hqr:=aA hBr hq0
    have c1:=aO hqv 1 rfl
    by_cases hlq:q<z.rn
    ·have hlq':Hid (q<z.rn):=hlq;obtain⟨b2,o2,hx2,d0,d1,d2⟩:=(hvp.ranges.later hBw).cells q hlq;have hra:Hid (lL ps vs k q↔UL ps (rgAt z.rs q).p (rgAt z.rs q).a (rgAt z.rs q).l z.id):=by unfold Hid lL;rw[hz.out]
     rw[hx2]at c1;clear hx2;generalize rgAt z.rs q=e at*;go_upto_region 14 with fail
     have t0:=Ws.here (aO hqr 0 rfl);have t1:=Ws.here (aO hqr 1 rfl);have t2:=Ws.here c1;have t3:=Ws.here d0;have t4:=Ws.here d1;have t5:=Ws.here d2;have hlea:=fun W (hW:Below w.heap.size w W)=>EU t x n c ps e.p e.a e.l W (hs.bk.later hW) (by omega);obtain⟨B,hB⟩:∃B,Hid (B=BP ps e.p e.a e.l):=⟨_,rfl⟩;go_cut [8,9] (fun u v wd=>v= .bool B/\∃bp f,u= .pointer (some ⟨bp,0,none⟩)/\wr.heap.size<=bp/\Below wr.heap.size wr wd/\wd.heap[bp]?=some (tC f)/\(B=true->UL ps e.p e.a e.l f.ow))
     case first=>
      refine bG (fun w'=>∃u:Ws wr.heap.size wr,w'=u.val) (fun j=>decide (j<15)||decide (j=18)) 21 _ (by kernel_rfl) rfl rfl ?_
      refine bE 7 [0,1,2,3,4,5,6,7,8,9,10,11,12,13] rfl _ rfl (by kernel_rfl) (fun d _ _ _ _ h=>by cases d<;>exact h) ⟨⟨_,(zD).drew⟩,rfl⟩ ?_
      simp only[zK,zM,zI,zJ]
      repeat(go_big_quiet_step (fail))
      refine wpQuiet_nil ?_
      clear t0 t1 t2 t3 t4 t5 c1 d0 d1 d2
      refine iD 14 18 _ _ _ _ (by kernel_rfl) (by kernel_rfl) rfl rfl rfl rfl ?_ ?_
      ·intro K hK;simp only[zI,zJ];go_wp2_with fail;have hb1:Below wr.heap.size wr wr.drew:=(zD).drew;refine(hlea wr.drew (hBw.trans (hb1.mono hBw.size))).mono ?_;rintro _ y1 ⟨f,rfl,hbf,hU⟩;rw[<-hB.out]at hU⊢;have hC1:=hb1.trans (hbf.mono hb1.size);go_wp2_with fail;refine aC (hK.out _ _ ⟨⟨_,hC1⟩,rfl⟩ ?_);clear hK K;refine jA 3 [15,16,17] rfl _ rfl (by kernel_rfl) (fun d _ _ _ _ h=>by cases d<;>exact h) ?_;simp only[zK,zM,zI,zJ];repeat(go_big_quiet_step (fail))
       refine wpQuiet_nil ?_;refine aY 18 _ _ (by kernel_rfl) (by kernel_rfl) rfl rfl ?_;intro K hK;simp only[zI,zJ];go_wp2_with fail;obtain⟨y2,hy2⟩:∃W,W=y1.alloc (tC K1):=⟨_,rfl⟩;have hb2:Below y1.heap.size y1 y2:=by rw[hy2];exact bl1 _ _
       have hqb:y2.heap[y1.heap.size]?=some (tC K1):=by rw[hy2];exact aB _ rfl
       rw[show y1.alloc (.cells #[.int .i64 0, .int .i64 0, .int .i64 0, .int .i64 0, .int .i64 0] 55)=y2 from hy2.symm];clear hy2;have hC2:=hC1.trans (hb2.mono hC1.size);refine aC (hK.out _ _ ⟨⟨_,hC2⟩,rfl⟩ ?_);clear hK K;obtain⟨p0,p1,p2,p3,p4⟩:=bx5 hqb rfl rfl rfl rfl rfl;obtain⟨pz0,pz1,pz2,pz3,pz4⟩:=bz5 hqb;refine bB [19,20] rfl (by kernel_rfl) ?_;simp only[zK,zM,zI,zJ];go_wp2_with fail;go_meet
       case rel=>exact⟨rfl,_,f,rfl,hC1.size,(xA hC2 hqb hC1.size).1,(xA hC2 hqb hC1.size).2,hU⟩
      ·intro K hK;simp only[zI,zJ];go_wp2_with fail;obtain⟨y1,hy1⟩:∃W,W=(wr.alloc (tC K1)).drew:=⟨_,rfl⟩;have hb1:Below wr.heap.size wr y1:=by rw[hy1];exact(bl1 _ _).drew
       have hqa:y1.heap[wr.heap.size]?=some (tC K1):=by rw[hy1];exact aB (W:=wr) _ rfl
       rw[show(wr.alloc (.cells #[.int .i64 0, .int .i64 0, .int .i64 0, .int .i64 0, .int .i64 0] 55)).drew=y1 from hy1.symm];clear hy1;refine aC (hK.out _ _ ⟨⟨_,hb1⟩,rfl⟩ ?_);clear hK K;refine aY 14 _ _ (by kernel_rfl) (by kernel_rfl) rfl rfl ?_;intro K hK;simp only[zI,zJ];go_wp2_with fail;refine(hlea y1 (hBw.trans (hb1.mono hBw.size))).mono ?_;rintro _ y2 ⟨f,rfl,hb2,hU⟩;rw[<-hB.out]at hU⊢;have hC2:=hb1.trans (hb2.mono hb1.size);have hqb:=aA hb2 hqa;go_wp2_with fail;refine aC (hK.out _ _ ⟨⟨_,hC2⟩,rfl⟩ ?_);clear hK K;refine jA 2 [15,16,17] rfl _ rfl (by kernel_rfl) (fun d _ _ _ _ h=>by cases d<;>exact h) ?_;simp only[zK,zM,zI,zJ];repeat(go_big_quiet_step (fail))
       refine wpQuiet_nil ?_;obtain⟨p0,p1,p2,p3,p4⟩:=bx5 hqb rfl rfl rfl rfl rfl;obtain⟨pz0,pz1,pz2,pz3,pz4⟩:=bz5 hqb;refine bB [19,20] rfl (by kernel_rfl) ?_;simp only[zK,zM,zI,zJ];go_wp2_with fail;go_meet
       case rel=>exact⟨rfl,_,f,rfl,zE,(xA hC2 hqb (zE)).1,(xA hC2 hqb (zE)).2,hU⟩
     case rest=>
      clear t0 t1 t2 t3 t4 t5 hlea c1 d0 d1 d2
      obtain⟨rfl,bp,f,rfl,hbp,hbc,hqf,hU⟩:=hcut
      have hB2:=hBr.trans (hbc.mono hBr.size)
      have hqz:=aA hbc hqv
      have c2:=aO hqf 3 rfl
      have c0:=aO hqz 0 rfl
      have bad:Hid (¬lL ps vs k q->hZ t ps vn vs ln ls=1):=fun hno=>by
       rw[hT.out,if_neg];intro hh;exact hno ((hag.out.1 hh).1 k hkl.out q (by rw[<-hz.out,hrl.out];exact hlq'.out))
      cases B
      ·have hno:¬lL ps vs k q:=fun h=>XD hs.bk.full hrb.out.rise hB.out.symm (hra.out.1 h);have hE1:=bad.out hno;have hE2:Hid (hZ t ps vn vs ln ls=1):=hE1;clear hE1 hno hU;go_wp2;go_ret;exact⟨by rw[hE2.out];rfl,hB0.trans (hB2.mono hB0.size)⟩
      ·have hU:=hU rfl;by_cases ho:f.ow=z.id
       ·have hyes:Hid (lL ps vs k q):=hra.out.2 (ho▸hU);rw[ho]at c2;clear hU bad;go_wp2;go_roundw
        case rel=>exact⟨q+1,by go_num,hlq'.out,fun j hj=>by
         by_cases cj:j<q
         ·exact hoq'.out j cj
         ·obtain rfl:j=q:=by omega
          exact hyes.out,hB2,hqz⟩
        case measure=>simp[intOf];have:=hlq'.out;omega
       ·have hno:¬lL ps vs k q:=fun h=>ho (ZT hrb.out hU (hra.out.1 h));have hE2:Hid (hZ t ps vn vs ln ls=1):=bad.out hno;have ho':(f.ow !=z.id)=true:=by simpa using ho
        clear hno hU bad;go_wp2;go_ret;exact⟨by rw[hE2.out];rfl,hB0.trans (hB2.mono hB0.size)⟩
    ·obtain rfl:q=z.rn:=by omega
     go_wp2;go_roundw
     case rel=>exact⟨k+1,by go_num,hlt'.out,fun j hj r hr=>by
      by_cases cj:j<k
      ·exact hok'.out j cj r hr
      ·obtain rfl:j=k:=by omega
       exact hoq'.out r (by rw[<-hz.out,hrl.out]at hr;exact hr),hBr⟩
     case measure=>simp[intOf];have:=hlt'.out;omega
  ·obtain rfl:k=vn:=by omega
   have hall:Hid (∀i,i<vs.length->∀q,q<(vnAt vs i).rs.length->lL ps vs i q):=fun i hi=>hok'.out i (by rw[<-hvl.out];exact hi);clear hok';go_wp2;clear s2 hqr hBw;go_loopw [10] (fun i wr=>∃m:Nat,i= .int .i64 m/\m<=n/\(∀j,j<m->∀e∈(poAt ps j).ls,mW vs (poAt ps j) e)/\Below w0.heap.size w0 wr) (fun i _=>n- (intOf i).toNat)
   case atStart=>exact⟨0,rfl,by omega,fun j hj=>by omega,hBr⟩
   case round=>
    clear hBr
    obtain⟨m,rfl,hm,hom,hBr⟩:=hrel
    have hom':Hid (∀j,j<m->∀e∈(poAt ps j).ls,mW vs (poAt ps j) e):=hom
    clear hom
    have hBw:=hB0.trans (hBr.mono hB0.size)
    have hqr:=aA hBr hq0
    have s1:=aO hqr 1 rfl
    by_cases hlm:m<n
    ·have hlm':Hid (m<n):=hlm;have hml:m<ps.length:=by rw[hpl.out];exact hlm
     obtain⟨bb,oo,hx,d0,d1,d2,d3,d4,d5,d6,d7,d8⟩:=(hs.bk.ps.later hBw).cells m hlm;have hls:=(hs.bk.ps.leases m hlm).2.2;have h32:=hrb.out.n32 _ (cZ hml);rw[hx]at s1;clear hx;obtain⟨f,hf⟩:∃f,Hid (f=poAt ps m):=⟨_,rfl⟩;rw[<-hf.out]at d0 d1 d2 d3 d4 d5 d6 d7 d8 hls h32;have hmem:Hid (f∈ps):=by unfold Hid;rw[hf.out];exact cZ hml
     go_upto_region 21 with fail
     obtain⟨wo,hwo⟩:∃wo,wo=wr.alloc (oL f):=⟨_,rfl⟩;have hbo:Below wr.heap.size wr wo:=by rw[hwo];exact bl1 wr _
     have hqo:wo.heap[wr.heap.size]?=some (oL f):=by rw[hwo];exact aB _ rfl
     rw[<-hwo];clear hwo d0 d1 d2 d3 d4 d5 d6 d7 d8 s1;have hBo:=hBr.trans (hbo.mono hBr.size);obtain⟨pb,hpb⟩:∃pb,Hid (pb=wr.heap.size):=⟨_,rfl⟩;rw[<-hpb.out]at hqo⊢;have hfl:Hid (f.ls.length=f.n):=hls.len;rw[hfl.out]at h32;go_wp2;clear hBw hqr hBr hbo;go_loopw [12] (fun i wr=>∃q:Nat,i= .int .i64 q/\q<=f.n/\(∀j,j<q->mW vs f (leAt f.ls j))/\Below w0.heap.size w0 wr/\wr.heap[pb]?=some (oL f)) (fun i _=>f.n- (intOf i).toNat)
     case atStart=>exact⟨0,rfl,by omega,fun j hj=>by omega,hBo,hqo⟩
     case round=>
      clear hBo hqo
      obtain⟨q,rfl,hq,hoq,hBr,hqv⟩:=hrel
      have hoq':Hid (∀j,j<q->mW vs f (leAt f.ls j)):=hoq
      clear hoq
      have hBw:=hB0.trans (hBr.mono hB0.size)
      have c8:=aO hqv 8 rfl
      by_cases hlq:q<f.n
      ·have hlq':Hid (q<f.n):=hlq;have hql:q<f.ls.length:=by rw[hfl.out];exact hlq
       obtain⟨b2,o2,hx2,d0,d1,d2,d3,d4⟩:=(hls.later hBw).cells q hlq;rw[hx2]at c8;clear hx2;obtain⟨e,he⟩:∃e,Hid (e=leAt f.ls q):=⟨_,rfl⟩;rw[<-he.out]at d0 d1 d2 d3 d4;have hstep:Hid (mW vs f e->∀j,j<q+1->mW vs f (leAt f.ls j)):=fun h j hj=>by
        by_cases cj:j<q
        ·exact hoq'.out j cj
        ·obtain rfl:j=q:=by omega
         exact he.out▸h
       have bad:Hid (¬mW vs f e->hZ t ps k vs ln ls=1):=fun hno=>by
        rw[hT.out,if_neg];intro hh;exact hno ((hag.out.1 hh).2 f hmem.out e (he.out▸fH hql))
       go_upto_region 25 with fail
       obtain⟨wl,hwl⟩:∃wl,wl=wr.alloc (tC e):=⟨_,rfl⟩;have hbl:Below wr.heap.size wr wl:=by rw[hwl];exact bl1 wr _
       have hql2:wl.heap[wr.heap.size]?=some (tC e):=by rw[hwl];exact aB _ rfl
       rw[<-hwl];clear hwl d0 d1 d2 d3 d4 c8;have hBl:=hBr.trans (hbl.mono hBr.size);have hBw2:=hB0.trans (hBl.mono hB0.size);have hqp:=aA hbl hqv;have hqs:=aA hBl hq0;have t0:=Ws.here (aO hql2 0 rfl);have t1:=Ws.here (aO hql2 1 rfl);have t2:=Ws.here (aO hql2 2 rfl);have t3:=Ws.here (aO hql2 3 rfl);have t4:=Ws.here (aO hqs 2 rfl);have t5:=Ws.here (aO hqs 3 rfl);have t6:=Ws.here (aO hqp 0 rfl);have hVu:∀u:Ws wl.heap.size wl,VS u.val vx k vs:=fun u=>(hs.vps.later hBw2).later u.property;by_cases kd:e.kd=1
       ·rcases vplace_cases k vs e.ow with ⟨i,hi,hid,hvi⟩|hvi
        ·have hidh:Hid ((vnAt vs i).id=e.ow):=hid;have hvih:Hid (aM k vs e.ow=i):=hvi;have hii:=hVu;obtain⟨b5,o5,hx5,g0,g1,g2⟩:=(hs.vps.later hBw2).cells i hi;have hvp:=(hs.vps.vps i hi).2.2.2;have hr4:=(LP hvp.ranges.len hvp.subs.len (hcv'.out i hi)).r4;have hrl5:Hid ((vnAt vs i).rs.length=(vnAt vs i).rn):=hvp.ranges.len;have hRu:∀u:Ws wl.heap.size wl,RS u.val (vnAt vs i).rx (vnAt vs i).rn (vnAt vs i).rs:=fun u=>(hvp.ranges.later hBw2).later u.property;have t7:=Ws.here g0;have t8:=Ws.here g1;have t9:=Ws.here g2;rw[hx5]at t4;obtain⟨X,hX⟩:∃X,anyAt (vnAt vs i).rn (EV (vnAt vs i).rs e.a e.l f.id)=X:=⟨_,rfl⟩;have hha:=fun(u:Ws wl.heap.size wl)=>EW (vnAt vs i) e.a e.l f.id u.val (hRu u) (by omega);rw[hX]at hha;have hva:=fun(u:Ws wl.heap.size wl)=>nZ vx k vc vs lx ln lc e.ow i hvi u.val (hVu u) (by omega);rw[hx5]at hva;rw[kd]at t2;have hi0:(0:Int)<=i:=by omega
         have hige:(i:Int)≥0:=by omega
         have hin:(i:Int)<k:=by omega
         clear hid hvi hx5 hii hRu hVu g0 g1 g2 hqs hql2 hBw2 hbl hBw hqv;refine aE wl.heap.size (by kernel_rfl) (by kernel_rfl) ?_;repeat(go_big_quiet_step (first|(go_at_call 15;exact Calls.in_ws (zE) (hva _))|(go_at_call 16;exact Calls.in_ws (zE) (hha _))))
         refine wpQuiet_nil ?_;rintro _ ⟨y,rfl⟩;clear t0 t1 t2 t3 t4 t5 t6 t7 t8 t9 hha hva;have hBy:=hBl.trans (y.property.mono hBl.size);have hqy:=aA y.property hqp;have hXh:Hid (anyAt (vnAt vs i).rn (EV (vnAt vs i).rs e.a e.l f.id)=X):=hX;clear hX;have kdh:Hid (e.kd=1):=kd
         cases X
         ·have hE2:Hid (hZ t ps k vs ln ls=1):=bad.out fun h=>by
           have:=h kdh.out i (by rw[hvl.out];exact hi) hidh.out;rw[hrl5.out,hXh.out]at this
           cases this
          go_wp2;go_ret;exact⟨by rw[hE2.out];rfl,hB0.trans (hBy.mono hB0.size)⟩
         ·have hok2:Hid (mW vs f e):=fun _ j hj hjd=>by
           obtain rfl:j=i:=by
            rcases Nat.lt_trichotomy j i with cj|cj|cj
            ·have:=sI hri'.out j i cj (by rw[hvl.out];exact hi);have:=hidh.out;omega
            ·exact cj
            ·have:=sI hri'.out i j cj hj;have:=hidh.out;omega
           rw[hrl5.out];exact hXh.out
          go_wp2;go_roundw
          case rel=>exact⟨q+1,by go_num,hlq'.out,hstep.out hok2.out,hBy,hqy⟩
          case measure=>simp[intOf];have:=hlq'.out;omega
        ·have hok2:Hid (mW vs f e):=fun _ j hj hjd=>by
          have h1:¬aM k vs e.ow<0:=zV.2 ⟨j,by rw[<-hvl.out];exact hj,hjd⟩;rw[hvi]at h1;omega
         have hva:=fun(u:Ws wl.heap.size wl)=>nZ vx k vc vs lx ln lc e.ow (-1) hvi u.val (hVu u) (by omega);have hha:True:=trivial;rw[kd]at t2;clear hvi hVu hqs hql2 hBw2 hbl hBw hqv;refine aE wl.heap.size (by kernel_rfl) (by kernel_rfl) ?_;repeat(go_big_quiet_step ((go_at_call 15;exact Calls.in_ws (zE) (hva _))))
         refine wpQuiet_nil ?_;rintro _ ⟨y,rfl⟩;clear t0 t1 t2 t3 t4 t5 t6 hva;have hBy:=hBl.trans (y.property.mono hBl.size);have hqy:=aA y.property hqp;go_wp2;go_roundw
         case rel=>exact⟨q+1,by go_num,hlq'.out,hstep.out hok2.out,hBy,hqy⟩
         case measure=>simp[intOf];have:=hlq'.out;omega
       ·have hok2:Hid (mW vs f e):=fun h=>absurd h kd;have kd':(e.kd==1)=false:=by simpa using kd
        clear hVu hqs hql2 hBw2 hbl hBw hqv;refine aE wl.heap.size (by kernel_rfl) (by kernel_rfl) ?_;repeat(go_big_quiet_step (fail))
        refine wpQuiet_nil ?_;rintro _ ⟨y,rfl⟩;clear t0 t1 t2 t3 t4 t5 t6;have hBy:=hBl.trans (y.property.mono hBl.size);have hqy:=aA y.property hqp;go_wp2;go_roundw
        case rel=>exact⟨q+1,by go_num,hlq'.out,hstep.out hok2.out,hBy,hqy⟩
        case measure=>simp[intOf];have:=hlq'.out;omega
      ·obtain rfl:q=f.n:=by omega
       have hdone:Hid (∀j,j<m+1->∀e∈(poAt ps j).ls,mW vs (poAt ps j) e):=fun j hj e he=>by
        by_cases cj:j<m
        ·exact hom'.out j cj e he
        ·obtain rfl:j=m:=by omega
         rw[<-hf.out]at he⊢;obtain⟨r,hr,rfl⟩:=List.getElem_of_mem he;have h1:=hoq'.out r (by rw[<-hfl.out];exact hr);unfold leAt at h1;rwa[zF,List.getElem?_eq_getElem hr]at h1
       go_wp2;go_roundw
       case rel=>exact⟨m+1,by go_num,hlm'.out,hdone.out,hBr⟩
       case measure=>simp[intOf];have:=hlm'.out;omega
    ·obtain rfl:m=n:=by omega
     have hE2:Hid (hZ t ps k vs ln ls=0):=by
      unfold Hid;rw[hT.out,if_pos];refine hag.out.2 ⟨hall.out,fun p hp e he=>?_⟩;obtain⟨j,hj,rfl⟩:=List.getElem_of_mem hp;have h1:=hom'.out j (by rw[<-hpl.out];exact hj) e;rw[bJ hj]at h1;exact h1 he
     go_wp2;go_ret;exact⟨by rw[hE2.out];rfl,hBw⟩
structure Cm where
 op:Int
 a:Int
 b:Int
 c:Int
 p:Int
 l:Int
 mn:Int
 mx:Int
 us:Int
 co:Int
def Cm.num(c:Cm)(k:Nat):Int:=
 match k with
 |0=>c.a|1=>c.b|2=>c.c|3=>c.p|4=>c.l|5=>c.mn|6=>c.mx|7=>c.us|_=>c.co
def YJ(n:Int):List Int:=[n/16777216%256,n/65536%256,n/256%256,n%256]
def XE(n:Int):List Int:=[n%256,n/256%256,n/65536%256,n/16777216%256]
def uL(c:Cm):Nat->List Int
 |0=>[]
 |k+1=>uL c k++YJ (c.num k)
def lM(c:Cm)(k:Nat):List Int:=c.op%256::uL c k
def fV(c:Cm):List Int:=lM c 9
theorem uM(c:Cm):∀k,(lM c k).length=1+4*k
 |0=>rfl
 |k+1=>by
  have:=uM c k;simp only[lM,uL,YJ,List.length_cons,List.length_append,List.length_nil]at this⊢;omega
theorem lN(c:Cm):(fV c).length=37:=uM c 9
theorem KN(c:Cm)(k:Nat):lM c (k+1)=lM c k++YJ (c.num k):=rfl
def EX(n:Int):Bool:=decide (-2147483648<=n)&&decide (n<=2147483647)
def okCm(c:Cm):Bool:=decide (0<=c.op)&&decide (c.op<=255)&&(List.range 9).all fun k=>EX (c.num k)
theorem AI{n:Int}:EX n=true↔ -2147483648<=n/\n<=2147483647:=by unfold EX;simp
theorem HZ{c:Cm}(h0:0<=c.op)(h1:c.op<=255)(h:∀k,k<9->EX (c.num k)=true):okCm c=true:=by
 unfold okCm;simp only[zH,decide_eq_true_eq,List.all_eq_true,List.mem_range];exact⟨⟨h0,h1⟩,h⟩
theorem L5{c:Cm}(h:okCm c=true):0<=c.op/\c.op<=255:=by
 unfold okCm at h;simp only[zH,decide_eq_true_eq]at h;exact h.1
theorem H0{c:Cm}(h:okCm c=true)(k:Nat)(hk:k<9):EX (c.num k)=true:=by
 unfold okCm at h;simp only[zH,decide_eq_true_eq,List.all_eq_true,List.mem_range]at h;exact h.2 k hk
theorem xB{c:Cm}(hk:k<9)(h:EX (c.num k)=false):okCm c=false:=by
 cases hc:okCm c
 ·rfl
 ·rw[H0 hc k hk]at h
  cases h
theorem T4{c:Cm}(h:c.op<0\/255<c.op):okCm c=false:=by
 cases hc:okCm c
 ·rfl
 ·have:=L5 hc;omega
def pE(xs:List Int)(i:Nat):Int:=xs.getD i 0
def sgn(v:Int):Int:=if 2147483648<=v then v- 4294967296 else v
def T5(a b c d:Int):Int:=16777216*a+65536*b+256*c+d
def fA(xs:List Int)(k:Nat):Int:=sgn (T5 (pE xs (4*k+1)) (pE xs (4*k+2)) (pE xs (4*k+3)) (pE xs (4*k+4)))
def vW(xs:List Int):Cm:=⟨pE xs 0,fA xs 0,fA xs 1,fA xs 2,fA xs 3,fA xs 4,fA xs 5,fA xs 6,fA xs 7,fA xs 8⟩
def A1(xs:List Int):Prop:=∀x∈xs,0<=x/\x<=255
theorem mN(h:A1 xs)(i:Nat):0<=pE xs i/\pE xs i<=255:=by
 unfold pE;rw[zF];by_cases hi:i<xs.length
 ·rw[List.getElem?_eq_getElem hi];exact h _ (List.getElem_mem hi)
 ·rw[List.getElem?_eq_none (by omega)];exact⟨by decide,by decide⟩
theorem XF(n:Int):A1 (YJ n):=by
 intro x hx;simp only[YJ,List.mem_cons,List.not_mem_nil,or_false]at hx;omega
theorem XG(n:Int):A1 (XE n):=by
 intro x hx;simp only[XE,List.mem_cons,List.not_mem_nil,or_false]at hx;omega
theorem qQ(h:A1 xs)(g:A1 ys):A1 (xs++ys):=fun x hx=>by
 rcases List.mem_append.1 hx with hx|hx
 ·exact h x hx
 ·exact g x hx
theorem AJ{x:Int}(h:0<=x/\x<=255)(g:A1 ys):A1 (x::ys):=fun y hy=>by
 rcases List.mem_cons.1 hy with rfl|hy
 ·exact h
 ·exact g y hy
theorem AK(c:Cm):∀k,A1 (uL c k)
 |0=>fun x hx=>by cases hx
 |k+1=>qQ (AK c k) (XF _)
theorem PD(c:Cm)(k:Nat):A1 (lM c k):=AJ (by omega) (AK c k)
theorem iN{n:Int}(h:EX n=true):sgn (T5 (n/16777216%256) (n/65536%256) (n/256%256) (n%256))=n:=by
 rw[AI]at h;unfold sgn T5;split<;>omega
theorem PE{c:Cm}(h:okCm c=true):vW (fV c)=c:=by
 have ho:=L5 h;have hn:=H0 h;obtain⟨op,a,b,d,p,l,mn,mx,us,co⟩:=c;have e0:=iN (hn 0 (by omega));have e1:=iN (hn 1 (by omega));have e2:=iN (hn 2 (by omega));have e3:=iN (hn 3 (by omega));have e4:=iN (hn 4 (by omega));have e5:=iN (hn 5 (by omega));have e6:=iN (hn 6 (by omega));have e7:=iN (hn 7 (by omega));have e8:=iN (hn 8 (by omega));simp only[Cm.num]at e0 e1 e2 e3 e4 e5 e6 e7 e8;simp only[vW,fA,fV,lM,uL,YJ,pE,Cm.num,List.nil_append,List.cons_append,zJ,zI,Nat.mul_zero,Nat.zero_add,Nat.reduceMul,Nat.reduceAdd,e0,e1,e2,e3,e4,e5,e6,e7,e8];congr 1;show op%256=op;have:0<=op/\op<=255:=ho;omega
def vX(xs:List Int):Nat->Int
 |0=>0
 |k+1=>vX xs k+((k:Int)+1)*pE xs k
def aAn(xs:List Int):Int:=vX xs xs.length
theorem oG(h:A1 xs):∀k,k<=256->0<=vX xs k/\vX xs k<=65280*k
 |0,_=>⟨by simp[vX],by simp[vX]⟩
 |k+1,hk=>by
  obtain⟨i0,i1⟩:=oG h k (by omega);obtain⟨b0,b1⟩:=mN h k;have m0:0<=((k:Int)+1)*pE xs k:=Int.mul_nonneg (by omega) b0;have m1:((k:Int)+1)*pE xs k<=256*255:=Int.mul_le_mul (by omega) b1 b0 (by omega);simp only[vX];omega
def cC(xs:List Int):List Int:=((xs.length:Int)::xs)++XE (aAn ((xs.length:Int)::xs))
theorem KO(xs:List Int):(cC xs).length=xs.length+5:=by
 unfold cC XE;simp
theorem uN(h:A1 xs)(hl:xs.length<=255):A1 (cC xs):=qQ (AJ (by omega) h) (XG _)
theorem AL(xs:List Int):((cC xs).drop 1).take xs.length=xs:=by
 unfold cC;simp
def BR(xs:List Int):Bool:=decide (42<=xs.length)&&decide (cC ((xs.drop 1).take 37)=xs.take 42)
def rp:Nat->List Int->List Cm
 |0,_=>[]
 |f+1,xs=>if BR xs=true then vW ((xs.drop 1).take 37)::rp f (xs.drop 42)else[]
def jS(l:List Cm):List Int:=l.flatMap fun c=>cC (fV c)
theorem uO(c:Cm)(l:List Cm):jS (c::l)=cC (fV c)++jS l:=by simp[jS]
theorem PF(c:Cm)(l:List Cm):jS (l++[c])=jS l++cC (fV c):=by simp[jS]
theorem EY(c:Cm):(cC (fV c)).length=42:=by rw[KO,lN]
theorem AM:∀l:List Cm,(jS l).length=42*l.length
 |[]=>rfl
 |c::l=>by rw[uO,List.length_append,EY,AM l,List.length_cons];omega
theorem PG(c:Cm)(ys:List Int):BR (cC (fV c)++ys)=true:=by
 have hl:=EY c;have ht:=AL (fV c);rw[lN]at ht;unfold BR;simp only[zH,decide_eq_true_eq];refine⟨by rw[List.length_append];omega,?_⟩;rw[List.drop_append_of_le_length (by omega),List.take_append_of_le_length (by rw[List.length_drop];omega),ht,List.take_append_of_le_length (by omega),List.take_of_length_le (by omega)]
theorem T6{c:Cm}(h:okCm c=true)(f:Nat)(ys:List Int):rp (f+1) (cC (fV c)++ys)=c::rp f ys:=by
 have hl:=EY c;have ht:=AL (fV c);rw[lN]at ht;rw[show rp (f+1) (cC (fV c)++ys)=if BR (cC (fV c)++ys)=true then vW (((cC (fV c)++ys).drop 1).take 37)::rp f ((cC (fV c)++ys).drop 42)else[]from rfl,if_pos (PG c ys)];rw[List.drop_append_of_le_length (by omega),List.take_append_of_le_length (by rw[List.length_drop];omega),ht,PE h,List.drop_append_of_le_length (by omega),List.drop_of_length_le (by omega)];rfl
theorem L6:∀(l:List Cm) (f:Nat) (ys:List Int),(∀c∈l,okCm c=true)->l.length<=f->rp f (jS l++ys)=l++rp (f- l.length) ys
 |[],f,ys,_,_=>by simp[jS]
 |c::l,f,ys,h,hf=>by
  cases f with
  |zero=>simp at hf
  |succ f=>
   rw[uO,List.append_assoc,T6 (h c (by simp)),L6 l f ys (fun d hd=>h d (by simp[hd])) (by simpa using hf)]
   simp
end Go.Proofs.YtkgeoeglidnnnaaGreatDoor
