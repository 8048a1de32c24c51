/- A part of the proof. -/
import Derived.Test.YtjphnaccgfjnjaaGreatDoorMK08
set_option maxRecDepth 100000
set_option maxHeartbeats 20000000
namespace Go.Proofs.YtjphnaccgfjnjaaGreatDoor
variable {fs gs : List Fc} {i base gf kf cf b g n bm rn sn c hx ln : Nat} {w w' w6 w7 W : World} {v vR V : Value} {ts ss : List Sb} {cur curf : Array Value} {o oi : Oper} {vid y z E : Int} {s : Sb} {e : Ending} {rs : List Rg} {T : Nat → Bool} {listed : Array Bool} {P : Program} {ops : Array Oper} {Q : Exit → Act → World → Prop} {S C : World → Prop} {l rest : List Oper} {a A : Act} {x : Option Addr} {ns : List Int} {vs : List Vn} {r : Option Nat} {ls : List (Int × Int)}
open Go.RowKit Go.Shelf
theorem tI(h:i<fs.length):fcAt fs i∈fs:=by
 unfold fcAt;rw[zF,List.getElem?_eq_getElem h];exact List.getElem_mem h
theorem mM.mk'(h:eB w base v fs)(ho:∀f∈fs,fV w base (.slice f.x f.n f.c) f.ns):mM w base v fs fs.length:=
 ⟨h,fun i hi=>ho _ (tI hi),fun i hi hi2=>by omega⟩
theorem mM.each(h:mM w base v fs fs.length):∀f∈fs,fV w base (.slice f.x f.n f.c) f.ns:=fun f hf=>by
 obtain⟨i,hi,rfl⟩:=List.getElem_of_mem hf;have e:fcAt fs i=fs[i]:=by unfold fcAt;rw[zF,List.getElem?_eq_getElem hi];rfl
 have:=h.own i hi;rw[e]at this;exact this
theorem iR.cut(h:iR w base v ts ts.length)(hi:i<ts.length)(hg:w.grownBy w' (some gf))(hb:w.heap[gf]?=some (.cells cur 133))
 (hx:(Value.slice (sbAt ts i).x (sbAt ts i).n (sbAt ts i).c).ownBlock=some gf)(hO:eB w' base (.slice (some ⟨gf,0,none⟩) kf cf) gs)(hsub:∀f∈gs,f∈(sbAt ts i).fs):
  xR w' base (ts.set i (cX (sbAt ts i) (some ⟨gf,0,none⟩) kf cf gs)):=fun s hs=>by
 have hI:∀k,k<ts.length->∀f∈(sbAt ts k).fs,fV w' base (.slice f.x f.n f.c) f.ns:=fun k hk f hf=>by
  have h1:=(h.own k hk).each f hf;exact h1.kept hg (fun q hq e=>by subst e;exact h1.ne hb (by decide) hq)
 obtain⟨k,hk,rfl⟩:=List.getElem_of_mem hs;have hk':k<ts.length:=by simpa using hk
 rw[List.getElem_set];by_cases e:i=k
 ·rw[if_pos e];exact mM.mk' hO (fun f hf=>hI i hi f (hsub f hf))
 ·rw[if_neg e];have e2:sbAt ts k=ts[k]:=by unfold sbAt;rw[zF,List.getElem?_eq_getElem hk'];rfl
  rw[<-e2];exact mM.mk' ((h.own k hk').row.kept hg (fun q hq e3=>by subst e3;exact h.apart i k hi hk' e _ hx hq)) (hI k hk')
theorem E4{o:Nat}(h:w'.heap[b]?=w.heap[b]?):w'.cell? ⟨b,o,none⟩=w.cell? ⟨b,o,none⟩:=by simp[World.cell?,h]
theorem E5{bx k cap:Nat}(hg7':w6.drew.grownBy w7 (some gf))(hn6:w6.heap[bx]?=some (cY vid vR (.slice (some ⟨g,0,none⟩) n cap)))(hrow:cA w6 base (.slice (some ⟨g,0,none⟩) n cap) ts)
 (hgf6:w6.heap[gf]?=some (.cells curf 133))(hg6:w6.heap[g]?=some (.cells cur 130))(hne1:g≠gf)(hne2:bx≠gf)(d3:w6.cell? ⟨g,i*4+3,none⟩=some (.slice (some ⟨gf,0,none⟩) (k+1) cf)):
  w6.grownBy w7 (some gf)/\w7.heap[bx]?=some (cY vid vR (.slice (some ⟨g,0,none⟩) n cap))/\cA w7 base (.slice (some ⟨g,0,none⟩) n cap) ts/\w7.cell? ⟨bx,2,none⟩=some (.slice (some ⟨g,0,none⟩) n cap)/\w7.cell? ⟨g,i*4+3,none⟩=some (.slice (some ⟨gf,0,none⟩) (k+1) cf)/\w7.frozen? ⟨g,i*4+3,none⟩=false/\w7.heap[g]?=some (.cells cur 130):=by
 have hg7:w6.grownBy w7 (some gf):=by
  obtain⟨q1,q2,q3,q4,q5⟩:=hg7';exact⟨q1,q2,q3,q4,q5⟩
 have hn7:=cN hg7 hne2 hn6;have hrow7:=hrow.kept hg7 (fun q hq e=>by subst e;exact hrow.ne hgf6 (by decide) hq);have hgg7:=cN hg7 hne1 hg6;exact⟨hg7,hn7,hrow7,(aC hn7).1 2,(E4 (hgg7.trans hg6.symm)).trans d3,hrow7.frozen _,hgg7⟩
def VT(vid:Int)(rs:List Rg)(sn:Nat)(ss:List Sb)(sub id:Int)(base:Nat)(w:World)(V:Value):Prop:=∃ts i j x n c,fY sn ss sub id i j/\bQ ss ts/\n=((sbAt ts i).fs.take j++(sbAt ts i).fs.drop (j+1)).length/\HS w base vid V rs (ts.set i (cX (sbAt ts i) x n c ((sbAt ts i).fs.take j++(sbAt ts i).fs.drop (j+1))))
theorem HT(vid:Int)(rx:Option Addr)(rn rc:Nat)(rs:List Rg)(sx:Option Addr)(sn sc:Nat)(ss:List Sb)(sub id:Int)(w:World)(hv:Vp w rx rn rc rs sx sn sc ss)(hrn:rn<=9223372036854775807)(hsn:sn<=9223372036854775807)(hrc:rc<=9223372036854775807):
  Calls Tryz.prog 106 #[.agg #[.int .i64 vid, .slice rx rn rc, .slice sx sn sc], .int .i64 sub, .int .i64 id] w (fX (tH vid rn rs sn ss sub id) (VT vid rs sn ss sub id w.heap.size) w):=by
 have hrl:Hid (rs.length=rn):=hv.ranges.len;have hsl:Hid (ss.length=sn):=hv.subs.len;have hpl0:=fun W h=>wQ vid rx rn rc rs sx sn sc ss sub id W h hrn hsn hrc;unfold oS at hpl0;generalize tH vid rn rs sn ss sub id=E at hpl0⊢;go_enter Tryz.func106,Tryz.ntmps106;go_upto_region 1 with fail
 obtain⟨w0,hw0⟩:∃w0,w0=(w.alloc (cY vid (.slice rx rn rc) (.slice sx sn sc))).alloc (cY 0 (.slice none 0 0) (.slice none 0 0)):=⟨_,rfl⟩;rw[<-hw0];have hT0:TN w w0 vid rx rn rc sx sn sc:=by
  rw[hw0];exact⟨aG _ (aB _ rfl),aB _ (by simp),bO w _ _⟩
 clear hw0;obtain⟨b0,b1,b2⟩:=bI hT0.hb rfl rfl rfl;obtain⟨s0,s1,s2⟩:=bI hT0.hs rfl rfl rfl;obtain⟨zs0,zs1,zs2⟩:=dQ hT0.hs;have hpl:=hpl0 w0 (hv.later hT0.below);clear hpl0;by_cases hE:E=0
 ·subst hE;go_wp2_with fail;refine hpl.mono ?_;rintro e w1 ⟨i,j,rfl,hb1, -,hok⟩;obtain⟨hcz,hFA⟩:=hok (by trivial);obtain⟨f1,f2,f3,f4⟩:=dU hcz;clear hcz hok hpl;have hT1:=hT0.later hb1;clear b0 b1 b2 s0 zs0 s1 zs1 s2 zs2;obtain⟨b0,b1,b2⟩:=bI hT1.hb rfl rfl rfl;obtain⟨s0,s1,s2⟩:=bI hT1.hs rfl rfl rfl;obtain⟨zs0,zs1,zs2⟩:=dQ hT1.hs;have hv3:=fun W (hW:Below w.heap.size w W)=>cZ vid rx rn rc rs sx sn sc ss W (hv.later hW) (by omega) (by omega) (fun i hi=>by have:=f3 i hi;omega) (fun i hi j hj=>by have:=f4 i hi j hj;omega);go_wp2_with fail;refine(hv3 _ hT1.below).mono ?_;rintro e w5 ⟨vR,vS,ts,rfl,hOR,hss,hOS,hb5⟩;clear hv3;have hT5:=hT1.later hb5;have htl:Hid (ts.length=sn):=by unfold Hid;rw[<-hss.1];exact hsl.out
  have hit:i<ts.length:=by rw[htl.out];exact hFA.isn
  have hsi:=hss.2 i (by rw[hss.1];exact hit);obtain⟨hfS,hfl,hfc,hfm⟩:=(hOS.own i hit).fcs;have hjn:j<(sbAt ts i).n:=by rw[<-hsi.2.2.2.1];exact hFA.jn
  have hn8:(sbAt ts i).n<=8:=by rw[<-hsi.2.2.2.1];exact f3 i hFA.isn
  obtain⟨xr,cr,rfl, -⟩:=hOR.rs;obtain⟨k,hk⟩:∃k,Hid ((sbAt ts i).n=k+1):=⟨(sbAt ts i).n- 1,by unfold Hid;omega⟩;have hjk:j<=k:=by have:=hk.out;omega
  obtain⟨g,cap,hg5,cur,hgh,hvS⟩:∃g cap,w1.heap.size<=g/\∃cur,w5.heap[g]?=some (.cells cur 130)/\vS= .slice (some ⟨g,0,none⟩) ts.length cap:=by
   obtain⟨x2,c2,hv2, -⟩:=hOS.row.mem;rcases hOS.row.2 with ⟨hv', -⟩|⟨g,cap,cur,hv',hg1,hg2, -⟩
   ·rw[hv']at hv2;simp only[Value.slice.injEq]at hv2;omega
   ·exact⟨g,cap,hg1,cur,hg2,hv'⟩
  subst hvS;obtain⟨gf,cf,hgf5,curf,hgfh,hcf1,hcf2,hvF⟩:∃gf cf,w1.heap.size<=gf/\∃curf,w5.heap[gf]?=some (.cells curf 133)/\k+1<=cf/\cf<=9223372036854775807/\Hid (Value.slice (sbAt ts i).x (sbAt ts i).n (sbAt ts i).c= .slice (some ⟨gf,0,none⟩) (k+1) cf):=by
   have hkk:=hk.out;rcases(hOS.own i hit).row.2 with ⟨hv', -⟩|⟨gf,cf,curf,hv',hg1,hg2, -⟩
   ·simp only[Value.slice.injEq]at hv';omega
   ·have h2:=hv';simp only[Value.slice.injEq]at h2;exact⟨gf,cf,hg1,curf,hg2,by omega,by omega,by unfold Hid;rw[hv',hfl,hkk]⟩
  have hgl:g<w5.heap.size:=(zG hgh);have hgfl:gf<w5.heap.size:=(zG hgfh);clear b0 b1 b2 s0 zs0 s1 zs1 s2 zs2;go_upto_region 5 with fail
  obtain⟨w6,hw6⟩:∃w6,w6=w5.alloc (cY vid (.slice xr rs.length cr) (.slice (some ⟨g,0,none⟩) ts.length cap)):=⟨_,rfl⟩;rw[<-hw6];have hb56:Below w5.heap.size w5 w6:=by rw[hw6];exact bl1 _ _
  have hn6:w6.heap[w5.heap.size]?=some (cY vid (.slice xr rs.length cr) (.slice (some ⟨g,0,none⟩) ts.length cap)):=by rw[hw6];exact aB _ rfl
  clear hw6;have hT6:=hT5.later hb56;have hg6:=aA hb56 hgh;have hgf6:=aA hb56 hgfh;have hOR6:=bM.later hOR hb56;have hOS6:=iR.later hOS hb56;have hOF6:=(hOS6.own i hit).row;rw[hvF.out]at hOF6;have hx6:Hid ((Value.slice (sbAt ts i).x (sbAt ts i).n (sbAt ts i).c).ownBlock=some gf):=by unfold Hid;rw[hvF.out];rfl
  have n2:=aP hn6 2 rfl;have d3:w6.cell? ⟨g,i*4+3,none⟩=some (.slice (some ⟨gf,0,none⟩) (k+1) cf):=by
   obtain⟨x2,c2,he2, -, -, -,hm'⟩:=hOS6.row.mem;simp only[Value.slice.injEq]at he2;obtain⟨b2,o2,he3, -, -, -,c8⟩:=hm' i hit;rw[<-he2.1]at he3;simp only[Option.some.injEq,Addr.mk.injEq]at he3;obtain⟨rfl,rfl, -⟩:=he3;rw[hvF.out]at c8;simpa using c8
  have i0:(0:Int)<=i:=by omega
  have i1:(i:Int)<ts.length:=by omega
  have hne1:g≠gf:=fun e=>by rw[e]at hg6;rw[hg6]at hgf6;simp at hgf6
  have hne2:w5.heap.size≠gf:=by omega
  have hfl':Hid ((sbAt ts i).fs.length=k+1):=by unfold Hid;rw[hfl,hk.out]
  have hdel:=fun W h=>HJ w1.heap.size gf k cf j (j+1) (sbAt ts i).fs W h hfl'.out hjk rfl (by have:=hk.out;omega) hcf1 hcf2;rw[show((j+1:Nat):Int)=(j:Int)+1 by omega]at hdel;have hk8:k<=64:=by have:=hk.out;omega
  have hwr:IntKind.i64.wrap ((j:Int)+1)=(j:Int)+1:=by rw[IntKind.wrap_i64];omega
  have hsz1:w.heap.size+1<w1.heap.size:=(zG hT1.hs);have hq1:w5.heap.size≠g:=by omega
  have hq2:w.heap.size+1≠g:=by omega
  have hq3:w.heap.size+1≠gf:=by omega
  have hq4:w.heap.size<=g:=by omega
  have hq5:w.heap.size<=gf:=by omega
  have hgk:Hid (k=((sbAt ts i).fs.take j++(sbAt ts i).fs.drop (j+1)).length):=by
   unfold Hid;rw[List.length_append,List.length_take,List.length_drop,hfl'.out];omega
  have hsub:∀f∈(sbAt ts i).fs.take j++(sbAt ts i).fs.drop (j+1),f∈(sbAt ts i).fs:=fun f hf=>by
   rcases List.mem_append.1 hf with hf|hf
   ·exact List.mem_of_mem_take hf
   ·exact List.mem_of_mem_drop hf
  have hdel':=hdel w6.drew hOF6.drew;clear hfS hfl hfc hfm hjn hn8 hsi hdel;go_region_with (first|(go_at_call 178;refine hdel'.mono ?_;rintro e w7 ⟨rfl,hO7,hg7'⟩;obtain⟨hg7,hn7,hrow7,e2,d7,df,hgg7⟩:=E5 hg7' hn6 hOS6.row hgf6 hg6 hne1 hne2 d3)|fail)
  all_goals obtain⟨w8,hw8⟩:∃w8,w8=w7.setCell ⟨g,i*4+3,none⟩ (.slice (some ⟨gf,0,none⟩) k cf):=⟨_,rfl⟩
  all_goals rw[<-hw8]
  all_goals have hn8:w8.heap[w5.heap.size]?=some (cY vid (.slice xr rs.length cr) (.slice (some ⟨g,0,none⟩) ts.length cap)):=by rw[hw8];exact(zB hq1).trans hn7
  all_goals have hs8:w8.heap[w.heap.size+1]?=some (cY 0 (.slice none 0 0) (.slice none 0 0)):=by rw[hw8];exact(zB hq2).trans (cN hg7 hq3 hT6.hs)
  all_goals have hB8:Below w.heap.size w w8:=by rw[hw8];exact(dN hT6.below hg7 (fun q e=>by cases e;exact hq5)).setCell (p:=⟨g,i*4+3,none⟩) hq4 _
  all_goals have hOR8:bM w8 w1.heap.size (.slice xr rs.length cr) rs:=by rw[hw8];exact(hOR6.kept hg7 (fun q hq e=>by subst e;exact hOR6.ne hgf6 (by decide) hq)).putBox hgg7 (by decide)
  all_goals have hrow8:cA w8 w1.heap.size (.slice (some ⟨g,0,none⟩) ts.length cap) (ts.set i (cX (sbAt ts i) (some ⟨gf,0,none⟩) k cf ((sbAt ts i).fs.take j++(sbAt ts i).fs.drop (j+1)))):=by rw[hw8];exact hrow7.set i hit _ _ _ _
  all_goals have hfa8:xR w8 w1.heap.size (ts.set i (cX (sbAt ts i) (some ⟨gf,0,none⟩) k cf ((sbAt ts i).fs.take j++(sbAt ts i).fs.drop (j+1)))):=by rw[hw8];exact(hOS6.cut hit hg7 hgf6 hx6.out hO7 hsub).keptOf (aI _ _ _ _) hgg7 (by decide) (by decide)
  all_goals clear hw8 e2 d7 df
  all_goals obtain⟨m0,m1,m2⟩:=bI hn8 rfl rfl rfl
  all_goals obtain⟨s0,s1,s2⟩:=bI hs8 rfl rfl rfl
  all_goals obtain⟨zs0,zs1,zs2⟩:=dQ hs8
  all_goals go_wp2
  all_goals refine bodyPost_ret (v:= .tuple #[.agg #[.int .i64 vid, .slice xr rs.length cr, .slice (some ⟨g,0,none⟩) ts.length cap], .int .i64 0]) (by simp[results,Tryz.results106,go_sem,s0,s1,s2]) rfl ?_
  all_goals exact fX.ok rfl (((hB8.setCell (p:=⟨w.heap.size+1,0,none⟩) (zA) _).setCell (p:=⟨w.heap.size+1,1,none⟩) (zA) _).setCell (p:=⟨w.heap.size+1,2,none⟩) (zA) _) ⟨ts,i,j,_,k,_,hFA,hss,hgk.out,HS.mk (((hOR8.put hsz1).put hsz1).put hsz1) (by omega) (((hrow8.put hsz1).put hsz1).put hsz1) (by omega) (((hfa8.put hsz1).put hsz1).put hsz1) (by omega)⟩
 ·go_wp2_with fail;refine hpl.mono ?_;rintro e w1 ⟨i,j,rfl,hb1,hzz, -⟩;obtain⟨rfl,rfl⟩:=hzz hE;have hT1:=hT0.later hb1;clear b0 b1 b2 s0 zs0 s1 zs1 s2 zs2;obtain⟨b0,b1,b2⟩:=bI hT1.hb rfl rfl rfl;obtain⟨s0,s1,s2⟩:=bI hT1.hs rfl rfl rfl;obtain⟨zs0,zs1,zs2⟩:=dQ hT1.hs;go_wp2;refine bodyPost_ret (v:= .tuple #[.agg #[.int .i64 0, .slice none 0 0, .slice none 0 0], .int .i64 E]) (by simp[results,Tryz.results106,go_sem,s0,s1,s2]) rfl ?_;exact fX.err ⟨rfl,hE⟩ (((hT1.below.setCell (p:=⟨w.heap.size+1,0,none⟩) (zA) _).setCell (p:=⟨w.heap.size+1,1,none⟩) (zA) _).setCell (p:=⟨w.heap.size+1,2,none⟩) (zA) _)
def SA(e:Int)(n:Nat)(ps:List Int)(w:World)(r:Ending)(w':World):Prop:=
 ∃v,r= .returned v/\Below w.heap.size w w'/\∃i,i<=n/\(∀j,j<i->¬e<(bT ps j))/\(i<n->e<(bT ps i))/\fV w' w.heap.size v (ps.take i++[e]++ps.drop i)
theorem SB(e:Int)(x:Option Addr)(n c:Nat)(ps:List Int)(bf k:Nat)(w:World)(hp:IS w x n ps)(hn:n<=32)(hnc:n<=c)(hc63:c<=9223372036854775807)(hx:(x=none/\c=0)\/∃b o,x=some ⟨b,o,none⟩)
 (hby:w.cell? ⟨bf,0,none⟩=some (.func (.func 177) #[] #[])):
  Calls Tryz.prog 176 #[.slice x n c, .int .i64 e, .slice (some ⟨bf,0,none⟩) 1 k] w (SA e n ps w):=by
 have hB2:=bO w (.cells #[.int .i64 e] 3) (.cells #[.slice (some ⟨bf,0,none⟩) 1 k] 296);refine(GJ.2.2.2.2.2.1 _ _ aBb e x n c bf 1 k (flatI ps) (fun i=>decide (e<bT ps i)) w hp.rw (vD [e]) hn hnc hc63 hx (xH _ _ x n c ps _ _ (hp.later hB2) (by omega) (fun i hi W hW=>?_) iP.2.2.2.2.2.1.2)).mono ?_
 ·obtain⟨v,hv,hd⟩:=qY e (bT ps i);exact(iP.2.2.2.2.2.1.1 e (bT ps i) v w.heap.size (w.heap.size+1) bf 1 k W (fun i=>(hW.cell (p:=⟨w.heap.size,i,none⟩) (by show w.heap.size<_;simp;omega)).trans (by simp)) (cell_later hW (by simp)) fun W9 h9=>wL e _ v hv bf k W9 (cell_later h9 (cell_later hW (cell_later hB2 hby)))).mono fun _ _ h=>⟨h.1.trans (congrArg (fun t=>Ending.returned (.bool t)) hd.symm),h.2⟩
 ·rintro r w1 ⟨v,rfl,hb,i,hi,hlow,hup,ho⟩;exact⟨v,rfl,hb,i,hi,fun j hj=>of_decide_eq_false (hlow j hj),fun h=>of_decide_eq_true (hup h),kQ flatI (fun es=>(vC es).trans (Nat.mul_one _).symm) N7 hp.len hi ho⟩
open Go.RowKit Go.Shelf Go.Maps
theorem qO{D:DataW Unit}(h:w.ownsMap Tryz.prog 3 (plainElem Tryz.prog 3) bm n D)(hb:Below w.heap.size w w'):w'.ownsMap Tryz.prog 3 (plainElem Tryz.prog 3) bm n D:=by
 obtain⟨es,cl,h1,h2⟩:=h;exact⟨es,cl,aA hb h1,h2⟩
def OH(s:Sb)(w:World)(e:Ending)(w':World):Prop:=
 Below w.heap.size w w'/\((∃y,e= .returned (.tuple #[.int .i64 y, .bool true])/\rL s.a s.l y=true/\y∉bG s.fs/\∀z,s.a<z->z<y->z∈bG s.fs)\/(e= .returned (.tuple #[.int .i64 0, .bool false])/\∀z,rL s.a s.l z=true->z∈bG s.fs))
theorem OI(s:Sb)(w:World)(hrt:rt s.a s.l=true)(hp:sD w s.x s.n s.fs)(hn:s.n<=64)(hm:∀i,i<s.n->(fcAt s.fs i).n<=64)
 (hr:∀i,i<s.n->∀j,j<(fcAt s.fs i).n->0<=bT (fcAt s.fs i).ns j/\bT (fcAt s.fs i).ns j<=1000000):
  Calls Tryz.prog 224 #[.agg #[.int .i64 s.id, .int .i64 s.a, .int .i64 s.l, .slice s.x s.n s.c]] w (OH s w):=by
 obtain⟨h0,h1,h2,h3,h4⟩:=bE hrt;obtain⟨s0,s1⟩:=zW h0 h1;have hus:=fun x W=>usable_any s.a s.l x W hrt;go_enter Tryz.func224,Tryz.ntmps224;go_upto_region 1 with fail
 obtain⟨w0,hw0⟩:∃w0,w0=w.alloc (RT s):=⟨_,rfl⟩;rw[<-hw0];have hB0:Below w.heap.size w w0:=by rw[hw0];exact bl1 w _
 have hb0:w0.heap[w.heap.size]?=some (RT s):=by rw[hw0];exact aB _ rfl
 clear hw0;obtain⟨c0,c1,c2,c3⟩:=dL hb0 rfl rfl rfl rfl;have hzz:w.heap.size<w0.heap.size:=(zG hb0);go_wp2_with fail;refine(zY s.id s.a s.l s.x s.n s.c s.fs w0 (hp.later hB0) hn hm hr).mono ?_;rintro e w1 ⟨bm,D,rfl,hbm,hO,hC,hb1⟩;have hb1x:=aA hb1 hb0;have hB1:Below w.heap.size w w1:=hB0.trans (hb1.mono hB0.size);clear c0 c1 c2 c3;have c1:=aP hb1x 1 rfl;have hwr:IntKind.i64.wrap (s.a+1)=s.a+1:=by rw[IntKind.wrap_i64];omega
 go_wp2;clear c1 hwr;go_loopw [5] (fun i wr=>∃y:Int,i= .int .i64 y/\s.a<y/\y<=s.a+sp s.l+1/\(∀z,s.a<z->z<y->z∈bG s.fs)/\wr.ownsMap Tryz.prog 3 (plainElem Tryz.prog 3) bm (bG s.fs).length D/\wr.heap[w.heap.size]?=some (RT s)/\Below w.heap.size w wr) (fun i _=>(s.a+sp s.l+1- intOf i).toNat)
 case atStart=>exact⟨s.a+1,rfl,by omega,by omega,fun z h5 h6=>by omega,hO,hb1x,hB1⟩
 case round=>
  obtain⟨y,rfl,hy1,hy2,hall,hOr,hbr,hBr⟩:=hrel
  have d1:=aP hbr 1 rfl
  have d2:=aP hbr 2 rfl
  have hcall:=hus y wr
  cases hu:rL s.a s.l y with
  |false=>
   rw[hu]at hcall
   have hHy:Hid (∀z,rL s.a s.l z=true->z∈bG s.fs):=fun z hz=>by
    simp only[rL,Bool.and_eq_false_iff,decide_eq_false_iff_not,zH,decide_eq_true_eq]at hu hz;exact hall z hz.1 (by omega)
   clear hall hu
   go_wp2_with fail
   refine hcall.mono ?_
   rintro e w2 ⟨rfl,hb2⟩
   have hB2:=hBr.trans (hb2.mono hBr.size)
   go_wp2
   refine bodyPost_ret (v:= .tuple #[.int .i64 0, .bool false]) (by simp[results,Tryz.results224,go_sem]) rfl ?_
   exact⟨hB2, .inr ⟨rfl,hHy.out⟩⟩
  |true=>
   rw[hu]at hcall
   have hu':Hid (rL s.a s.l y=true):=hu
   have hyl:Hid (y<s.a+sp s.l- 1):=by
    simp only[rL,zH,decide_eq_true_eq]at hu;exact hu.2
   clear hu
   have hkey:keyOf Tryz.prog 3 (.int .i64 y)=some (.int .i64 y):=keyOf_int_mk under_int (fS (by omega) (by omega))
   have hat:=hC.at_ y
   have hall':Hid (∀z,s.a<z->z<y->z∈bG s.fs):=hall
   clear hall
   by_cases hmem:y∈bG s.fs
   ·have hcn:Hid (((bG s.fs).count y:Int)≠0):=by
     have:=List.count_pos_iff.2 hmem;unfold Hid;omega
    have hmem':Hid (y∈bG s.fs):=hmem;clear hmem;go_wp2_with fail;refine hcall.mono ?_;rintro e w2 ⟨rfl,hb2⟩;have hB2:=hBr.trans (hb2.mono hBr.size);have hO2:=qO hOr hb2;have hbx2:=aA hb2 hbr;have hwr:IntKind.i64.wrap (y+1)=y+1:=by rw[IntKind.wrap_i64];omega
    clear d1 d2 hcall;go_wp2_with (first|(at_lookup;refine wpList_lookup_own_int _ rfl _ _ 328 rfl 3 3 .i64 key_law under_uses under_int (zero_int _) bm _ _ rfl hO2 _ _ rfl hkey ?_;intro cc hat2 hwc;have hcc:¬cc=0:=(by rw[hat]at hat2;cases hat2;exact hcn.out))|go_in)
    go_roundw
    case rel=>exact⟨y+1,by go_num,by omega,by have:=hyl.out;omega,fun z h5 h6=>by
     by_cases e:z=y
     ·rw[e];exact hmem'.out
     ·exact hall'.out z h5 (by omega),hO2,hbx2,hB2⟩
    case measure=>simp[intOf];have:=hyl.out;omega
   ·have hcn:Hid ((bG s.fs).count y=0):=List.count_eq_zero.2 hmem;have hmem':Hid (y∉bG s.fs):=hmem;clear hmem;go_wp2_with fail;refine hcall.mono ?_;rintro e w2 ⟨rfl,hb2⟩;have hB2:=hBr.trans (hb2.mono hBr.size);have hO2:=qO hOr hb2;clear d1 d2 hcall;go_wp2_with (first|(at_lookup;refine wpList_lookup_own_int _ rfl _ _ 328 rfl 3 3 .i64 key_law under_uses under_int (zero_int _) bm _ _ rfl hO2 _ _ rfl hkey ?_;intro cc hat2 hwc;obtain rfl:cc=0:=(by rw[hat,hcn.out]at hat2;cases hat2;rfl))|go_in)
    refine bodyPost_ret (v:= .tuple #[.int .i64 y, .bool true]) (by simp[results,Tryz.results224,go_sem]) rfl ?_;exact⟨hB2, .inl ⟨y,rfl,hu'.out,hmem'.out,hall'.out⟩⟩
structure tJ(s:Sb)(y:Int):Prop where
 use:rL s.a s.l y=true
 free:y∉bG s.fs
 first:∀z,s.a<z->z<y->z∈bG s.fs
def OJ(s:Sb)(w:World)(e:Ending)(w':World):Prop:=
 Below w.heap.size w w'/\((∃y,e= .returned (.tuple #[.int .i64 y, .int .i64 0])/\tJ s y)\/(e= .returned (.tuple #[.int .i64 0, .int .i64 8])/\∀z,rL s.a s.l z=true->z∈bG s.fs))
theorem DG(s:Sb)(w:World)(hrt:rt s.a s.l=true)(hp:sD w s.x s.n s.fs)(hn:s.n<=64)(hm:∀i,i<s.n->(fcAt s.fs i).n<=64)
 (hr:∀i,i<s.n->∀j,j<(fcAt s.fs i).n->0<=bT (fcAt s.fs i).ns j/\bT (fcAt s.fs i).ns j<=1000000):
  Calls Tryz.prog 175 #[.agg #[.int .i64 s.id, .int .i64 s.a, .int .i64 s.l, .slice s.x s.n s.c]] w (OJ s w):=by
 go_enter Tryz.func175,Tryz.ntmps175;go_upto_region 1 with fail
 obtain⟨w0,hw0⟩:∃w0,w0=w.alloc (RT s):=⟨_,rfl⟩;rw[<-hw0];have hB0:Below w.heap.size w w0:=by rw[hw0];exact bl1 w _
 have hb0:w0.heap[w.heap.size]?=some (RT s):=by rw[hw0];exact aB _ rfl
 clear hw0;obtain⟨c0,c1,c2,c3⟩:=dL hb0 rfl rfl rfl rfl;have hl:=OI s w0 hrt (hp.later hB0) hn hm hr;clear hm hr;go_wp2_with fail;refine hl.mono ?_;rintro e w1 ⟨hb1,h⟩;have hB1:=hB0.trans (hb1.mono hB0.size);clear c0 c1 c2 c3 hl;rcases h with ⟨y,rfl,h1,h2,h3⟩|⟨rfl,h1⟩
 ·have hL:tJ s y:=⟨h1,h2,h3⟩;clear h1 h2 h3;go_wp2;refine bodyPost_ret (v:= .tuple #[.int .i64 y, .int .i64 0]) (by simp[results,Tryz.results175,go_sem]) rfl ?_;exact⟨hB1, .inl ⟨y,rfl,hL⟩⟩
 ·have hH:Hid (∀z,rL s.a s.l z=true->z∈bG s.fs):=h1;clear h1;go_wp2;refine bodyPost_ret (v:= .tuple #[.int .i64 0, .int .i64 8]) (by simp[results,Tryz.results175,go_sem]) rfl ?_;exact⟨hB1, .inr ⟨rfl,hH.out⟩⟩
def eS(s:Sb)(id:Int)(w:World)(e:Ending)(w':World):Prop:=
 Below w.heap.size w w'/\if dE id 1 65536=false then e= .returned (.tuple #[.int .i64 0, .int .i64 3])else if 0<=fstAt s.n (fun i=>(fcAt s.fs i).id==id)then e= .returned (.tuple #[.int .i64 0, .int .i64 6])else if s.n=8 then e= .returned (.tuple #[.int .i64 0, .int .i64 2])else
  (∃y,e= .returned (.tuple #[.int .i64 y, .int .i64 0])/\tJ s y)\/(e= .returned (.tuple #[.int .i64 0, .int .i64 8])/\∀z,rL s.a s.l z=true->z∈bG s.fs)
theorem eS.c3{id:Int}(h:dE id 1 65536=false)(hb:Below w.heap.size w w'):eS s id w (.returned (.tuple #[.int .i64 0, .int .i64 3])) w':=⟨hb,by rw[if_pos h]⟩
theorem eS.c6{id:Int}(h:dE id 1 65536=true)(h2:0<=fstAt s.n (fun i=>(fcAt s.fs i).id==id))(hb:Below w.heap.size w w'):eS s id w (.returned (.tuple #[.int .i64 0, .int .i64 6])) w':=⟨hb,by rw[if_neg (by simp[h]),if_pos h2]⟩
theorem eS.c2{id:Int}(h:dE id 1 65536=true)(h2:¬0<=fstAt s.n (fun i=>(fcAt s.fs i).id==id))(h3:s.n=8)(hb:Below w.heap.size w w'):eS s id w (.returned (.tuple #[.int .i64 0, .int .i64 2])) w':=⟨hb,by rw[if_neg (by simp[h]),if_neg h2,if_pos h3]⟩
theorem eS.c0{id:Int}(h:dE id 1 65536=true)(h2:¬0<=fstAt s.n (fun i=>(fcAt s.fs i).id==id))(h3:¬s.n=8)(hb:Below w.heap.size w w')(hh:(∃y,e= .returned (.tuple #[.int .i64 y, .int .i64 0])/\tJ s y)\/(e= .returned (.tuple #[.int .i64 0, .int .i64 8])/\∀z,rL s.a s.l z=true->z∈bG s.fs)):eS s id w e w':=⟨hb,by rw[if_neg (by simp[h]),if_neg h2,if_neg h3];exact hh⟩
theorem E6(s:Sb)(id:Int)(w:World)(hrt:rt s.a s.l=true)(hp:sD w s.x s.n s.fs)(hn:s.n<=64)(hm:∀i,i<s.n->(fcAt s.fs i).n<=64)
 (hr:∀i,i<s.n->∀j,j<(fcAt s.fs i).n->0<=bT (fcAt s.fs i).ns j/\bT (fcAt s.fs i).ns j<=1000000):
  Calls Tryz.prog 171 #[.agg #[.int .i64 s.id, .int .i64 s.a, .int .i64 s.l, .slice s.x s.n s.c], .int .i64 id] w (eS s id w):=by
 have hgv:=fun W h=>DG s W hrt h hn hm hr;clear hm hr;go_enter Tryz.func171,Tryz.ntmps171;go_upto_region 1 with fail
 obtain⟨w0,hw0⟩:∃w0,w0=w.alloc (RT s):=⟨_,rfl⟩;rw[<-hw0];have hB0:Below w.heap.size w w0:=by rw[hw0];exact bl1 w _
 have hb0:w0.heap[w.heap.size]?=some (RT s):=by rw[hw0];exact aB _ rfl
 clear hw0;obtain⟨c0,c1,c2,c3⟩:=dL hb0 rfl rfl rfl rfl
 cases hid:dE id 1 65536 with
 |false=>
  have hid':Hid (dE id 1 65536=false):=hid
  go_wp2_with fail
  refine(isId_is id false hid _).mono ?_
  rintro e w1 ⟨rfl,rfl⟩
  clear hid
  go_wp2
  refine bodyPost_ret (v:= .tuple #[.int .i64 0, .int .i64 3]) (by simp[results,Tryz.results171,go_sem]) rfl ?_
  exact eS.c3 hid'.out hB0
 |true=>
  have hid':Hid (dE id 1 65536=true):=hid
  go_wp2_with fail
  refine(isId_is id true hid _).mono ?_
  rintro e w1 ⟨rfl,rfl⟩
  clear hid
  have hfp:=qN s id w1 (hp.later hB0) (by omega)
  generalize hfe:fstAt s.n (fun i=>(fcAt s.fs i).id==id)=fp at hfp
  have hfe':Hid (fstAt s.n (fun i=>(fcAt s.fs i).id==id)=fp):=hfe
  clear hfe
  by_cases hge:0<=fp
  ·go_wp2_with fail;refine hfp.mono ?_;rintro e w2 ⟨rfl,hb2⟩;have hB2:=hB0.trans (hb2.mono hB0.size);go_wp2;refine bodyPost_ret (v:= .tuple #[.int .i64 0, .int .i64 6]) (by simp[results,Tryz.results171,go_sem]) rfl ?_;exact eS.c6 hid'.out (by rw[hfe'.out];exact hge) hB2
  ·go_wp2_with fail;refine hfp.mono ?_;rintro e w2 ⟨rfl,hb2⟩;have hB2:=hB0.trans (hb2.mono hB0.size);have hbx:=aA hb2 hb0;clear c0 c1 c2 c3;obtain⟨c0,c1,c2,c3⟩:=dL hbx rfl rfl rfl rfl;by_cases h8:s.n=8
   ·go_wp2;refine bodyPost_ret (v:= .tuple #[.int .i64 0, .int .i64 2]) (by simp[results,Tryz.results171,go_sem]) rfl ?_;exact eS.c2 hid'.out (by rw[hfe'.out];omega) h8 hB2
   ·have hl:=hgv w2 (hp.later hB2);clear hgv;go_wp2_with fail;refine hl.mono ?_;rintro e w3 ⟨hb3,h⟩;have hB3:=hB2.trans (hb3.mono hB2.size);clear c0 c1 c2 c3 hl;rcases h with ⟨y,rfl,hL⟩|⟨rfl,h1⟩
    ·go_wp2;refine bodyPost_ret (v:= .tuple #[.int .i64 y, .int .i64 0]) (by simp[results,Tryz.results171,go_sem]) rfl ?_;exact eS.c0 hid'.out (by rw[hfe'.out];omega) h8 hB3 (.inl ⟨y,rfl,hL⟩)
    ·have hH:Hid (∀z,rL s.a s.l z=true->z∈bG s.fs):=h1;clear h1;go_wp2;refine bodyPost_ret (v:= .tuple #[.int .i64 0, .int .i64 8]) (by simp[results,Tryz.results171,go_sem]) rfl ?_;exact eS.c0 hid'.out (by rw[hfe'.out];omega) h8 hB3 (.inr ⟨rfl,hH.out⟩)
theorem rO(h:bD vid rn rs sn ss=0):dE vid 1 65536=true/\EY rn rs=true/\B5 rn rs sn ss=true:=by
 unfold bD at h;split at h
 ·omega
 ·split at h
  ·rename_i hw;simp only[zH]at hw;exact⟨hw.1.1,hw.1.2,hw.2⟩
  ·omega
theorem HU(h:bD vid rn rs sn ss=0):∀i,i<sn->rt (sbAt ss i).a (sbAt ss i).l=true/\
  ∀k,k<(sbAt ss i).n->∀j,j<(fcAt (sbAt ss i).fs k).n->0<=bT (fcAt (sbAt ss i).fs k).ns j/\bT (fcAt (sbAt ss i).fs k).ns j<=1000000:=fun i hi=>by
 obtain⟨-, -,hs⟩:=rO h;unfold B5 at hs;rw[zH,List.all_eq_true]at hs;have h1:=hs.1 i (by simpa using hi);unfold tA at h1;simp only[zH]at h1;have hrt:=RW h1.1.1;refine⟨hrt,fun k hk j hj=>?_⟩;have hf:=h1.2;unfold sZ at hf;simp only[zH,List.all_eq_true]at hf;have h2:=hf.1.1 k (by simpa using hk);unfold qL at h2;simp only[zH]at h2;exact zZ hrt (XG h2.2 j hj)
end Go.Proofs.YtjphnaccgfjnjaaGreatDoor
namespace Go.Proofs.YtjphnaccgfjnjaaGreatDoor.Z
variable {fs gs : List Fc} {i base gf kf cf b g n bm rn sn c hx ln : Nat} {w w' w6 w7 W : World} {v vR V : Value} {ts ss : List Sb} {cur curf : Array Value} {o oi : Oper} {vid y z E : Int} {s : Sb} {e : Ending} {rs : List Rg} {T : Nat → Bool} {listed : Array Bool} {P : Program} {ops : Array Oper} {Q : Exit → Act → World → Prop} {S C : World → Prop} {l rest : List Oper} {a A : Act} {x : Option Addr} {ns : List Int} {vs : List Vn} {r : Option Nat} {ls : List (Int × Int)}
open Go.RowKit
def KJ(T:Nat->Bool)(listed:Array Bool):Prop:=∀j,listed.getD j false=true->T j=true
theorem KJ.back(h:KJ T (listed.setIfInBounds i true)):KJ T listed:=fun j hj=>h j (getD_set_true hj)
theorem KJ.at(h:KJ T (listed.setIfInBounds i true))(hi:listed.getD i true=false):T i=true:=by
 refine h i ?_;have hl:i<listed.size:=by
  by_cases e:i<listed.size
  ·exact e
  ·rw[Array.getD_eq_getD_getElem?,Array.getElem?_eq_none (by omega)]at hi
   cases hi
 rw[Array.getD_eq_getD_getElem?,Array.getElem?_setIfInBounds_self_of_lt hl];rfl
theorem KJ.set(h:KJ T listed)(hi:T i=true):KJ T (listed.setIfInBounds i true):=fun j hj=>by
 by_cases e:i=j
 ·subst e;exact hi
 ·rw[getD_set_ne false e]at hj;exact h j hj
def qE(P:Program)(ops:Array Oper)(Q:Exit->Act->World->Prop)(S:World->Prop)(T:Nat->Bool):Nat->Array Bool->Act->World->Prop
 |0,listed,a,w=>Region.ready .any ops listed=[]/\Q .normal a w
 |f+1,listed,a,w=>(Region.ready .any ops listed=[]->Q .normal a w)/\∀i∈Region.ready .any ops listed,wpOp P ops Q i (fun a' w'=>(KJ T (listed.setIfInBounds i true)->S w')/\qE P ops Q S T f (listed.setIfInBounds i true) a' w') a w
theorem pH:∀(f:Nat) (listed:Array Bool) (a:Act) (w:World),qE P ops Q S T f listed a w->wpAny P .any ops Q f listed a w
 |0,_,_,_,h=>h
 |f+1,_,_,_,h=>⟨h.1,fun i hi=>wpOp_mono (fun a' w' h'=>pH f _ a' w' h'.2) (h.2 i hi)⟩
theorem uG(hi:ops[i]?=some oi)(hsel:∀(j:Nat) (o:Oper) cs b,ops[j]?=some o->o.op≠ .select cs b)
 (hQ:∀d v c a w,Q (.panic c) (Act.put a d v) w->Q (.panic c) a w)(hTi:T i=true)(hC:(∀w,C w)\/((∀w,S w->C w)/\∀j,T j=false->j<ops.size->lB ops ops.size j i=true)):
  ∀(f:Nat) (listed:Array Bool) (a:Act) (w:World),nT ops listed->(KJ T listed\/∀w,C w)->
   (∀j oj,ops[j]?=some oj->j≠i->listed.getD j true=false->(∀e∈oj.after,Region.binds .any e=true->e.on≠i)->oi.apart ops oj=true)->
   i∈Region.ready .any ops listed->YieldsIf P ops C oi v a->(KJ T listed->S w)->
   qE P ops Q S T f (listed.setIfInBounds i true) (a.put oi.dst v) w->qE P ops Q S T (f+1) listed a w:=by
 intro f;have hCw:∀(listed:Array Bool) (w:World),(KJ T listed\/∀w,C w)->(KJ T listed->S w)->C w:=fun listed w ho hS=>by
  rcases ho with ho|ho
  ·rcases hC with hC|hC
   ·exact hC w
   ·exact hC.1 w (hS ho)
  ·exact ho w
 induction f with
 |zero=>
  intro listed a w _ ho _ hr hy hS H
  refine⟨fun h=>(by rw[h]at hr;cases hr),fun j hj=>?_⟩
  by_cases hji:j=i
  ·subst hji;exact hy.wpOp hi (hCw listed w ho hS) ⟨fun h=>hS h.back,H⟩
  ·have:=ready_mono hj hji;rw[H.1]at this
   cases this
 |succ f ih=>
  intro listed a w hsh ho hfree hr hy hS H
  refine⟨fun h=>(by rw[h]at hr;cases hr),fun j hj=>?_⟩
  by_cases hji:j=i
  ·subst hji;exact hy.wpOp hi (hCw listed w ho hS) ⟨fun h=>hS h.back,H⟩
  ·have h1:=H.2 j (ready_mono hj hji);obtain⟨hjun,oj,hoj,hall⟩:=mem_ready.1 hj;have h0:=(mem_ready.1 hr).1;have hnot:∀e∈oj.after,Region.binds .any e=true->e.on≠i:=fun e he hb heq=>by
    have h1:=hall e he hb;rw[heq,getD_both h0]at h1
    cases h1
   have ho':KJ T (listed.setIfInBounds j true)\/∀w,C w:=by
    rcases hC with hC|hC
    ·exact .inr hC
    ·rcases ho with ho|ho
     ·cases hT:T j with
      |true=>exact .inl (ho.set hT)
      |false=>
       have h2:=nU hsh ops.size j i (hC.2 j hT (zG hoj)) (fun ok hok e he hb=>by
        have:ok=oj:=Option.some.inj (hok.symm.trans hoj);subst this;exact hall e he hb)
       rw[getD_both h0]at h2
       cases h2
     ·exact .inr ho
   have h2:=wpOp_putIf hoj (hfree j oj hoj hji hjun hnot) (fun cs b=>hsel i oi cs b hi) (fun cs b=>hsel j oj cs b hoj) (fun c a w=>hQ _ _ c a w) hy h1;have hfree':∀k ok,ops[k]?=some ok->k≠i->(listed.setIfInBounds j true).getD k true=false->
     (∀e∈ok.after,Region.binds .any e=true->e.on≠i)->oi.apart ops ok=true:=fun k ok hk hki hun hno=>by
    refine hfree k ok hk hki ?_ hno;by_cases hjk:j=k
    ·subst hjk;exact hjun
    ·rw[getD_set_ne true hjk]at hun;exact hun
   refine wpOp_mono (fun a' w' h3=>⟨fun h=>?_,ih (listed.setIfInBounds j true) a' w' (hsh.set hj) ho' hfree' (ready_mono hr (Ne.symm hji)) h3.1 (fun h=>?_) ?_⟩) h2
   ·exact h3.2.1 (by rw[Array.setIfInBounds_comm _ _ (Ne.symm hji)];exact h.set hTi)
   ·exact h3.2.1 (by rw[Array.setIfInBounds_comm _ _ (Ne.symm hji)];exact h.set hTi)
   ·rw[Array.setIfInBounds_comm _ _ hji];exact h3.2.2
theorem xU(hsel:Region.noSelect l.toArray=true)
 (hQ:∀d v c a w,Q (.panic c) (Act.put a d v) w->Q (.panic c) a w)(D:Array Bool)(hS:S w):
  ∀(hs:List Nat) (listed:Array Bool) (a:Act),(∀i∈hs,i<l.length/\NA (l.getD i lK)=true/\T i=true/\((∀w,C w)\/((∀w,S w->C w)/\∀j,T j=false->j<l.toArray.size->lB l.toArray l.toArray.size j i=true)))->nT l.toArray listed->(KJ T listed\/∀w,C w)->sE l.toArray hs listed=true->iU hs listed=D->
   wpQuiet P l.toArray C (fun a'=>qE P l.toArray Q S T g D a' w) (hs.map fun i=>l.getD i lK) a->qE P l.toArray Q S T (hs.length+g) listed a w
 |[],listed,a,_,hsh,_,_,hd,h=>by
  rw[List.length_nil,Nat.zero_add];subst hd;exact h
 |i::is,listed,a,hh,hsh,ho,hB,hd,h=>by
  obtain⟨hil,hpl,hTi,hwt⟩:=hh i (by simp);have h0:=lP hil;simp only[sE,zH]at hB;have hr:i∈Region.ready .any l.toArray listed:=by simpa using hB.1.1
  have hq:qOp P l.toArray C i (wpQuiet P l.toArray C (fun a'=>qE P l.toArray Q S T g D a' w) (is.map fun i=>l.getD i lK)) a:=by unfold qOp;simp only[h0];exact h
  obtain⟨v,hy,hKK⟩:=yieldsIn_of_qOp h0 hq;rw[List.length_cons,show is.length+1+g=(is.length+g)+1 by omega];refine uG h0 (Region.noSelect_spec hsel) hQ hTi hwt (is.length+g) listed a w hsh ho (Region.free_spec h0 hB.1.2) hr (qW hpl hy) (fun _=>hS) ?_;exact xU hsel hQ D hS is _ _ (fun k hk=>hh k (by simp[hk])) (hsh.set hr) (ho.imp (fun g=>g.set hTi) id) hB.2 hd hKK
structure Wx:Type where
 val:World
@[simp] theorem Wx.all_const(p:Prop):(Wx->p)↔p:=⟨fun h=>h ⟨default⟩,fun h _=>h⟩
theorem Wx.any(w:World):∃u:Wx,w=u.val:=⟨⟨w⟩,rfl⟩
theorem fM{Q Q':Act->Prop}(h:∀a,Q a->Q' a):∀(l:List Oper) (a:Act),wpQuiet P ops C Q l a->wpQuiet P ops C Q' l a
 |[],a,g=>h a g
 |o::l,a,g=>by
  unfold wpQuiet at g⊢;split
  ·rename_i hw;rw[if_pos hw]at g;exact Oper.quiet_mono (fM h l) g
  ·rename_i hw;rw[if_neg hw]at g;exact fM h l _ g
theorem bB:∀(ts:List Nat) (listed:Array Bool) (a:Act) (w:World),(∀i∈ts,i<l.length/\T i=false)->
  xE l.toArray ts listed=true->wpList P l.toArray Q (ts.map fun i=>l.getD i lK) a w->qE P l.toArray Q S T ts.length listed a w
 |[],_,_,_,_,hB,h=>⟨by simpa[xE]using hB,h⟩
 |i::ts,listed,a,w,hh,hB,h=>by
  obtain⟨hil,hT⟩:=hh i (by simp);have h0:=lP hil;simp only[xE,zH,decide_eq_true_eq]at hB;refine⟨fun h1=>(by rw[hB.1]at h1;cases h1),fun k hk=>?_⟩;have hun:=(mem_ready.1 hk).1;rw[hB.1]at hk;have hik:k=i:=by simpa using hk
  subst hik;have hw:wpOp P l.toArray Q k (wpList P l.toArray Q (ts.map fun i=>l.getD i lK)) a w:=by unfold wpOp;simp only[h0];exact h
  exact wpOp_mono (fun a' w' h'=>⟨fun h=>absurd (h.at hun) (by rw[hT];decide),bB ts _ a' w' (fun i hi=>hh i (by simp[hi])) hB.2 h'⟩) hw
def qX(ts:List Nat)(j:Nat):Bool:=!(ts.contains j)
def aCu(l:List Oper)(hs:List Nat)(c:Nat)(ps ts:List Nat):Bool:=
 Region.noSelect l.toArray&&wE l.toArray (Array.replicate l.toArray.size false)&&sE l.toArray hs (Array.replicate l.toArray.size false)&&(hs.all fun i=>decide (i<l.length)&&NA (l.getD i lK)&&qX ts i&&(List.range l.toArray.size).all fun j=>qX ts j||lB l.toArray l.toArray.size j i)&&
 decide (Region.ready .any l.toArray (iU hs (Array.replicate l.toArray.size false))=[c])&&decide (c<l.length)&&qX ts c&&
 (ps.all fun i=>decide (i<l.length)&&NA (l.getD i lK)&&qX ts i)&&wE l.toArray ((iU hs (Array.replicate l.toArray.size false)).setIfInBounds c true)&&sE l.toArray ps ((iU hs (Array.replicate l.toArray.size false)).setIfInBounds c true)&&
 xE l.toArray ts (iU ps ((iU hs (Array.replicate l.toArray.size false)).setIfInBounds c true))&&(ts.all fun i=>decide (i<l.length)&&!(qX ts i))&&decide (hs.length+(ps.length+ts.length+1)=l.toArray.size)
structure YA(P:Program)(l:List Oper)(Q:Exit->Act->World->Prop)(w:World)(ps ts:List Oper)(K:Act->World->Prop):Prop where
 out:∀a' w',Below w.heap.size w w'->wpQuiet P l.toArray (fun w'=>∃u:Wx,w'=u.val) (fun a''=>wpList P l.toArray Q ts a'' w') ps a'->K a' w'
end Go.Proofs.YtjphnaccgfjnjaaGreatDoor.Z
namespace Go.Proofs.YtjphnaccgfjnjaaGreatDoor
variable {fs gs : List Fc} {i base gf kf cf b g n bm rn sn c hx ln : Nat} {w w' w6 w7 W : World} {v vR V : Value} {ts ss : List Sb} {cur curf : Array Value} {o oi : Oper} {vid y z E : Int} {s : Sb} {e : Ending} {rs : List Rg} {T : Nat → Bool} {listed : Array Bool} {P : Program} {ops : Array Oper} {Q : Exit → Act → World → Prop} {S C : World → Prop} {l rest : List Oper} {a A : Act} {x : Option Addr} {ns : List Int} {vs : List Vn} {r : Option Nat} {ls : List (Int × Int)}
open Go.RowKit
theorem aT{id:Nat}(hs:List Nat)(c:Nat)(ps ts:List Nat)(hm:P.follows .mixedOrders=true)(hB:Z.aCu l hs c ps ts=true)(hQ:∀d v c a w,Q (.panic c) (Act.put a d v) w->Q (.panic c) a w)
 (h:wpQuiet P l.toArray (fun w'=>∃u:Ws w.heap.size w,w'=u.val) (fun a'=>∀K,Z.YA P l Q w (ps.map fun i=>l.getD i lK) (ts.map fun i=>l.getD i lK) K->wpList P l.toArray (mY K Q) [l.getD c lK] a' w.drew) (hs.map fun i=>l.getD i lK) a):(Code.region id l.toArray true).wp P Q a w:=by
 simp only[Z.aCu,zH,decide_eq_true_eq,List.all_eq_true,Bool.not_eq_true']at hB;obtain⟨⟨⟨⟨⟨⟨⟨⟨⟨⟨⟨⟨h1,h2⟩,h3⟩,h4⟩,h5⟩,h6⟩,h7⟩,h8⟩,h9⟩,h10⟩,h11⟩,h12⟩,h13⟩:=hB;refine wp_region_any hm (Z.pH (S:=fun w'=>∃u:Ws w.heap.size w,w'=u.val) (T:=Z.qX ts) _ _ _ _ ?_);have hok:Z.KJ (Z.qX ts) (Array.replicate l.toArray.size false):=fun j hj=>by
  rw[Array.getD_eq_getD_getElem?,Array.getElem?_replicate]at hj;split at hj<;>cases hj
 have key:∀f,f=hs.length+(ps.length+ts.length+1)->Z.qE P l.toArray Q (fun w'=>∃u:Ws w.heap.size w,w'=u.val) (Z.qX ts) f (Array.replicate l.toArray.size false) a w.drew:=?_
 ·exact key _ h13.symm
 intro f hf;subst hf;refine Z.xU (C:=fun w'=>∃u:Ws w.heap.size w,w'=u.val) h1 hQ _ ⟨⟨_,(zD).drew⟩,rfl⟩ hs _ _ (fun i hi=>?_) (gK h2) (.inl hok) h3 rfl ?_
 ·obtain⟨⟨⟨g1,g2⟩,g3⟩,g4⟩:=h4 i hi;refine⟨g1,g2,g3, .inr ⟨fun _ g=>g,fun j hj hjs=>?_⟩⟩;have:=g4 j (List.mem_range.2 hjs);rw[hj,Bool.false_or]at this;exact this
 refine Z.fM (fun a' g=>?_) _ _ h;refine⟨fun e=>(by rw[h5]at e;cases e),fun j hj=>?_⟩;rw[h5]at hj;obtain rfl:j=c:=by simpa using hj
 refine eJ h6 (g _ ⟨fun a2 w2 hb2 g2=>⟨fun _=>⟨⟨w2,hb2⟩,rfl⟩,?_⟩⟩);refine Z.xU (C:=fun w'=>∃u:Z.Wx,w'=u.val) h1 hQ _ ⟨⟨w2,hb2⟩,rfl⟩ ps _ _ (fun i hi=>?_) (gK h9) (.inr Z.Wx.any) h10 rfl ?_
 ·obtain⟨⟨g1,g2⟩,g3⟩:=h8 i hi;exact⟨g1,g2,g3, .inl Z.Wx.any⟩
 exact Z.fM (fun a3 g3=>Z.bB ts _ _ _ h12 h11 g3) _ _ g2
open Go.RowKit Go.Shelf
structure oT(sn:Nat)(ss:List Sb)(sub:Int)(i:Nat):Prop where
 isn:i<sn
 sid:(sbAt ss i).id=sub
 sno:∀k,k<i->(sbAt ss k).id≠sub
def iN(s:Sb)(E y:Int):Prop:=(E=0/\tJ s y)\/(E=8/\y=0/\∀z,rL s.a s.l z=true->z∈bG s.fs)
theorem tJ.one(h:tJ s y)(g:tJ s z):y=z:=by
 rcases Int.lt_trichotomy y z with hyz|hyz|hyz
 ·have hu:=h.use;unfold rL at hu;simp only[zH,decide_eq_true_eq]at hu;exact absurd (g.first y hu.1 hyz) h.free
 ·exact hyz
 ·have hu:=g.use;unfold rL at hu;simp only[zH,decide_eq_true_eq]at hu;exact absurd (h.first z hu.1 hyz) g.free
theorem iN.one{E' y':Int}(h:iN s E y)(g:iN s E' y'):E=E'/\y=y':=by
 rcases h with ⟨rfl,h⟩|⟨rfl,rfl,h⟩
 ·rcases g with ⟨rfl,g⟩|⟨rfl,rfl,g⟩
  ·exact⟨rfl,h.one g⟩
  ·exact absurd (g y h.use) h.free
 ·rcases g with ⟨rfl,g⟩|⟨rfl,rfl,g⟩
  ·exact absurd (h y' g.use) g.free
  ·exact⟨rfl,rfl⟩
def lF(s:Sb)(id:Int):Int:=if dE id 1 65536=false then 3 else if 0<=fstAt s.n (fun i=>(fcAt s.fs i).id==id)then 6 else if s.n=8 then 2 else 0
def tK(s:Sb)(id E y:Int):Prop:=(lF s id≠0->E=lF s id/\y=0)/\(lF s id=0->iN s E y)
theorem eS.rel{id:Int}(h:eS s id w e w'):Below w.heap.size w w'/\∃y E,e= .returned (.tuple #[.int .i64 y, .int .i64 E])/\tK s id E y:=by
 refine⟨h.1,?_⟩;have h2:=h.2;unfold tK lF;by_cases c1:dE id 1 65536=false
 ·rw[if_pos c1]at h2⊢;exact⟨0,3,h2,fun _=>⟨rfl,rfl⟩,fun h=>absurd h (by decide)⟩
 ·rw[if_neg c1]at h2⊢;by_cases c2:0<=fstAt s.n (fun i=>(fcAt s.fs i).id==id)
  ·rw[if_pos c2]at h2⊢;exact⟨0,6,h2,fun _=>⟨rfl,rfl⟩,fun h=>absurd h (by decide)⟩
  ·rw[if_neg c2]at h2⊢;by_cases c3:s.n=8
   ·rw[if_pos c3]at h2⊢;exact⟨0,2,h2,fun _=>⟨rfl,rfl⟩,fun h=>absurd h (by decide)⟩
   ·rw[if_neg c3]at h2⊢;rcases h2 with ⟨y,h2,h3⟩|⟨h2,h3⟩
    ·exact⟨y,0,h2,fun h=>absurd rfl h,fun _=> .inl ⟨rfl,h3⟩⟩
    ·exact⟨0,8,h2,fun h=>absurd rfl h,fun _=> .inr ⟨rfl,rfl,h3⟩⟩
theorem tK.zero{id:Int}(h:tK s id E y)(hE:E≠0):y=0:=by
 by_cases c:lF s id=0
 ·rcases h.2 c with ⟨h1, -⟩|⟨-,h1, -⟩
  ·exact absurd h1 hE
  ·exact h1
 ·exact(h.1 c).2
def fC(A:Int->Int->Prop)(R:World->Value->Int->Prop)(w:World)(e:Ending)(w':World):Prop:=
 ∃V y E,e= .returned (.tuple #[V, .int .i64 y, .int .i64 E])/\Below w.heap.size w w'/\A E y/\(E≠0->V= .agg #[.int .i64 0, .slice none 0 0, .slice none 0 0]/\y=0)/\(E=0->R w' V y)
theorem fC.err{A:Int->Int->Prop}{R:World->Value->Int->Prop}(hA:A E 0)(hE:E≠0)(hb:Below w.heap.size w w'):fC A R w (.returned (.tuple #[.agg #[.int .i64 0, .slice none 0 0, .slice none 0 0], .int .i64 0, .int .i64 E])) w':=
 ⟨_,0,E,rfl,hb,hA,fun _=>⟨rfl,rfl⟩,fun h=>absurd h hE⟩
theorem fC.ok{A:Int->Int->Prop}{R:World->Value->Int->Prop}(hA:A 0 y)(hb:Below w.heap.size w w')(h:R w' V y):fC A R w (.returned (.tuple #[V, .int .i64 y, .int .i64 0])) w':=
 ⟨_,y,0,rfl,hb,hA,fun h=>absurd rfl h,fun _=>h⟩
def kC(vid:Int)(rn:Nat)(rs:List Rg)(sn:Nat)(ss:List Sb)(sub id E y:Int):Prop:=
 if bD vid rn rs sn ss≠0 then E=bD vid rn rs sn ss/\y=0 else((∀i,i<sn->(sbAt ss i).id≠sub)/\E=5/\y=0)\/∃i,oT sn ss sub i/\tK (sbAt ss i) id E y
def wR(e:Fc)(qs rs:List Fc):Prop:=∃i,i<=qs.length/\(∀j,j<i->¬e.id<(fcAt qs j).id)/\(i<qs.length->e.id<(fcAt qs i).id)/\rs=qs.take i++[e]++qs.drop i
def aBc(vid:Int)(rn:Nat)(rs:List Rg)(sn:Nat)(ss:List Sb)(sub id:Int)(base:Nat)(w:World)(V:Value)(y:Int):Prop:=
 bD vid rn rs sn ss=0/\∃ts i x n c fx gs,oT sn ss sub i/\tK (sbAt ss i) id 0 y/\bQ ss ts/\wR ⟨id,fx,1,1,[y]⟩ (sbAt ts i).fs gs/\n=gs.length/\HS w base vid V rs (ts.set i (cX (sbAt ts i) x n c gs))
theorem iR.give(h:iR w base v ts ts.length)(hO:mM w base (.slice x n c) gs gs.length):xR w base (ts.set i (cX (sbAt ts i) x n c gs)):=fun s hs=>by
 obtain⟨k,hk,rfl⟩:=List.getElem_of_mem hs;have hk':k<ts.length:=by simpa using hk
 rw[List.getElem_set];by_cases e:i=k
 ·rw[if_pos e];exact hO
 ·rw[if_neg e];have e2:sbAt ts k=ts[k]:=by unfold sbAt;rw[zF,List.getElem?_eq_getElem hk'];rfl
  rw[<-e2];exact h.own k hk'
theorem HV(h:W.heap[hx]?=some (.cells #[.int .i64 y] 3))(hb:base<=hx):fV W base (.slice (some ⟨hx,0,none⟩) 1 1) [y]:=
 ⟨rfl, .inr ⟨hx,1,#[.int .i64 y],rfl,hb,h,by simp,by unfold maxLen;omega,by simp,rfl⟩⟩
theorem aBd(h:eB w base (.slice x n c) fs):(x=none/\c=0)\/∃b o,x=some ⟨b,o,none⟩:=by
 rcases h.2 with ⟨h, -⟩|⟨g,cap,cur,h, -⟩
 ·simp only[Value.slice.injEq]at h;exact .inl ⟨h.1,h.2.2⟩
 ·simp only[Value.slice.injEq]at h;exact .inr ⟨g,0,h.1⟩
theorem OK(vid:Int)(rx:Option Addr)(rn rc:Nat)(rs:List Rg)(sx:Option Addr)(sn sc:Nat)(ss:List Sb)(sub id:Int)(w:World)(hv:Vp w rx rn rc rs sx sn sc ss)(hrn:rn<=9223372036854775807)(hsn:sn<=9223372036854775807)(hrc:rc<=9223372036854775807):
  Calls Tryz.prog 104 #[.agg #[.int .i64 vid, .slice rx rn rc, .slice sx sn sc], .int .i64 sub, .int .i64 id] w (fC (kC vid rn rs sn ss sub id) (aBc vid rn rs sn ss sub id w.heap.size) w):=by
 have hsl:Hid (ss.length=sn):=hv.subs.len;go_enter Tryz.func104,Tryz.ntmps104;go_upto_region 1 with fail
 obtain⟨w0,hw0⟩:∃w0,w0=(w.alloc (cY vid (.slice rx rn rc) (.slice sx sn sc))).alloc (cY 0 (.slice none 0 0) (.slice none 0 0)):=⟨_,rfl⟩;rw[<-hw0];have hT0:TN w w0 vid rx rn rc sx sn sc:=by
  rw[hw0];exact⟨aG _ (aB _ rfl),aB _ (by simp),bO w _ _⟩
 clear hw0;obtain⟨b0,b1,b2⟩:=bI hT0.hb rfl rfl rfl;obtain⟨s0,s1,s2⟩:=bI hT0.hs rfl rfl rfl;obtain⟨zs0,zs1,zs2⟩:=dQ hT0.hs;have hck:=checkV_any vid rx rn rc rs sx sn sc ss w0 (hv.later hT0.below) hrn hsn hrc;by_cases hc0:bD vid rn rs sn ss=0
 ·rw[hc0]at hck;obtain⟨f1,f2,f3,f4⟩:=dU hc0;have hcs:=HU hc0;have hA0:Hid (∀i y,oT sn ss sub i->∀{E},tK (sbAt ss i) id E y->kC vid rn rs sn ss sub id E y):=fun i y h1 E h2=>by
   unfold kC;rw[if_neg (by simp[hc0])];exact .inr ⟨i,h1,h2⟩
  have hA5:Hid ((∀i,i<sn->(sbAt ss i).id≠sub)->kC vid rn rs sn ss sub id 5 0):=fun h=>by
   unfold kC;rw[if_neg (by simp[hc0])];exact .inl ⟨h,rfl,rfl⟩
  have hcz:Hid (bD vid rn rs sn ss=0):=hc0;clear hc0;go_wp2_with fail;refine(hck).mono ?_;rintro e w1 ⟨rfl,hbw1⟩;have hT1:=hT0.later hbw1;clear b0 b1 b2 s0 zs0 s1 zs1 s2 zs2;obtain⟨b0,b1,b2⟩:=bI hT1.hb rfl rfl rfl;obtain⟨s0,s1,s2⟩:=bI hT1.hs rfl rfl rfl;obtain⟨zs0,zs1,zs2⟩:=dQ hT1.hs;have hsp:=fun t h=>wP vid sub rx rn rc sx sn sc ss t h w1 (hv.later hT1.below).subs (by omega);rcases fstAt_cases sn (fun i=>(sbAt ss i).id==sub)with ⟨i,hi,hf,hno,hfp⟩|⟨hno,hfp⟩
  ·have hsp':=hsp _ hfp;clear hsp hfp;have hSA:Hid (oT sn ss sub i):=⟨hi,by simpa using hf,fun j hj=>by simpa using hno j hj⟩;clear hf hno;have hi':Hid (i<sn):=hi;have hn8:=f3 i hi;obtain⟨b,o,rfl,c0,c1,c2,c3⟩:=hv.subs.cells i hi;go_wp2_with fail;refine(hsp').mono ?_;rintro e w2 ⟨rfl,hbw2⟩;have hT2:=hT1.later hbw2;clear b0 b1 b2 s0 zs0 s1 zs1 s2 zs2;obtain⟨b0,b1,b2⟩:=bI hT2.hb rfl rfl rfl;obtain⟨s0,s1,s2⟩:=bI hT2.hs rfl rfl rfl;obtain⟨zs0,zs1,zs2⟩:=dQ hT2.hs;have d0:=cell_later hT2.below c0;have d1:=cell_later hT2.below c1;have d2:=cell_later hT2.below c2;have d3:=cell_later hT2.below c3;clear c0 c1 c2 c3;have i0:(0:Int)<=i:=by omega
   have i1:(i:Int)<sn:=by omega
   have hfl:=E6 (sbAt ss i) id w2 (hcs i hi).1 ((hv.later hT2.below).subs.faces i hi).2.2 (by omega) (fun j hj=>by have:=f4 i hi j hj;omega) (hcs i hi).2;go_wp2_with fail;refine hfl.mono ?_;rintro e w3 hfa;obtain⟨hbw3,y,E,rfl,hrel'⟩:=hfa.rel;have hrel:Hid (tK (sbAt ss i) id E y):=hrel';clear hrel' hfa hfl;have hT3:=hT2.later hbw3;clear b0 b1 b2 s0 zs0 s1 zs1 s2 zs2;obtain⟨b0,b1,b2⟩:=bI hT3.hb rfl rfl rfl;obtain⟨s0,s1,s2⟩:=bI hT3.hs rfl rfl rfl;obtain⟨zs0,zs1,zs2⟩:=dQ hT3.hs;clear d0 d1 d2 d3;by_cases hE:E=0
   ·subst hE;have hv3:=fun W (hW:Below w.heap.size w W)=>cZ vid rx rn rc rs (some ⟨b,o,none⟩) sn sc ss W (hv.later hW) (by omega) (by omega) (fun i hi=>by have:=f3 i hi;omega) (fun i hi j hj=>by have:=f4 i hi j hj;omega);go_wp2_with fail;refine(hv3 _ hT3.below).mono ?_;rintro e w5 ⟨vR,vS,ts,rfl,hOR,hss,hOS,hb5⟩;clear hv3;have hT5:=hT3.later hb5;have htl:Hid (ts.length=sn):=by unfold Hid;rw[<-hss.1];exact hsl.out
    have hit:i<ts.length:=by rw[htl.out];exact hi
    have hsi:=hss.2 i (by rw[hss.1];exact hit);obtain⟨xr,cr,rfl, -⟩:=hOR.rs;obtain⟨g,cap,hg5,cur,hgh,hvS⟩:∃g cap,w3.heap.size<=g/\∃cur,w5.heap[g]?=some (.cells cur 130)/\vS= .slice (some ⟨g,0,none⟩) ts.length cap:=by
     obtain⟨x2,c2,hv2, -⟩:=hOS.row.mem;rcases hOS.row.2 with ⟨hv', -⟩|⟨g,cap,cur,hv',hg1,hg2, -⟩
     ·rw[hv']at hv2;simp only[Value.slice.injEq]at hv2;omega
     ·exact⟨g,cap,hg1,cur,hg2,hv'⟩
    subst hvS;have hgl:g<w5.heap.size:=(zG hgh);clear b0 b1 b2 s0 zs0 s1 zs1 s2 zs2;go_upto_region 11 with fail
    obtain⟨w6,hw6⟩:∃w6,w6=w5.alloc (cY vid (.slice xr rs.length cr) (.slice (some ⟨g,0,none⟩) ts.length cap)):=⟨_,rfl⟩;rw[<-hw6];have hb56:Below w5.heap.size w5 w6:=by rw[hw6];exact bl1 _ _
    have hn6:w6.heap[w5.heap.size]?=some (cY vid (.slice xr rs.length cr) (.slice (some ⟨g,0,none⟩) ts.length cap)):=by rw[hw6];exact aB _ rfl
    have hs6:w6.heap.size=w5.heap.size+1:=by rw[hw6];simp
    clear hw6;have h13:w1.heap.size<=w3.heap.size:=Nat.le_trans hbw2.size hbw3.size;have hT6:=hT5.later hb56;have hg6:=aA hb56 hgh;have hOR6:=bM.later (hOR.low (base':=w1.heap.size) h13) hb56;have hOS6:=iR.later (hOS.low (base':=w1.heap.size) h13) hb56;obtain⟨hfS,hfl,hfc,hfm⟩:=(hOS6.own i hit).fcs;have hfx:=aBd (hOS6.own i hit).row;have hn8':(sbAt ts i).n<=8:=by rw[<-hsi.2.2.2.1];exact hn8
    have hfl':Hid ((sbAt ts i).fs.length=(sbAt ts i).n):=hfl;have n2:=aP hn6 2 rfl;have d3:w6.cell? ⟨g,i*4+3,none⟩=some (.slice (sbAt ts i).x (sbAt ts i).n (sbAt ts i).c):=by
     obtain⟨x2,c2,he2, -, -, -,hm'⟩:=hOS6.row.mem;simp only[Value.slice.injEq]at he2;obtain⟨b2,o2,he3, -, -, -,c8⟩:=hm' i hit;rw[<-he2.1]at he3;simp only[Option.some.injEq,Addr.mk.injEq]at he3;obtain⟨rfl,rfl, -⟩:=he3;simpa using c8
    have i1':(i:Int)<ts.length:=by omega
    have hput:=fun W (hW:Below w6.heap.size w6 W) hx bf hby=>RP ⟨id,some ⟨hx,0,none⟩,1,1,[y]⟩ (sbAt ts i).x (sbAt ts i).n (sbAt ts i).c (sbAt ts i).fs bf 1 W (hfS.later hW) (by omega) hfc hfm hfx hby;have hb16:w1.heap.size<=w6.heap.size:=by have:=hb5.size;omega
    have hsz1:w.heap.size+1<w1.heap.size:=(zG hT1.hs);have hq1:w5.heap.size≠g:=by omega
    have hq2:w.heap.size+1≠g:=by omega
    have hq4:w.heap.size<=g:=by omega
    have e2:∀u:Ws w6.heap.size w6,u.val.cell? ⟨w5.heap.size,2,none⟩=some (.slice (some ⟨g,0,none⟩) ts.length cap):=Ws.cell (by omega) n2;have e3:∀u:Ws w6.heap.size w6,u.val.cell? ⟨g,i*4+3,none⟩=some (.slice (sbAt ts i).x (sbAt ts i).n (sbAt ts i).c):=Ws.cell (by omega) d3;have hbd:Below w6.heap.size w6 w6.drew:=(zD).drew;clear hfl hfc hfm hsi hcs f1 f2 f3 f4 hn8 hn8' hfx hfS hs6;refine bN (fun w'=>∃u:Ws w6.heap.size w6,w'=u.val) (fun j=>decide (j<15)) 18 _ (by kernel_rfl) rfl rfl ?_;refine bL 7 [0,1,2,3,4,5,6,7,8,9,10] rfl _ rfl (by kernel_rfl) (fun d _ _ _ _ h=>by cases d<;>exact h) ⟨⟨_,hbd⟩,rfl⟩ ?_;simp only[zK,zM,zI,zJ];repeat(go_big_quiet_step (fail))
    refine wpQuiet_nil ?_;refine kO 11 13 _ _ _ _ (by kernel_rfl) (by kernel_rfl) rfl rfl rfl rfl ?_ ?_
    ·intro K hK;simp only[zI,zJ];go_wp2_with fail;have hba:Below w6.heap.size w6 (w6.alloc (.cells #[.int .i64 y] 3)).drew:=(bl1 w6 _).drew;refine aD (hK.out _ _ ⟨⟨_,hba⟩,rfl⟩ ?_);clear hK K;refine bL 5 [12] rfl _ rfl (by kernel_rfl) (fun d _ _ _ _ h=>by cases d<;>exact h) ⟨⟨_,hba⟩,rfl⟩ ?_;simp only[zK,zM,zI,zJ];repeat(go_big_quiet_step (fail))
     refine wpQuiet_nil ?_;refine aZ 13 _ _ (by kernel_rfl) (by kernel_rfl) rfl rfl ?_;intro K hK;simp only[zI,zJ];go_wp2_with fail;have hbb:Below w6.heap.size w6 (((w6.alloc (.cells #[.int .i64 y] 3)).alloc (.cells #[.func (.func 173) #[] #[]] 249)).drew):=(bO w6 _ _).drew;refine aD (hK.out _ _ ⟨⟨_,hbb⟩,rfl⟩ ?_);clear hK K;refine aZ 14 _ _ (by kernel_rfl) (by kernel_rfl) rfl rfl ?_;intro K hK;simp only[zI,zJ];go_wp2_with fail;refine(hput (((w6.alloc (.cells #[.int .i64 y] 3)).alloc (.cells #[.func (.func 173) #[] #[]] 249)).drew) hbb w6.heap.size (w6.heap.size+1) (by simp)).mono ?_;rintro e w7 ⟨v7,rfl,hb7,p,hp,hlow,hup,hO7⟩;have hb67:Below w6.heap.size w6 w7:=(hbb).trans (hb7.mono (hbb).size);have hgx7:=aA hb7 (aG _ (aB _ rfl));obtain⟨gs,hgs⟩:∃gs,Hid (gs=(sbAt ts i).fs.take p++[(⟨id,some ⟨w6.heap.size,0,none⟩,1,1,[y]⟩:Fc)]++(sbAt ts i).fs.drop p):=⟨_,rfl⟩;rw[<-hgs.out]at hO7;obtain⟨x7,c7,rfl, -⟩:=hO7.mem;have hT7:=hT6.later hb67;have hn7:=aA hb67 hn6;have hg7:=aA hb67 hg6;have hOS7:=iR.later hOS6 hb67;have hOR7:=bM.later hOR6 hb67;have hbs:w1.heap.size<=((((w6.alloc (.cells #[.int .i64 y] 3)).alloc (.cells #[.func (.func 173) #[] #[]] 249)).drew)).heap.size:=Nat.le_trans hb16 (hbb).size;have hIx:=HV (base:=w1.heap.size) hgx7 (Nat.le_trans hb16 (by simp));have hOF7:mM w7 w1.heap.size (.slice x7 gs.length c7) gs gs.length:=mM.mk' (hO7.low hbs) (fun f hf=>by
      rw[hgs.out]at hf;simp only[List.mem_append,List.mem_singleton]at hf;rcases hf with (hf|rfl)|hf
      ·exact(hOS7.own i hit).each f (List.mem_of_mem_take hf)
      ·exact hIx
      ·exact(hOS7.own i hit).each f (List.mem_of_mem_drop hf))
     have hfa7:=iR.give (i:=i) hOS7 hOF7;have hput7:wR ⟨id,some ⟨w6.heap.size,0,none⟩,1,1,[y]⟩ (sbAt ts i).fs gs:=⟨p,by rw[hfl'.out];exact hp,hlow,by rw[hfl'.out];exact hup,hgs.out⟩;have n2':w7.cell? ⟨w5.heap.size,2,none⟩=some (.slice (some ⟨g,0,none⟩) ts.length cap):=(aC hn7).1 2;have df:w7.frozen? ⟨g,i*4+3,none⟩=false:=hOS7.row.frozen _;have d3':=cell_later hb67 d3;clear hput e2 e3 n2 d3 hgs hlow hup hp;go_wp2_with fail;refine aD (hK.out _ _ ⟨⟨_,hb67⟩,rfl⟩ ?_);clear hK K;refine bB [15,16,17] rfl (by kernel_rfl) ?_;simp only[zK,zM,zI,zJ];go_upto_region 12 with fail
     obtain⟨w8,hw8⟩:∃w8,w8=w7.setCell ⟨g,i*4+3,none⟩ (.slice x7 gs.length c7):=⟨_,rfl⟩;rw[<-hw8];have hn8:w8.heap[w5.heap.size]?=some (cY vid (.slice xr rs.length cr) (.slice (some ⟨g,0,none⟩) ts.length cap)):=by rw[hw8];exact(zB hq1).trans hn7
     have hs8:w8.heap[w.heap.size+1]?=some (cY 0 (.slice none 0 0) (.slice none 0 0)):=by rw[hw8];exact(zB hq2).trans hT7.hs
     have hB8:Below w.heap.size w w8:=by rw[hw8];exact hT7.below.setCell (p:=⟨g,i*4+3,none⟩) hq4 _
     have hOR8:bM w8 w1.heap.size (.slice xr rs.length cr) rs:=by rw[hw8];exact hOR7.putBox hg7 (by decide)
     have hrow8:cA w8 w1.heap.size (.slice (some ⟨g,0,none⟩) ts.length cap) (ts.set i (cX (sbAt ts i) x7 gs.length c7 gs)):=by rw[hw8];exact hOS7.row.set i hit _ _ _ _
     have hfa8:xR w8 w1.heap.size (ts.set i (cX (sbAt ts i) x7 gs.length c7 gs)):=by rw[hw8];exact hfa7.keptOf (aI _ _ _ _) hg7 (by decide) (by decide)
     clear hw8 n2' df d3';obtain⟨m0,m1,m2⟩:=bI hn8 rfl rfl rfl;obtain⟨s0,s1,s2⟩:=bI hs8 rfl rfl rfl;obtain⟨zs0,zs1,zs2⟩:=dQ hs8;go_wp2;refine bodyPost_ret (v:= .tuple #[.agg #[.int .i64 vid, .slice xr rs.length cr, .slice (some ⟨g,0,none⟩) ts.length cap], .int .i64 y, .int .i64 0]) (by simp[results,Tryz.results104,go_sem,s0,s1,s2]) rfl ?_;exact fC.ok (hA0.out _ _ hSA.out hrel.out) (((hB8.setCell (p:=⟨w.heap.size+1,0,none⟩) (zA) _).setCell (p:=⟨w.heap.size+1,1,none⟩) (zA) _).setCell (p:=⟨w.heap.size+1,2,none⟩) (zA) _) ⟨hcz.out,ts,i,x7,gs.length,c7,_,gs,hSA.out,hrel.out,hss,hput7,rfl,HS.mk (((hOR8.put hsz1).put hsz1).put hsz1) (by omega) (((hrow8.put hsz1).put hsz1).put hsz1) (by omega) (((hfa8.put hsz1).put hsz1).put hsz1) (by omega)⟩
    ·intro K hK;simp only[zI,zJ];go_wp2_with fail;have hba:Below w6.heap.size w6 (w6.alloc (.cells #[.func (.func 173) #[] #[]] 249)).drew:=(bl1 w6 _).drew;refine aD (hK.out _ _ ⟨⟨_,hba⟩,rfl⟩ ?_);clear hK K;refine aZ 11 _ _ (by kernel_rfl) (by kernel_rfl) rfl rfl ?_;intro K hK;simp only[zI,zJ];go_wp2_with fail;have hbb:Below w6.heap.size w6 (((w6.alloc (.cells #[.func (.func 173) #[] #[]] 249)).alloc (.cells #[.int .i64 y] 3)).drew):=(bO w6 _ _).drew;refine aD (hK.out _ _ ⟨⟨_,hbb⟩,rfl⟩ ?_);clear hK K;refine aZ 12 _ _ (by kernel_rfl) (by kernel_rfl) rfl rfl ?_;intro K hK;simp only[zI,zJ];go_wp2_with fail;refine aD (hK.out _ _ ⟨⟨_,hbb⟩,rfl⟩ ?_);clear hK K;refine aZ 14 _ _ (by kernel_rfl) (by kernel_rfl) rfl rfl ?_;intro K hK;simp only[zI,zJ];go_wp2_with fail;refine(hput (((w6.alloc (.cells #[.func (.func 173) #[] #[]] 249)).alloc (.cells #[.int .i64 y] 3)).drew) hbb (w6.heap.size+1) w6.heap.size (by simp)).mono ?_;rintro e w7 ⟨v7,rfl,hb7,p,hp,hlow,hup,hO7⟩;have hb67:Below w6.heap.size w6 w7:=(hbb).trans (hb7.mono (hbb).size);have hgx7:=aA hb7 (aB (W:=w6.alloc (.cells #[.func (.func 173) #[] #[]] 249)) (k:=w6.heap.size+1) _ (by simp));obtain⟨gs,hgs⟩:∃gs,Hid (gs=(sbAt ts i).fs.take p++[(⟨id,some ⟨(w6.heap.size+1),0,none⟩,1,1,[y]⟩:Fc)]++(sbAt ts i).fs.drop p):=⟨_,rfl⟩;rw[<-hgs.out]at hO7;obtain⟨x7,c7,rfl, -⟩:=hO7.mem;have hT7:=hT6.later hb67;have hn7:=aA hb67 hn6;have hg7:=aA hb67 hg6;have hOS7:=iR.later hOS6 hb67;have hOR7:=bM.later hOR6 hb67;have hbs:w1.heap.size<=((((w6.alloc (.cells #[.func (.func 173) #[] #[]] 249)).alloc (.cells #[.int .i64 y] 3)).drew)).heap.size:=Nat.le_trans hb16 (hbb).size;have hIx:=HV (base:=w1.heap.size) hgx7 (Nat.le_trans hb16 (by simp));have hOF7:mM w7 w1.heap.size (.slice x7 gs.length c7) gs gs.length:=mM.mk' (hO7.low hbs) (fun f hf=>by
      rw[hgs.out]at hf;simp only[List.mem_append,List.mem_singleton]at hf;rcases hf with (hf|rfl)|hf
      ·exact(hOS7.own i hit).each f (List.mem_of_mem_take hf)
      ·exact hIx
      ·exact(hOS7.own i hit).each f (List.mem_of_mem_drop hf))
     have hfa7:=iR.give (i:=i) hOS7 hOF7;have hput7:wR ⟨id,some ⟨(w6.heap.size+1),0,none⟩,1,1,[y]⟩ (sbAt ts i).fs gs:=⟨p,by rw[hfl'.out];exact hp,hlow,by rw[hfl'.out];exact hup,hgs.out⟩;have n2':w7.cell? ⟨w5.heap.size,2,none⟩=some (.slice (some ⟨g,0,none⟩) ts.length cap):=(aC hn7).1 2;have df:w7.frozen? ⟨g,i*4+3,none⟩=false:=hOS7.row.frozen _;have d3':=cell_later hb67 d3;clear hput e2 e3 n2 d3 hgs hlow hup hp;go_wp2_with fail;refine aD (hK.out _ _ ⟨⟨_,hb67⟩,rfl⟩ ?_);clear hK K;refine bB [15,16,17] rfl (by kernel_rfl) ?_;simp only[zK,zM,zI,zJ];go_upto_region 12 with fail
     obtain⟨w8,hw8⟩:∃w8,w8=w7.setCell ⟨g,i*4+3,none⟩ (.slice x7 gs.length c7):=⟨_,rfl⟩;rw[<-hw8];have hn8:w8.heap[w5.heap.size]?=some (cY vid (.slice xr rs.length cr) (.slice (some ⟨g,0,none⟩) ts.length cap)):=by rw[hw8];exact(zB hq1).trans hn7
     have hs8:w8.heap[w.heap.size+1]?=some (cY 0 (.slice none 0 0) (.slice none 0 0)):=by rw[hw8];exact(zB hq2).trans hT7.hs
     have hB8:Below w.heap.size w w8:=by rw[hw8];exact hT7.below.setCell (p:=⟨g,i*4+3,none⟩) hq4 _
     have hOR8:bM w8 w1.heap.size (.slice xr rs.length cr) rs:=by rw[hw8];exact hOR7.putBox hg7 (by decide)
     have hrow8:cA w8 w1.heap.size (.slice (some ⟨g,0,none⟩) ts.length cap) (ts.set i (cX (sbAt ts i) x7 gs.length c7 gs)):=by rw[hw8];exact hOS7.row.set i hit _ _ _ _
     have hfa8:xR w8 w1.heap.size (ts.set i (cX (sbAt ts i) x7 gs.length c7 gs)):=by rw[hw8];exact hfa7.keptOf (aI _ _ _ _) hg7 (by decide) (by decide)
     clear hw8 n2' df d3';obtain⟨m0,m1,m2⟩:=bI hn8 rfl rfl rfl;obtain⟨s0,s1,s2⟩:=bI hs8 rfl rfl rfl;obtain⟨zs0,zs1,zs2⟩:=dQ hs8;go_wp2;refine bodyPost_ret (v:= .tuple #[.agg #[.int .i64 vid, .slice xr rs.length cr, .slice (some ⟨g,0,none⟩) ts.length cap], .int .i64 y, .int .i64 0]) (by simp[results,Tryz.results104,go_sem,s0,s1,s2]) rfl ?_;exact fC.ok (hA0.out _ _ hSA.out hrel.out) (((hB8.setCell (p:=⟨w.heap.size+1,0,none⟩) (zA) _).setCell (p:=⟨w.heap.size+1,1,none⟩) (zA) _).setCell (p:=⟨w.heap.size+1,2,none⟩) (zA) _) ⟨hcz.out,ts,i,x7,gs.length,c7,_,gs,hSA.out,hrel.out,hss,hput7,rfl,HS.mk (((hOR8.put hsz1).put hsz1).put hsz1) (by omega) (((hrow8.put hsz1).put hsz1).put hsz1) (by omega) (((hfa8.put hsz1).put hsz1).put hsz1) (by omega)⟩
   ·have hy:Hid (y=0):=hrel.out.zero hE;go_wp2;refine bodyPost_ret (v:= .tuple #[.agg #[.int .i64 0, .slice none 0 0, .slice none 0 0], .int .i64 0, .int .i64 E]) (by simp[results,Tryz.results104,go_sem,s0,s1,s2]) rfl ?_;exact fC.err (hA0.out i 0 hSA.out (hy.out▸hrel.out)) hE (((hT3.below.setCell (p:=⟨w.heap.size+1,0,none⟩) (zA) _).setCell (p:=⟨w.heap.size+1,1,none⟩) (zA) _).setCell (p:=⟨w.heap.size+1,2,none⟩) (zA) _)
  ·have hsp':=hsp _ hfp;have hno':Hid (∀i,i<sn->(sbAt ss i).id≠sub):=fun i hi=>by simpa using hno i hi
   clear hfp hsp hno;go_wp2_with fail;refine(hsp').mono ?_;rintro e w2 ⟨rfl,hbw2⟩;have hT2:=hT1.later hbw2;clear b0 b1 b2 s0 zs0 s1 zs1 s2 zs2;obtain⟨b0,b1,b2⟩:=bI hT2.hb rfl rfl rfl;obtain⟨s0,s1,s2⟩:=bI hT2.hs rfl rfl rfl;obtain⟨zs0,zs1,zs2⟩:=dQ hT2.hs;go_wp2;refine bodyPost_ret (v:= .tuple #[.agg #[.int .i64 0, .slice none 0 0, .slice none 0 0], .int .i64 0, .int .i64 5]) (by simp[results,Tryz.results104,go_sem,s0,s1,s2]) rfl ?_;exact fC.err (hA5.out hno'.out) (by decide) (((hT2.below.setCell (p:=⟨w.heap.size+1,0,none⟩) (zA) _).setCell (p:=⟨w.heap.size+1,1,none⟩) (zA) _).setCell (p:=⟨w.heap.size+1,2,none⟩) (zA) _)
 ·have hA1:Hid (kC vid rn rs sn ss sub id (bD vid rn rs sn ss) 0):=by
   unfold Hid kC;rw[if_pos hc0];exact⟨rfl,rfl⟩
  go_wp2_with fail;refine(hck).mono ?_;rintro e w1 ⟨rfl,hbw1⟩;have hT1:=hT0.later hbw1;clear b0 b1 b2 s0 zs0 s1 zs1 s2 zs2;obtain⟨b0,b1,b2⟩:=bI hT1.hb rfl rfl rfl;obtain⟨s0,s1,s2⟩:=bI hT1.hs rfl rfl rfl;obtain⟨zs0,zs1,zs2⟩:=dQ hT1.hs;go_wp2;refine bodyPost_ret (v:= .tuple #[.agg #[.int .i64 0, .slice none 0 0, .slice none 0 0], .int .i64 0, .int .i64 (bD vid rn rs sn ss)]) (by simp[results,Tryz.results104,go_sem,s0,s1,s2]) rfl ?_;exact fC.err hA1.out hc0 (((hT1.below.setCell (p:=⟨w.heap.size+1,0,none⟩) (zA) _).setCell (p:=⟨w.heap.size+1,1,none⟩) (zA) _).setCell (p:=⟨w.heap.size+1,2,none⟩) (zA) _)
def tL(s:Sb)(f:Fc)(E y:Int):Prop:=if f.n=4 then E=2/\y=0 else iN s E y
def oU(vid:Int)(rn:Nat)(rs:List Rg)(sn:Nat)(ss:List Sb)(sub id E y:Int):Prop:=
 (tH vid rn rs sn ss sub id≠0->E=tH vid rn rs sn ss sub id/\y=0)/\(tH vid rn rs sn ss sub id=0->∃i j,fY sn ss sub id i j/\tL (sbAt ss i) (fcAt (sbAt ss i).fs j) E y)
def DH(e:Int)(qs rs:List Int):Prop:=∃i,i<=qs.length/\(∀j,j<i->¬e<bT qs j)/\(i<qs.length->e<bT qs i)/\rs=qs.take i++[e]++qs.drop i
def aBe(vid:Int)(rn:Nat)(rs:List Rg)(sn:Nat)(ss:List Sb)(sub id:Int)(w0 w:World)(V:Value)(y:Int):Prop:=
 bD vid rn rs sn ss=0/\∃ts i j x c ns,fY sn ss sub id i j/\tL (sbAt ss i) (fcAt (sbAt ss i).fs j) 0 y/\bQ ss ts/\DH y (fcAt (sbAt ts i).fs j).ns ns/\
  HS w w0.heap.size vid V rs (ts.set i (cX (sbAt ts i) (sbAt ts i).x (sbAt ts i).n (sbAt ts i).c ((sbAt ts i).fs.set j (withA (fcAt (sbAt ts i).fs j) x ns.length c ns))))
theorem iR.turn(h:iR w base v ts ts.length)(hi:i<ts.length)(hg:w.grownBy w' (some gf))(hb:w.heap[gf]?=some (.cells cur 133))
 (hx:(Value.slice (sbAt ts i).x (sbAt ts i).n (sbAt ts i).c).ownBlock=some gf)(hO:eB w' base (.slice (some ⟨gf,0,none⟩) kf cf) gs)(hsub:∀f∈gs,f∈(sbAt ts i).fs\/fV w' base (.slice f.x f.n f.c) f.ns):
  xR w' base (ts.set i (cX (sbAt ts i) (some ⟨gf,0,none⟩) kf cf gs)):=fun s hs=>by
 have hI:∀k,k<ts.length->∀f∈(sbAt ts k).fs,fV w' base (.slice f.x f.n f.c) f.ns:=fun k hk f hf=>by
  have h1:=(h.own k hk).each f hf;exact h1.kept hg (fun q hq e=>by subst e;exact h1.ne hb (by decide) hq)
 obtain⟨k,hk,rfl⟩:=List.getElem_of_mem hs;have hk':k<ts.length:=by simpa using hk
 rw[List.getElem_set];by_cases e:i=k
 ·rw[if_pos e];exact mM.mk' hO (fun f hf=>(hsub f hf).elim (fun h=>hI i hi f h) (fun h=>h))
 ·rw[if_neg e];have e2:sbAt ts k=ts[k]:=by unfold sbAt;rw[zF,List.getElem?_eq_getElem hk'];rfl
  rw[<-e2];exact mM.mk' ((h.own k hk').row.kept hg (fun q hq e3=>by subst e3;exact h.apart i k hi hk' e _ hx hq)) (hI k hk')
theorem cA.faces(h:cA w base v ss)(i:Nat)(hi:i<ss.length)(gs:List Fc):cA w base v (ss.set i (cX (sbAt ss i) (sbAt ss i).x (sbAt ss i).n (sbAt ss i).c gs)):=by
 have e:flatS (ss.set i (cX (sbAt ss i) (sbAt ss i).x (sbAt ss i).n (sbAt ss i).c gs))=flatS ss:=by
  rw[<-DD ss i _ _ _ gs hi];apply List.ext_getElem?;intro k;rw[List.getElem?_set];by_cases hk:i*4+3=k
  ·subst hk;have h1:=oK ss i 3 hi (by omega);rw[if_pos rfl,h1];have:i*4+3<(flatS ss).length:=by rw[fH];omega
   rw[if_pos this];rfl
  ·rw[if_neg hk]
 unfold cA;rw[e,List.length_set];exact h
theorem more_after{j m:Nat}:∀f∈fs.set j (withA (fcAt fs j) x m c ns),f∈fs\/(f.x=x/\f.n=m/\f.c=c/\f.ns=ns):=fun f hf=>by
 obtain⟨k,hk,rfl⟩:=List.getElem_of_mem hf;rw[List.getElem_set];by_cases e:j=k
 ·rw[if_pos e];exact .inr ⟨rfl,rfl,rfl,rfl⟩
 ·rw[if_neg e];exact .inl (List.getElem_mem _)
theorem OL(vid:Int)(rx:Option Addr)(rn rc:Nat)(rs:List Rg)(sx:Option Addr)(sn sc:Nat)(ss:List Sb)(sub id:Int)(w:World)(hv:Vp w rx rn rc rs sx sn sc ss)(hrn:rn<=9223372036854775807)(hsn:sn<=9223372036854775807)(hrc:rc<=9223372036854775807):
  Calls Tryz.prog 105 #[.agg #[.int .i64 vid, .slice rx rn rc, .slice sx sn sc], .int .i64 sub, .int .i64 id] w (fC (oU vid rn rs sn ss sub id) (aBe vid rn rs sn ss sub id w) w):=by
 have hsl:Hid (ss.length=sn):=hv.subs.len;have hpl0:=fun W h=>wQ vid rx rn rc rs sx sn sc ss sub id W h hrn hsn hrc;unfold oS at hpl0;have hAe:Hid (tH vid rn rs sn ss sub id≠0->oU vid rn rs sn ss sub id (tH vid rn rs sn ss sub id) 0):=fun h=>⟨fun _=>⟨rfl,rfl⟩,fun h'=>absurd h' h⟩;have hA0:Hid (∀i j E y,tH vid rn rs sn ss sub id=0->fY sn ss sub id i j->tL (sbAt ss i) (fcAt (sbAt ss i).fs j) E y->oU vid rn rs sn ss sub id E y):=fun i j E y h h1 h2=>⟨fun h'=>absurd h h',fun _=>⟨i,j,h1,h2⟩⟩;have hcz0:Hid (tH vid rn rs sn ss sub id=tH vid rn rs sn ss sub id):=rfl;generalize tH vid rn rs sn ss sub id=E at hpl0 hAe hA0 hcz0;go_enter Tryz.func105,Tryz.ntmps105;go_upto_region 1 with fail
 obtain⟨w0,hw0⟩:∃w0,w0=(w.alloc (cY vid (.slice rx rn rc) (.slice sx sn sc))).alloc (cY 0 (.slice none 0 0) (.slice none 0 0)):=⟨_,rfl⟩;rw[<-hw0];have hT0:TN w w0 vid rx rn rc sx sn sc:=by
  rw[hw0];exact⟨aG _ (aB _ rfl),aB _ (by simp),bO w _ _⟩
 clear hw0;obtain⟨b0,b1,b2⟩:=bI hT0.hb rfl rfl rfl;obtain⟨s0,s1,s2⟩:=bI hT0.hs rfl rfl rfl;obtain⟨zs0,zs1,zs2⟩:=dQ hT0.hs;have hpl:=hpl0 w0 (hv.later hT0.below);clear hpl0;by_cases hE:E=0
 ·subst hE;go_wp2_with fail;refine hpl.mono ?_;rintro e w1 ⟨i,j,rfl,hb1, -,hok⟩;obtain⟨hcz',hFA⟩:=hok (by trivial);have hcz:Hid (bD vid rn rs sn ss=0):=hcz';obtain⟨f1,f2,f3,f4⟩:=dU hcz';have hcs:=HU hcz';clear hcz' hok hpl;have hT1:=hT0.later hb1;have hi:=hFA.isn;have hj:=hFA.jn;obtain⟨b,o,rfl,c0,c1,c2,c3⟩:=hv.subs.cells i hi;have hF:=(hv.subs.faces i hi).2.2;obtain⟨bf,of,hbf,q0,q1⟩:=hF.cells j hj;have hbf':Hid ((sbAt ss i).x=some ⟨bf,of,none⟩):=hbf;obtain⟨fn,hfn⟩:∃fn,Hid ((fcAt (sbAt ss i).fs j).n=fn):=⟨_,rfl⟩;have d0:=cell_later hT1.below c0;have d1:=cell_later hT1.below c1;have d2:=cell_later hT1.below c2;have d3:=cell_later hT1.below c3;have d3x:w1.cell? ⟨b,o+i*4+3,none⟩=some (.slice (some ⟨bf,of,none⟩) (sbAt ss i).n (sbAt ss i).c):=by rw[<-hbf];exact d3
  have p1:w1.cell? ⟨bf,of+j*2+1,none⟩=some (.slice (fcAt (sbAt ss i).fs j).x fn (fcAt (sbAt ss i).fs j).c):=by rw[<-hfn.out];exact cell_later hT1.below q1
  have d3h:Hid (w1.cell? ⟨b,o+i*4+3,none⟩=some (.slice (sbAt ss i).x (sbAt ss i).n (sbAt ss i).c)):=d3;clear hbf q0 q1 c0 c1 c2 c3 d3;have i0:(0:Int)<=i:=by omega
  have i1:(i:Int)<sn:=by omega
  have j0:(0:Int)<=j:=by omega
  have j1:(j:Int)<(sbAt ss i).n:=by omega
  clear b0 b1 b2 s0 zs0 s1 zs1 s2 zs2;obtain⟨b0,b1,b2⟩:=bI hT1.hb rfl rfl rfl;obtain⟨s0,s1,s2⟩:=bI hT1.hs rfl rfl rfl;obtain⟨zs0,zs1,zs2⟩:=dQ hT1.hs;by_cases h4:fn=4
  ·subst h4;have hMA:Hid (oU vid rn rs sn ss sub id 2 0):=hA0.out i j 2 0 (by trivial) hFA (by unfold tL;rw[if_pos hfn.out];exact⟨rfl,rfl⟩);go_wp2;refine bodyPost_ret (v:= .tuple #[.agg #[.int .i64 0, .slice none 0 0, .slice none 0 0], .int .i64 0, .int .i64 2]) (by simp[results,Tryz.results105,go_sem,s0,s1,s2]) rfl ?_;exact fC.err hMA.out (by decide) (((hT1.below.setCell (p:=⟨w.heap.size+1,0,none⟩) (zA) _).setCell (p:=⟨w.heap.size+1,1,none⟩) (zA) _).setCell (p:=⟨w.heap.size+1,2,none⟩) (zA) _)
  ·have h4':¬(fn:Int)=4:=by omega
   have hMR:Hid (∀E y,iN (sbAt ss i) E y->tL (sbAt ss i) (fcAt (sbAt ss i).fs j) E y):=fun E y h=>by unfold tL;rw[if_neg (by rw[hfn.out];exact h4)];exact h
   go_upto_region 4 with fail
   have d3:=d3h.out;clear d3x;have hgv:=DG (sbAt ss i) w1 (hcs i hi).1 ((hv.later hT1.below).subs.faces i hi).2.2 (by have:=f3 i hi;omega) (fun j hj=>by have:=f4 i hi j hj;omega) (hcs i hi).2;go_wp2_with fail;refine hgv.mono ?_;rintro e w3 ⟨hb3,hgg⟩;have hT3:=hT1.later hb3;clear hgv d0 d1 d2 d3 p1;clear b0 b1 b2 s0 zs0 s1 zs1 s2 zs2;obtain⟨b0,b1,b2⟩:=bI hT3.hb rfl rfl rfl;obtain⟨s0,s1,s2⟩:=bI hT3.hs rfl rfl rfl;obtain⟨zs0,zs1,zs2⟩:=dQ hT3.hs;rcases hgg with ⟨y,rfl,hL⟩|⟨rfl,hfull⟩
   ·have hMR0:Hid (tL (sbAt ss i) (fcAt (sbAt ss i).fs j) 0 y):=hMR.out 0 y (.inl ⟨rfl,hL⟩);have hMA:Hid (oU vid rn rs sn ss sub id 0 y):=hA0.out i j 0 y (by trivial) hFA hMR0.out;clear hA0 hL hMR hAe;have hv3:=fun W (hW:Below w.heap.size w W)=>cZ vid rx rn rc rs (some ⟨b,o,none⟩) sn sc ss W (hv.later hW) (by omega) (by omega) (fun i hi=>by have:=f3 i hi;omega) (fun i hi j hj=>by have:=f4 i hi j hj;omega);go_wp2_with fail;refine(hv3 _ hT3.below).mono ?_;rintro e w5 ⟨vR,vS,ts,rfl,hOR,hss,hOS,hb5⟩;clear hv3;have hT5:=hT3.later hb5;have htl:Hid (ts.length=sn):=by unfold Hid;rw[<-hss.1];exact hsl.out
    have hit:i<ts.length:=by rw[htl.out];exact hi
    have hsi:=hss.2 i (by rw[hss.1];exact hit);obtain⟨hfS,hfl,hfc,hfm⟩:=(hOS.own i hit).fcs;have hjn:j<(sbAt ts i).n:=by rw[<-hsi.2.2.2.1];exact hj
    have hjf:j<(sbAt ts i).fs.length:=by rw[hfl];exact hjn
    have hsf:=hsi.2.2.2.2.2 j (by rw[hsi.2.2.2.2.1];exact hjf);obtain⟨xr,cr,rfl, -⟩:=hOR.rs;obtain⟨g,cap,hg5,cur,hgh,hvS⟩:∃g cap,w3.heap.size<=g/\∃cur,w5.heap[g]?=some (.cells cur 130)/\vS= .slice (some ⟨g,0,none⟩) ts.length cap:=by
     obtain⟨x2,c2,hv2, -⟩:=hOS.row.mem;rcases hOS.row.2 with ⟨hv', -⟩|⟨g,cap,cur,hv',hg1,hg2, -⟩
     ·rw[hv']at hv2;simp only[Value.slice.injEq]at hv2;omega
     ·exact⟨g,cap,hg1,cur,hg2,hv'⟩
    subst hvS;obtain⟨gf,cf,hgf5,curf,hgfh,hvF⟩:∃gf cf,w3.heap.size<=gf/\∃curf,w5.heap[gf]?=some (.cells curf 133)/\Hid (Value.slice (sbAt ts i).x (sbAt ts i).n (sbAt ts i).c= .slice (some ⟨gf,0,none⟩) (sbAt ts i).n cf):=by
     rcases(hOS.own i hit).row.2 with ⟨hv', -⟩|⟨gf,cf,curf,hv',hg1,hg2, -⟩
     ·simp only[Value.slice.injEq]at hv';omega
     ·exact⟨gf,cf,hg1,curf,hg2,by unfold Hid;rw[hv',hfl]⟩
    have hgl:g<w5.heap.size:=(zG hgh);have hgfl:gf<w5.heap.size:=(zG hgfh);clear b0 b1 b2 s0 zs0 s1 zs1 s2 zs2;go_upto_region 10 with fail
    obtain⟨w6,hw6⟩:∃w6,w6=w5.alloc (cY vid (.slice xr rs.length cr) (.slice (some ⟨g,0,none⟩) ts.length cap)):=⟨_,rfl⟩;rw[<-hw6];have hb56:Below w5.heap.size w5 w6:=by rw[hw6];exact bl1 _ _
    have hn6:w6.heap[w5.heap.size]?=some (cY vid (.slice xr rs.length cr) (.slice (some ⟨g,0,none⟩) ts.length cap)):=by rw[hw6];exact aB _ rfl
    have hs6:w6.heap.size=w5.heap.size+1:=by rw[hw6];simp
    clear hw6;have h13:w1.heap.size<=w3.heap.size:=hb3.size;have hT6:=hT5.later hb56;have hg6:=aA hb56 hgh;have hgf6:=aA hb56 hgfh;have hOR6:=bM.later (hOR.low (base':=w1.heap.size) h13) hb56;have hOS6:=iR.later (hOS.low (base':=w1.heap.size) h13) hb56;have hOF6:=(hOS6.own i hit).row;rw[hvF.out]at hOF6;have hx6:Hid ((Value.slice (sbAt ts i).x (sbAt ts i).n (sbAt ts i).c).ownBlock=some gf):=by unfold Hid;rw[hvF.out];rfl
    have n2:=aP hn6 2 rfl;have d3:w6.cell? ⟨g,i*4+3,none⟩=some (.slice (some ⟨gf,0,none⟩) (sbAt ts i).n cf):=by
     obtain⟨x2,c2,he2, -, -, -,hm'⟩:=hOS6.row.mem;simp only[Value.slice.injEq]at he2;obtain⟨b2,o2,he3, -, -, -,c8⟩:=hm' i hit;rw[<-he2.1]at he3;simp only[Option.some.injEq,Addr.mk.injEq]at he3;obtain⟨rfl,rfl, -⟩:=he3;rw[hvF.out]at c8;simpa using c8
    have i1':(i:Int)<ts.length:=by omega
    have j1':(j:Int)<(sbAt ts i).n:=by omega
    have hIj:=(hOS6.own i hit).each _ (tI hjf);obtain⟨hIS,hIl,hIc,hIm⟩:=hIj.is;have hIx:((fcAt (sbAt ts i).fs j).x=none/\(fcAt (sbAt ts i).fs j).c=0)\/∃b o,(fcAt (sbAt ts i).fs j).x=some ⟨b,o,none⟩:=by
     rcases hIj.2 with ⟨h, -⟩|⟨g,cap,cur,h, -⟩
     ·simp only[Value.slice.injEq]at h;exact .inl ⟨h.1,h.2.2⟩
     ·simp only[Value.slice.injEq]at h;exact .inr ⟨g,0,h.1⟩
    have hfn4:(fcAt (sbAt ts i).fs j).n<=4:=by rw[<-hsf.2.1];exact f4 i hi j hj
    have p1:w6.cell? ⟨gf,j*2+1,none⟩=some (.slice (fcAt (sbAt ts i).fs j).x (fcAt (sbAt ts i).fs j).n (fcAt (sbAt ts i).fs j).c):=by
     obtain⟨x2,c2,he2, -, -, -,hm'⟩:=hOF6.mem;simp only[Value.slice.injEq]at he2;obtain⟨b2,o2,he3, -,c8⟩:=hm' j hjf;rw[<-he2.1]at he3;simp only[Option.some.injEq,Addr.mk.injEq]at he3;obtain⟨rfl,rfl, -⟩:=he3;simpa using c8
    have p1':∀o,(w6.alloc o).cell? ⟨gf,j*2+1,none⟩=some (.slice (fcAt (sbAt ts i).fs j).x (fcAt (sbAt ts i).fs j).n (fcAt (sbAt ts i).fs j).c):=fun o=>cell_later (bl1 w6 o) p1;have hput:=fun W (hW:Below w6.heap.size w6 W) bf hby=>SB y (fcAt (sbAt ts i).fs j).x (fcAt (sbAt ts i).fs j).n (fcAt (sbAt ts i).fs j).c (fcAt (sbAt ts i).fs j).ns bf 1 W (hIS.later hW) (by omega) hIc hIm hIx hby;have hb16:w1.heap.size<=w6.heap.size:=by have:=hb5.size;omega
    have hsz1:w.heap.size+1<w1.heap.size:=(zG hT1.hs);have hw1:w.heap.size<=w1.heap.size:=by omega
    have hq1:w5.heap.size≠gf:=by omega
    have hq2:w.heap.size+1≠gf:=by omega
    have hq4:w.heap.size<=gf:=by omega
    have hgg:g≠gf:=fun e=>by rw[e]at hg6;rw[hg6]at hgf6;simp at hgf6
    have hIl':Hid ((fcAt (sbAt ts i).fs j).ns.length=(fcAt (sbAt ts i).fs j).n):=hIl;have hjf':Hid (j<(sbAt ts i).fs.length):=hjf;clear hfl hfc hfm hsi hsf hcs f1 f2 f3 f4 hIl hIc hIm hIx hIj hfS hjf hs6;go_wp2_with fail;refine(hput _ (bl1 w6 _) w6.heap.size (by simp)).mono ?_;rintro e w7 ⟨v7,rfl,hb7,p,hp,hlow,hup,hO7⟩;obtain⟨ns,hns⟩:∃ns,Hid (ns=(fcAt (sbAt ts i).fs j).ns.take p++[y]++(fcAt (sbAt ts i).fs j).ns.drop p):=⟨_,rfl⟩;rw[<-hns.out]at hO7;obtain⟨x7,c7,rfl, -⟩:=hO7.mem;have hb67:Below w6.heap.size w6 w7:=(bl1 w6 _).trans (hb7.mono (by simp));have hT7:=hT6.later hb67;have hn7:=aA hb67 hn6;have hg7:=aA hb67 hg6;have hgf7:=aA hb67 hgf6;have hOS7:=iR.later hOS6 hb67;have hOR7:=bM.later hOR6 hb67;have hOF7:=hOF6.later hb67;have hO7':=hO7.low (base':=w1.heap.size) (by simp;omega);have hput7:DH y (fcAt (sbAt ts i).fs j).ns ns:=⟨p,by rw[hIl'.out];exact hp,hlow,by rw[hIl'.out];exact hup,hns.out⟩;have p17:w7.cell? ⟨gf,j*2+1,none⟩=some (.slice (fcAt (sbAt ts i).fs j).x (fcAt (sbAt ts i).fs j).n (fcAt (sbAt ts i).fs j).c):=cell_later hb67 p1;have df:w7.frozen? ⟨gf,j*2+1,none⟩=false:=hOF7.frozen _;clear hput p1 p1' n2 d3 hns hlow hup hp;go_upto_region 12 with fail
    obtain⟨w8,hw8⟩:∃w8,w8=w7.setCell ⟨gf,j*2+1,none⟩ (.slice x7 ns.length c7):=⟨_,rfl⟩;rw[<-hw8];have hn8:w8.heap[w5.heap.size]?=some (cY vid (.slice xr rs.length cr) (.slice (some ⟨g,0,none⟩) ts.length cap)):=by rw[hw8];exact(zB hq1).trans hn7
    have hs8:w8.heap[w.heap.size+1]?=some (cY 0 (.slice none 0 0) (.slice none 0 0)):=by rw[hw8];exact(zB hq2).trans hT7.hs
    have hB8:Below w.heap.size w w8:=by rw[hw8];exact hT7.below.setCell (p:=⟨gf,j*2+1,none⟩) hq4 _
    have hOR8:bM w8 w1.heap.size (.slice xr rs.length cr) rs:=by rw[hw8];exact hOR7.putBox hgf7 (by decide)
    have hgw:w7.grownBy w8 (some gf):=by rw[hw8];exact aI _ _ _ _
    have hrow8:cA w8 w1.heap.size (.slice (some ⟨g,0,none⟩) ts.length cap) (ts.set i (cX (sbAt ts i) (sbAt ts i).x (sbAt ts i).n (sbAt ts i).c ((sbAt ts i).fs.set j (withA (fcAt (sbAt ts i).fs j) x7 ns.length c7 ns)))):=(hOS7.row.kept hgw (fun q hq e=>by subst e;exact hOS7.row.ne hgf7 (by decide) hq)).faces i hit _;have hO8:fV w8 w1.heap.size (.slice x7 ns.length c7) ns:=hO7'.kept hgw (fun q hq e=>by subst e;exact hO7'.ne hgf7 (by decide) hq);have hOF8:eB w8 w1.heap.size (.slice (some ⟨gf,0,none⟩) (sbAt ts i).n cf) ((sbAt ts i).fs.set j (withA (fcAt (sbAt ts i).fs j) x7 ns.length c7 ns)):=by rw[hw8];exact hOF7.set j hjf'.out _ _ _ _
    have hfa8:xR w8 w1.heap.size (ts.set i (cX (sbAt ts i) (sbAt ts i).x (sbAt ts i).n (sbAt ts i).c ((sbAt ts i).fs.set j (withA (fcAt (sbAt ts i).fs j) x7 ns.length c7 ns)))):=by
     have h:=hOS7.turn hit hgw hgf7 hx6.out hOF8 (fun f hf=>by
      rcases more_after f hf with h|⟨h1,h2,h3,h4⟩
      ·exact .inl h
      ·rw[h1,h2,h3,h4];exact .inr hO8)
     have hv:=hvF.out;simp only[Value.slice.injEq]at hv;rw[hv.1,hv.2.2];exact h
    clear hw8 p17 df;obtain⟨m0,m1,m2⟩:=bI hn8 rfl rfl rfl;obtain⟨s0,s1,s2⟩:=bI hs8 rfl rfl rfl;obtain⟨zs0,zs1,zs2⟩:=dQ hs8;go_wp2;refine bodyPost_ret (v:= .tuple #[.agg #[.int .i64 vid, .slice xr rs.length cr, .slice (some ⟨g,0,none⟩) ts.length cap], .int .i64 y, .int .i64 0]) (by simp[results,Tryz.results105,go_sem,s0,s1,s2]) rfl ?_;exact fC.ok hMA.out (((hB8.setCell (p:=⟨w.heap.size+1,0,none⟩) (zA) _).setCell (p:=⟨w.heap.size+1,1,none⟩) (zA) _).setCell (p:=⟨w.heap.size+1,2,none⟩) (zA) _) ⟨hcz.out,ts,i,j,x7,c7,ns,hFA,hMR0.out,hss,hput7,⟨_,_,rfl,(((hOR8.put hsz1).put hsz1).put hsz1).low hw1,(((hrow8.put hsz1).put hsz1).put hsz1).low hw1,(((hfa8.put hsz1).put hsz1).put hsz1).low hw1⟩⟩
   ·have hMA:Hid (oU vid rn rs sn ss sub id 8 0):=hA0.out i j 8 0 (by trivial) hFA (hMR.out 8 0 (.inr ⟨rfl,rfl,hfull⟩));clear hfull hMR hA0 hAe;go_wp2;refine bodyPost_ret (v:= .tuple #[.agg #[.int .i64 0, .slice none 0 0, .slice none 0 0], .int .i64 0, .int .i64 8]) (by simp[results,Tryz.results105,go_sem,s0,s1,s2]) rfl ?_;exact fC.err hMA.out (by decide) (((hT3.below.setCell (p:=⟨w.heap.size+1,0,none⟩) (zA) _).setCell (p:=⟨w.heap.size+1,1,none⟩) (zA) _).setCell (p:=⟨w.heap.size+1,2,none⟩) (zA) _)
 ·go_wp2_with fail;refine hpl.mono ?_;rintro e w1 ⟨i,j,rfl,hb1,hzz, -⟩;obtain⟨rfl,rfl⟩:=hzz hE;have hT1:=hT0.later hb1;clear b0 b1 b2 s0 zs0 s1 zs1 s2 zs2;obtain⟨b0,b1,b2⟩:=bI hT1.hb rfl rfl rfl;obtain⟨s0,s1,s2⟩:=bI hT1.hs rfl rfl rfl;obtain⟨zs0,zs1,zs2⟩:=dQ hT1.hs;go_wp2;refine bodyPost_ret (v:= .tuple #[.agg #[.int .i64 0, .slice none 0 0, .slice none 0 0], .int .i64 0, .int .i64 E]) (by simp[results,Tryz.results105,go_sem,s0,s1,s2]) rfl ?_;exact fC.err (hAe.out hE) hE (((hT1.below.setCell (p:=⟨w.heap.size+1,0,none⟩) (zA) _).setCell (p:=⟨w.heap.size+1,1,none⟩) (zA) _).setCell (p:=⟨w.heap.size+1,2,none⟩) (zA) _)
theorem E7(x y:Option Addr)(n c d:Nat)(ns:List Int)(w:World)(hp:IS w x n ns)(hq:IS w y n ns)(hn:n<=9223372036854775807):
  Calls Tryz.prog 58 #[.slice x n c, .slice y n d] w fun e w'=>e= .returned (.bool true)/\Below w.heap.size w w':=by
 go_enter Tryz.func58,Tryz.ntmps58;go_wp2;go_loopw [5] (fun i wr=>∃k:Nat,i= .int .i64 k/\k<=n/\Below w.heap.size w wr) (fun i _=>n- (intOf i).toNat)
 case atStart=>exact⟨0,rfl,by omega,zD⟩
 case round=>
  obtain⟨k,rfl,hkn,hB⟩:=hrel
  by_cases hlt:k<n
  ·obtain⟨b,o,rfl,c0⟩:=(hp.later hB).cells k hlt;obtain⟨b2,o2,rfl,d0⟩:=(hq.later hB).cells k hlt;have hk0:(0:Int)<=k:=by omega
   have hkn2:(k:Int)<n:=by omega
   have hlth:Hid (k<n):=hlt;clear hlt;go_upto_region 6 with fail
   have g0:=Ws.here c0;have g1:=Ws.here d0;clear c0 d0;refine aH wr.heap.size (by kernel_rfl) (by kernel_rfl) ?_;repeat(go_big_quiet_step (fail))
   refine wpQuiet_nil ?_;rintro _ ⟨u,rfl⟩;have hub:=hB.trans (u.property.mono hB.size);generalize u.val=wu at hub⊢;clear u g0 g1;go_wp2;go_roundw
   case rel=>exact⟨k+1,by go_num,hlth.out,hub⟩
   case measure=>have:=hlth.out;simp[intOf];omega
  ·have hnk:¬(k:Int)<n:=by omega
   go_wp2;go_ret;exact⟨rfl,hB⟩
structure TV2(w W:World)(vid:Int)(vr vs ur us:Value):Prop where
 ha:W.heap[w.heap.size]?=some (cY vid vr vs)
 hb:W.heap[w.heap.size+1]?=some (cY vid ur us)
 below:Below w.heap.size w W
theorem TV2.later{W':World}{vr vs ur us:Value}(h:TV2 w W vid vr vs ur us)(hb:Below W.heap.size W W'):TV2 w W' vid vr vs ur us:=
 ⟨aA hb h.ha,aA hb h.hb,h.below.trans (hb.mono h.below.size)⟩
theorem E8(vid:Int)(rx ry:Option Addr)(rn rc rd:Nat)(rs:List Rg)(sx sy:Option Addr)(sn sc sd:Nat)(ss ts:List Sb)(w:World)(hp:Vp w rx rn rc rs sx sn sc ss)(hq:Vp w ry rn rd rs sy sn sd ts)(hs:bQ ss ts)(hrn:rn<=9223372036854775807)(hsn:sn<=9223372036854775807):
  Calls Tryz.prog 30 #[.agg #[.int .i64 vid, .slice rx rn rc, .slice sx sn sc], .agg #[.int .i64 vid, .slice ry rn rd, .slice sy sn sd]] w fun e w'=>e= .returned (.bool true)/\Below w.heap.size w w':=by
 have hs':Hid (bQ ss ts):=hs;have hpl:Hid (ss.length=sn):=hp.subs.len;clear hs;go_enter Tryz.func30,Tryz.ntmps30;go_upto_region 1 with fail
 obtain⟨w0,hw0⟩:∃w0,w0=(w.alloc (cY vid (.slice rx rn rc) (.slice sx sn sc))).alloc (cY vid (.slice ry rn rd) (.slice sy sn sd)):=⟨_,rfl⟩;rw[<-hw0];have hT0:TV2 w w0 vid (.slice rx rn rc) (.slice sx sn sc) (.slice ry rn rd) (.slice sy sn sd):=by rw[hw0];exact⟨aG _ (aB _ rfl),aB _ (by simp),bO w _ _⟩
 clear hw0;obtain⟨a0,a1,a2⟩:=bI hT0.ha rfl rfl rfl;obtain⟨d0,d1,d2⟩:=bI hT0.hb rfl rfl rfl;go_wp2;clear a0 a1 a2 d0 d1 d2;go_loopw [5] (fun i wr=>∃k:Nat,i= .int .i64 k/\k<=rn/\TV2 w wr vid (.slice rx rn rc) (.slice sx sn sc) (.slice ry rn rd) (.slice sy sn sd)) (fun i _=>rn- (intOf i).toNat)
 case atStart=>exact⟨0,rfl,by omega,hT0⟩
 case round=>
  clear hT0
  obtain⟨k,rfl,hkn,hT⟩:=hrel
  have a1:=aP hT.ha 1 rfl
  have d1:=aP hT.hb 1 rfl
  by_cases hlt:k<rn
  ·obtain⟨b,o,rfl,c0,c1,c2⟩:=(hp.later hT.below).ranges.cells k hlt;obtain⟨b2,o2,rfl,e0,e1,e2⟩:=(hq.later hT.below).ranges.cells k hlt;have hk0:(0:Int)<=k:=by omega
   have hkn2:(k:Int)<rn:=by omega
   have hlth:Hid (k<rn):=hlt;clear hlt;go_upto_region 6 with fail
   have g0:=Ws.here a1;have g1:=Ws.here d1;have f0:=Ws.here c0;have f1:=Ws.here c1;have f2:=Ws.here c2;have h0:=Ws.here e0;have h1:=Ws.here e1;have h2:=Ws.here e2;clear a1 d1 c0 c1 c2 e0 e1 e2;refine aH wr.heap.size (by kernel_rfl) (by kernel_rfl) ?_;repeat(go_big_quiet_step (fail))
   refine wpQuiet_nil ?_;rintro _ ⟨u,rfl⟩;have hTu:=hT.later u.property;generalize u.val=wu at hTu⊢;clear u g0 g1 f0 f1 f2 h0 h1 h2;go_wp2;go_roundw
   case rel=>exact⟨k+1,by go_num,hlth.out,hTu⟩
   case measure=>have:=hlth.out;simp[intOf];omega
  ·have hnk:¬(k:Int)<rn:=by omega
   go_wp2;obtain⟨wh,rfl⟩:∃wh,wh=wr:=⟨_,rfl⟩;clear a1 d1;go_loopw [6] (fun i wr=>∃k:Nat,i= .int .i64 k/\k<=sn/\TV2 w wr vid (.slice rx rn rc) (.slice sx sn sc) (.slice ry rn rd) (.slice sy sn sd)) (fun i _=>sn- (intOf i).toNat)
   case atStart=>exact⟨0,rfl,by omega,hT⟩
   case round=>
    clear hT
    obtain⟨k,rfl,hkn,hT⟩:=hrel
    have a2:=aP hT.ha 2 rfl
    have d2:=aP hT.hb 2 rfl
    by_cases hlt:k<sn
    ·obtain⟨b,o,rfl,c0,c1,c2,c3⟩:=(hp.later hT.below).subs.cells k hlt;obtain⟨b2,o2,rfl,e0,e1,e2,e3⟩:=(hq.later hT.below).subs.cells k hlt;obtain⟨hlc,hlm,hLS⟩:=(hp.later hT.below).subs.faces k hlt;obtain⟨hmc,hmm,hMS⟩:=(hq.later hT.below).subs.faces k hlt;obtain⟨s0,s1,s2,s3,s4⟩:=hs'.out.2 k (by rw[hpl.out];exact hlt);rw[<-s0]at e0;rw[<-s1]at e1;rw[<-s2]at e2;rw[<-s3]at e3;rw[<-s3]at hMS;have hk0:(0:Int)<=k:=by omega
     have hkn2:(k:Int)<sn:=by omega
     have hlth:Hid (k<sn):=hlt;have hff:Hid (eC (sbAt ss k).fs (sbAt ts k).fs):=s4;clear hlt s0 s1 s2 s3 s4;go_upto_region 11 with fail
     go_cut [7,8] (fun p q wc=>∃bp bq,p= .pointer (some ⟨bp,0,none⟩)/\q= .pointer (some ⟨bq,0,none⟩)/\wc.heap[bp]?=some (.cells #[.int .i64 (sbAt ss k).id, .int .i64 (sbAt ss k).a, .int .i64 (sbAt ss k).l, .slice (sbAt ss k).x (sbAt ss k).n (sbAt ss k).c] 130)/\wc.heap[bq]?=some (.cells #[.int .i64 (sbAt ss k).id, .int .i64 (sbAt ss k).a, .int .i64 (sbAt ss k).l, .slice (sbAt ts k).x (sbAt ss k).n (sbAt ts k).c] 130)/\Below wr.heap.size wr wc)
     case first=>
      go_region_held3 (fun w'=>w'.cell? ⟨w.heap.size,2,none⟩=some (.slice (some ⟨b,o,none⟩) sn sc)/\w'.cell? ⟨w.heap.size+1,2,none⟩=some (.slice (some ⟨b2,o2,none⟩) sn sd)/\w'.cell? ⟨b,o+k*4,none⟩=some (.int .i64 (sbAt ss k).id)/\w'.cell? ⟨b,o+k*4+1,none⟩=some (.int .i64 (sbAt ss k).a)/\w'.cell? ⟨b,o+k*4+2,none⟩=some (.int .i64 (sbAt ss k).l)/\w'.cell? ⟨b,o+k*4+3,none⟩=some (.slice (sbAt ss k).x (sbAt ss k).n (sbAt ss k).c)/\w'.cell? ⟨b2,o2+k*4,none⟩=some (.int .i64 (sbAt ss k).id)/\w'.cell? ⟨b2,o2+k*4+1,none⟩=some (.int .i64 (sbAt ss k).a)/\w'.cell? ⟨b2,o2+k*4+2,none⟩=some (.int .i64 (sbAt ss k).l)/\w'.cell? ⟨b2,o2+k*4+3,none⟩=some (.slice (sbAt ts k).x (sbAt ss k).n (sbAt ts k).c)) (first|(go_keep;done)) (fail)
      ·go_wp2;go_meet
       case rel=>exact⟨wr.heap.size,wr.heap.size+1,rfl,rfl,aG _ (aB _ rfl),aB _ (by simp),(bO wr _ _).drew⟩
      ·go_wp2;go_meet
       case rel=>exact⟨wr.heap.size+1,wr.heap.size,rfl,rfl,aB _ (by simp),aG _ (aB _ rfl),(bO wr _ _).drew⟩
     case rest=>
      obtain⟨bp,bq,rfl,rfl,hv,hu,hBc⟩:=hcut
      clear a2 d2 c0 c1 c2 c3 e0 e1 e2 e3
      have hTc:=hT.later hBc
      have hLc:=hLS.later hBc
      have hMc:=hMS.later hBc
      clear hT hLS hMS hBc
      have p0:=aP hv 0 rfl
      have r0:=aP hu 0 rfl
      have p1:=aP hv 1 rfl
      have r1:=aP hu 1 rfl
      have p2:=aP hv 2 rfl
      have r2:=aP hu 2 rfl
      have p3:=aP hv 3 rfl
      have r3:=aP hu 3 rfl
      go_wp2
      clear p0 p1 p2 p3 r0 r1 r2 r3
      go_loopw [9] (fun i ws=>∃j:Nat,i= .int .i64 j/\j<=(sbAt ss k).n/\Below wc.heap.size wc ws) (fun i _=>(sbAt ss k).n- (intOf i).toNat)
      case atStart=>exact⟨0,rfl,by omega,zD⟩
      case round=>
       obtain⟨j,rfl,hjn,hBj⟩:=hrel
       have hv':=aA hBj hv
       have hu':=aA hBj hu
       have p3:=aP hv' 3 rfl
       have r3:=aP hu' 3 rfl
       by_cases hltj:j<(sbAt ss k).n
       ·obtain⟨b3,o3,hx3,l0,l1⟩:=(hLc.later hBj).cells j hltj;obtain⟨b4,o4,hx4,m0,m1⟩:=(hMc.later hBj).cells j hltj;obtain⟨hac,ham,hAS⟩:=(hLc.later hBj).addrs j hltj;obtain⟨hbc,hbm,hBS⟩:=(hMc.later hBj).addrs j hltj;obtain⟨t0,t1,t2⟩:=hff.out.2 j (by rw[hLc.len];exact hltj);rw[hx3]at p3;rw[hx4]at r3;rw[<-t0]at m0;rw[<-t1]at m1;rw[<-t1,<-t2]at hBS;have hj0:(0:Int)<=j:=by omega
        have hjn2:(j:Int)<(sbAt ss k).n:=by omega
        have hltjh:Hid (j<(sbAt ss k).n):=hltj;have hsi:=fun W (hW:Below wr.heap.size wr W)=>E7 (fcAt (sbAt ss k).fs j).x (fcAt (sbAt ts k).fs j).x (fcAt (sbAt ss k).fs j).n (fcAt (sbAt ss k).fs j).c (fcAt (sbAt ts k).fs j).c (fcAt (sbAt ss k).fs j).ns W (hAS.later hW) (hBS.later hW) ham;clear hltj t0 t1 t2;go_upto_region 17 with fail
        have g0:=Ws.here p3;have g1:=Ws.here r3;have f0:=Ws.here l0;have f1:=Ws.here l1;have h0:=Ws.here m0;have h1:=Ws.here m1;have hsw:=fun u:Ws wr.heap.size wr=>Calls.in_ws (zE) (hsi u.val u.property);clear p3 r3 l0 l1 m0 m1 hsi;refine aH wr.heap.size (by kernel_rfl) (by kernel_rfl) ?_;repeat(go_big_quiet_step (first|(go_at_call 58;exact hsw _)))
        refine wpQuiet_nil ?_;rintro _ ⟨u,rfl⟩;have hub:=hBj.trans (u.property.mono hBj.size);generalize u.val=wu at hub⊢;clear u g0 g1 f0 f1 h0 h1 hsw;go_wp2;go_roundw
        case rel=>exact⟨j+1,by go_num,hltjh.out,hub⟩
        case measure=>have:=hltjh.out;simp[intOf];omega
       ·have hnj:¬(j:Int)<(sbAt ss k).n:=by omega
        have hTj:=hTc.later hBj;go_wp2;go_roundw
        case rel=>exact⟨k+1,by go_num,hlth.out,hTj⟩
        case measure=>have:=hlth.out;simp[intOf];omega
    ·have hnk:¬(k:Int)<sn:=by omega
     go_wp2;go_ret;exact⟨rfl,hT.below⟩
theorem AM{x:Obj}(hg:w.grownBy w' r)(hne:r≠some b)(hx:w.heap[b]?=some x):w'.heap[b]?=some x:=
 (hg.block b (zG hx) (fun e=>hne e.symm)).trans hx
theorem iR.nil(w:World)(base:Nat):iR w base (.slice none 0 0) [] 0:=
 ⟨⟨rfl, .inl ⟨rfl,rfl⟩⟩,fun _ hi=>absurd hi (Nat.not_lt_zero _),fun _ _ hi=>absurd hi (Nat.not_lt_zero _)⟩
open Go.ChangeShapes Go.WideShapes Go.ChangeAt Go.RowKit Go.Joins
section
variable {H : Type} {enc : TypeId × Value → H} {w : World} {base : Nat} {spare : Nat → Bool} {held : Bool}
end
theorem SC(h:i<rs.length):aQ rs i=rs[i]:=by simp[aQ,List.getD_eq_getElem?_getD,h]
theorem HW:Tryz.prog.underlying 94=some (.struct (Tryz.prog.fieldsOf 94)):=by kernel_rfl
theorem OM:Tryz.prog.stoodInHeld 94=false:=by kernel_rfl
theorem VU(a l c m:Int)(w:World):(binOp .eql 94 (.agg #[.int .i64 a, .int .i64 l]) (.agg #[.int .i64 c, .int .i64 m])).run Tryz.prog w= .ok (.bool (decide (a=c)&&decide (l=m))) w:=by
 rw[run_eql_struct,show(10000:Nat)=9999+1 from rfl,run_equalIn_agg w 9999 _ _ _ HW OM];simp only[Program.fieldsOf,Tryz.underlying94];go_simp;by_cases h1:a=c<;>by_cases h2:l=m<;>simp[h1,h2]
theorem KK:Tryz.prog.eqGuardType Tryz.prog.depth 94=false:=by kernel_rfl
theorem KL(op:BinOp)(x y:Operand)(p q:Array Value)(w:World):(eqGuard op 94 x y (.agg p) (.agg q)).run Tryz.prog w= .ok () w:=by
 have h:=KK;unfold eqGuard
 cases op<;>simp[go_sem,h]
theorem KM{Q:Act->Prop}(x y:Operand)(t:TypeId)(a l c m:Int)(hop:o.op= .binOp .eql 94 x y t)(hg:o.guard=none)
 (hx:A.eval x= .agg #[.int .i64 a, .int .i64 l])(hy:A.eval y= .agg #[.int .i64 c, .int .i64 m])(h:wpQuiet Tryz.prog ops C Q rest (A.put o.dst (.bool (decide (a=c)&&decide (l=m))))):wpQuiet Tryz.prog ops C Q (o::rest) A:=by
 unfold wpQuiet;rw[if_pos (by simp[Region.wanted,hg])];refine⟨_,fun w _=>?_,h⟩;unfold Oper.quietAt execOp;rw[hop];simp only[hx,hy,Sem.run_bind,KL,VU,Result.andThen_ok,Sem.run_pure];exact⟨rfl,rfl⟩
def eqLk(ps:List (Int×Int))(a l:Int)(i:Nat):Bool:=decide (a=cM ps i)&&decide (l=eF ps i)
theorem wS(a l:Int)(x:Option Addr)(n c:Nat)(ps:List (Int×Int))(w:World)(hp:PS w x n ps)(hn:n<=64):
  Calls Tryz.prog 113 #[.slice x n c, .agg #[.int .i64 a, .int .i64 l]] w fun e w'=>(∃r:Int,e= .returned (.int .i64 r)/\((∃i:Nat,i<n/\eqLk ps a l i=true/\(∀j,j<i->eqLk ps a l j=false)/\r=i)\/((∀j,j<n->eqLk ps a l j=false)/\r= -1)))/\Below w.heap.size w w':=by
 go_enter Tryz.func113,Tryz.ntmps113;go_wp2;go_loopw [8] (fun i wr=>∃k:Nat,k<=n/\i= .int .i64 k/\Below (w.heap.size+1) (w.alloc (.cells #[.int .i64 a, .int .i64 l] 94)) wr/\(∀j,j<k->eqLk ps a l j=false)) (fun i _=>n- (intOf i).toNat)
 case atStart=>exact⟨0,by omega,rfl,zD,fun j hj=>by omega⟩
 case round=>
  obtain⟨k,hk,rfl,hB,hno⟩:=hrel
  have hz:=hB.size
  simp only[World.size_alloc]at hz
  by_cases hlt:k<n
  ·have hp2:=(hp.later (bl1 w (.cells #[.int .i64 a, .int .i64 l] 94)));obtain⟨b,o,rfl,c0,c1⟩:=hp2.cells k hlt;have hbl:=block_lt_of_cell c0;simp only[World.size_alloc]at hbl;have d0:wr.cell? ⟨b,o+k*2,none⟩=some (.int .i64 (cM ps k)):=(hB.cell (p:=⟨b,o+k*2,none⟩) hbl).trans c0;have d1:wr.cell? ⟨b,o+k*2+1,none⟩=some (.int .i64 (eF ps k)):=(hB.cell (p:=⟨b,o+k*2+1,none⟩) hbl).trans c1;have e0:wr.cell? ⟨w.heap.size,0,none⟩=some (.int .i64 a):=(hB.cell (p:=⟨w.heap.size,0,none⟩) (by show w.heap.size<_;omega)).trans (by simp);have e1:wr.cell? ⟨w.heap.size,1,none⟩=some (.int .i64 l):=(hB.cell (p:=⟨w.heap.size,1,none⟩) (by show w.heap.size<_;omega)).trans (by simp);have g0:=Ws.here e0;have g1:=Ws.here e1;have g2:=Ws.here d0;have g3:=Ws.here d1;have hlt':=hlt;go_upto_region 4 with fail
   clear e0 e1 d0 d1 c0 c1;refine aH wr.heap.size (by kernel_rfl) (by kernel_rfl) ?_;repeat(go_big_quiet_step (fail))
   refine KM _ _ _ a l (cM ps k) (eF ps k) rfl rfl rfl rfl ?_;refine wpQuiet_nil ?_;rintro _ ⟨u,rfl⟩;have hu:=hB.trans (u.property.mono hz);generalize u.val=wu at hu⊢;clear u g0 g1 g2 g3
   cases he:eqLk ps a l k;all_goals have he':=he
   all_goals unfold eqLk at he'
   all_goals rw[he']
   ·go_wp2;go_roundw
    case rel=>exact⟨k+1,hlt',by go_num,hu,fun j hj=>by
     by_cases hj2:j<k
     ·exact hno j hj2
     ·obtain rfl:j=k:=by omega
      exact he⟩
    case measure=>simp[intOf];omega
   ·go_wp2;go_ret;exact⟨⟨_,rfl, .inl ⟨k,hlt',he,hno,rfl⟩⟩,(bl1 w _).trans (hu.mono (by omega))⟩
  ·go_wp2;go_ret;exact⟨⟨_,rfl, .inr ⟨fun j hj=>hno j (by omega),rfl⟩⟩,(bl1 w _).trans (hB.mono (by omega))⟩
theorem AN(a l:Int)(x:Option Addr)(n c:Nat)(ps:List (Int×Int))(w:World)(hp:PS w x n ps)(hn:n<=64):
  Calls Tryz.prog 108 #[.slice x n c, .agg #[.int .i64 a, .int .i64 l]] w fun e w'=>e= .returned (.bool (anyAt n (eqLk ps a l)))/\Below w.heap.size w w':=by
 have H:=wS a l x n c ps (w.alloc (.cells #[.int .i64 a, .int .i64 l] 94)) (hp.later (bl1 w _)) hn;have H':Hid (Calls Tryz.prog 113 #[.slice x n c, .agg #[.int .i64 a, .int .i64 l]] (w.alloc (.cells #[.int .i64 a, .int .i64 l] 94)) fun e w'=>(∃r:Int,e= .returned (.int .i64 r)/\decide (r≥0)=anyAt n (eqLk ps a l))/\Below (w.alloc (.cells #[.int .i64 a, .int .i64 l] 94)).heap.size (w.alloc (.cells #[.int .i64 a, .int .i64 l] 94)) w'):=(H.mono fun e w' h=>by
  obtain⟨⟨r,rfl,hr⟩,hb⟩:=h;refine⟨⟨r,rfl,?_⟩,hb⟩;rcases hr with ⟨i,hi,hfi,_,rfl⟩|⟨hno,rfl⟩
  ·rw[bR hi hfi];simp
  ·rw[nJ hno];rfl)
 clear H;go_enter Tryz.func108,Tryz.ntmps108;go_wp2_with fail;refine H'.out.mono ?_;rintro e w1 ⟨⟨r,rfl,hr⟩,hb1⟩;go_wp2;go_ret;exact⟨rfl,(bl1 w _).trans (hb1.mono (by simp))⟩
def jnB(ln:Nat)(ls:List (Int×Int))(a b:Int):Bool:=anyAt ln (eqLk ls (min a b) (max a b))
theorem lW(h:cW n vs ln ls=0):n<=6/\ln<=12/\jY n vs=true/\eR n vs ln ls=true/\E1 ls n vs=true:=by
 unfold cW at h;split at h
 ·omega
 ·rename_i hm;simp only[Bool.or_eq_true,decide_eq_true_eq]at hm;split at h
  ·rename_i hw;simp only[zH]at hw;exact⟨by omega,by omega,hw.1.1,hw.1.2,hw.2⟩
  ·omega
theorem HX(h:jY n vs=true):∀i,i<n->bD (aE vs i).id (aE vs i).rn (aE vs i).rs (aE vs i).sn (aE vs i).ss=0:=fun i hi=>by
 unfold jY at h;rw[zH]at h;have hb:mK (aE vs i)=false:=by
  cases e:mK (aE vs i)
  ·rfl
  ·rw[bR (f:=fun i=>mK (aE vs i)) hi e]at h;exact absurd h.2 (by simp)
 unfold mK at hb;simpa using hb
open Go.RowKit Go.Shelf Go.Maps
theorem SD(hl:vs.length=n)(hll:ls.length=ln)(h:eR n vs ln ls=true):∀q∈ls,q.1<q.2/\(∃k,k<n/\(aE vs k).id=q.1)/\∃k,k<n/\(aE vs k).id=q.2:=by
 intro q hq;obtain⟨i,hi,e⟩:=List.getElem_of_mem hq;have e2:=R3 hi;rw[e]at e2;have e3:cM ls i=q.1:=congrArg Prod.fst e2;have e4:eF ls i=q.2:=congrArg Prod.snd e2;obtain⟨m0,m1⟩:=vE hl h i (by omega);rw[e3]at m0;rw[e4]at m1;obtain⟨k0,hk0,h0⟩:=yA m0;obtain⟨k1,hk1,h1⟩:=yA m1;refine⟨?_,⟨k0,by omega,h0⟩,⟨k1,by omega,h1⟩⟩;unfold eR at h;rw[zH,Bool.not_eq_true']at h;have h2:=AI.1 h.2 i (by omega);unfold uZ at h2;simp only[Bool.or_eq_false_iff,decide_eq_false_iff_not]at h2;rw[e3,e4]at h2;omega
end Go.Proofs.YtjphnaccgfjnjaaGreatDoor
