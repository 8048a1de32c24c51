/- A part of the proof. -/
import Derived.WalkKit
import Derived.WalkSpells
import Derived.WalkLawsBesides
import Derived.Deep.RegionWith
import Derived.BigQuiet
import Derived.Deep.QuietTactic
import Derived.Test.YtjphnaccgfjnjaaGreatDoorRows
import Derived.Deep.RegionHeld3
import Derived.Deep.DeepCutAuto
import Derived.RangeFuncNested
import Derived.RangeFuncBound
import Derived.RangeFuncCalls
import Derived.RangeFuncLeaves
import Derived.Shelf.Abstract
import Derived.Shelf.RegionOpen
import Derived.OwnWalkIn
import Derived.TacticsInMore
import Derived.LoopNIn
import Derived.LoopIn
import Derived.Laws.EntriesVeiled
import Derived.Lib.AppendZerosOnto
import Derived.Lib.AppendZeros
import Derived.Lib.Walk
import Derived.Laws.AppendOwnNone
import Derived.OwnWalk
import Derived.Laws.StructEq
import Derived.ProofKit
import Derived.OpenShut
import Derived.Carry
import Derived.Deep.SlicePairs
import Derived.Deep.DeepHandedRow
import Derived.Lib.SmallJoins
import Derived.Deep.RegionLaw
import Derived.OrdersHeld
import Derived.StillTail
import Derived.Lib.SliceRun
import Derived.Laws.AppendOwn
import Derived.Laws.CopyRow
import Derived.Deep.DeepAppendRoom
import Derived.Deep.Slices
import Derived.Maps.OwnOps
import Derived.Maps.RangeWalk
import Derived.Maps.Views
import Derived.SizedLaws
import Derived.ChangeMaps5
import Derived.Lib.MinMax
import Derived.Deep.OwnRows
import Derived.DeepKeys4
import Derived.Maps.Keyed
import Derived.Maps.OwnSet
import Derived.Deep.CutBlock
import Derived.Shelf.Strings.Builder1
import Derived.Shelf.Strings.Builder2
import Derived.Shelf.Strings.OnBuilder
import Derived.Shelf.Strconv.Itoa0
import Derived.Shelf.Strconv.Itoa1
import Derived.Shelf.LaysM
import Derived.Shelf.Strconv.Itoa2
import Derived.Shelf.Strconv.Itoa3
import Derived.Shelf.Strconv.Clone
import Derived.Test.YtjphnaccgfjnjaaGreatDoorProg
import Derived.Laws.BytesArg
import Derived.Lib.AppendStr
import Derived.Laws.BitsAllLaws
import Derived.WalkMore
import Derived.ScopeJumps
import Derived.Test.YtjphnaccgfjnjaaGreatDoorCards
import Derived.Test.YtjphnaccgfjnjaaGreatDoorTie
import Derived.Lib.LaidTab
import Derived.Stop.LaidErr
set_option maxRecDepth 100000
set_option maxHeartbeats 20000000
namespace Go.Proofs.YtjphnaccgfjnjaaGreatDoor
variable {a l m e c z : Int} {b k g i n o h yl : Nat} {w W w1 w' A B X Y V : World} {v p q : Value} {cs args tmps : Array Value} {t : TypeId} {P : Program} {Q Q' : Exit → Act → World → Prop} {ops : Array Oper} {C : World → Prop} {x : Option Addr} {ps H : List (Int × Int)} {L' : List Nat} {row : Option Nat} {f : Nat → Bool}
open Go.RowKit
theorem zA{a:Nat}:a<=a+b:=Nat.le_add_right a b
theorem zB{a:Addr}(h:k≠a.block):(w.setCell a v).heap[k]?=w.heap[k]?:=heap_setCell_other w a k v h
theorem zC(hg:w.heap[g]?=some (.cells cs t (0,0))):(w.setCell ⟨g,i,none⟩ v).heap[g]?=some (.cells (cs.setIfInBounds i v) t):=heap_setCell_same w g i cs t v hg
theorem zD:Below n w w:=Below.refl n w
theorem zE:n<=n:=Nat.le_refl n
theorem zF{α:Type}{l:List α}{i:Nat}{a:α}:l.getD i a=l[i]?.getD a:=List.getD_eq_getElem?_getD
theorem zH(a b:Bool):((a&&b)=true)=(a=true/\b=true):=Bool.and_eq_true a b
theorem zI{α:Type}{x d:α}{xs:List α}:(x::xs).getD 0 d=x:=rfl
theorem zJ{α:Type}{x d:α}{xs:List α}{n:Nat}:(x::xs).getD (n+1) d=xs.getD n d:=rfl
theorem zK{α β:Type}{f:α->β}{a:α}{l:List α}:(a::l).map f=f a::l.map f:=rfl
theorem zM{α β:Type}{f:α->β}:[].map f=([]:List β):=rfl
theorem zG{α:Type}{xs:Array α}{i:Nat}{b:α}(h:xs[i]?=some b):i<xs.size:=(Array.getElem?_eq_some_iff.1 h).1
structure Ws(n:Nat)(w:World):Type where
 val:World
 property:Below n w val
@[simp] theorem Ws.all_const(n:Nat)(w:World)(p:Prop):(Ws n w->p)↔p:=⟨fun h=>h ⟨w,zD⟩,fun h _=>h⟩
theorem Ws.cell{v:Option Value}(hb:b<n)(h:w.cell? ⟨b,o,none⟩=v)(u:Ws n w):u.val.cell? ⟨b,o,none⟩=v:=
 (u.property.cell (p:=⟨b,o,none⟩) hb).trans h
theorem aH{id:Nat}{a:Act}(n:Nat){l:List Oper}(hm:P.follows .mixedOrders=true)(hB:Region.lexB .any l.toArray=true)
 (h:wpQuiet P l.toArray (fun w'=>∃u:Ws n w,w'=u.val) (fun a'=>∀w',(∃u:Ws n w,w'=u.val)->Q .normal a' w') l a):(Code.region id l.toArray true).wp P Q a w:=
 wp_region_quiet (C:=fun w'=>∃u:Ws n w,w'=u.val) hm hB ⟨⟨_,(Below.refl n w).drew⟩,rfl⟩ (by simpa using h)
theorem P3{a:Act}(n k:Nat){ops l:List Oper}{listed:Array Bool}{m:Nat}(hs:Region.noSelect ops.toArray=true)
 (hl:ops.drop k=l)(hm:l.length=m)(hB:Region.lexFrom .any ops.toArray l.length k listed=true)
 (h:wpQuiet P ops.toArray (fun w'=>∃u:Ws n w,w'=u.val) (fun a'=>∀w',(∃u:Ws n w,w'=u.val)->Q .normal a' w') l a):wpAny P .any ops.toArray Q m listed a w:=by
 subst hm;refine wpAny_of_quiet (Q:=fun a'=>∀w',(∃u:Ws n w,w'=u.val)->Q .normal a' w') (fun _ w' hw' h=>h w' hw') _ _ _ _ ⟨⟨w,zD⟩,rfl⟩ ?_;refine wpAnyQ_lex hs l k listed a (fun j=>?_) hB h;rw[<-hl];simp
theorem eX{Q:Act->Prop}(hQ:∀a w,C w->Q a->Q' .normal a w):
  ∀(l:List Oper) (a:Act) (w:World),C w->wpQuiet P ops C Q l a->wpList P ops Q' l a w
 |[],a,w,hw,h=>hQ a w hw h
 |o::rest,a,w,hw,h=>by
  unfold wpQuiet at h;unfold wpList;by_cases hg:Region.wanted o (yielded ops a.tmps)=true
  ·rw[if_pos hg]at h;rw[if_pos hg];exact .inl (Oper.wp_of_quiet hw (fun a' w' hw' h'=>eX hQ rest a' w' hw' h') h)
  ·rw[if_neg hg]at h;rw[if_neg hg];exact eX hQ rest _ w hw h
theorem rY{id:Nat}{a:Act}(n:Nat){l:List Oper}
 (h:wpQuiet P l.toArray (fun w'=>∃u:Ws n w,w'=u.val) (fun a'=>∀w',(∃u:Ws n w,w'=u.val)->Q .normal a' w') l a):(Code.region id l.toArray false).wp P Q a w:=
 wp_region_lit (eX (Q:=fun a'=>∀w',(∃u:Ws n w,w'=u.val)->Q .normal a' w') (fun _ w' hw' h=>h w' hw') l a w ⟨⟨w,zD⟩,rfl⟩ h)
theorem Calls.in_ws{f:FuncId}{u:Ws n w}(hn:n<=w.heap.size)
 (h:Calls P f args u.val fun e w'=>e= .returned v/\Below u.val.heap.size u.val w'):Calls P f args u.val fun e w''=>e= .returned v/\∃u':Ws n w,w''=u'.val:=
 h.mono fun _ w' ⟨he,hb⟩=>⟨he,⟨w',u.property.trans (hb.mono (Nat.le_trans hn u.property.size))⟩,rfl⟩
theorem Calls.in_ws_same{f:FuncId}{u:Ws n w}
 (h:Calls P f args u.val fun e w'=>e= .returned v/\w'=u.val):Calls P f args u.val fun e w''=>e= .returned v/\∃u':Ws n w,w''=u'.val:=
 h.mono fun _ _ ⟨he,hb⟩=>⟨he,u,hb⟩
theorem aAr(hb:Below W.heap.size W w1):(∀b o,b<W.heap.size->w1.cell? ⟨b,o,none⟩=W.cell? ⟨b,o,none⟩)/\(∀b o,b<W.heap.size->w1.frozen? ⟨b,o,none⟩=W.frozen? ⟨b,o,none⟩):=
 ⟨fun b o h=>hb.cell (p:=⟨b,o,none⟩) h,fun b o h=>hb.frozen (p:=⟨b,o,none⟩) h⟩
def sp(l:Int):Int:=if l=0 then 65536 else if l=1 then 32768 else if l=2 then 16384 else if l=3 then 8192 else if l=4 then 4096 else if l=5 then 2048 else if l=6 then 1024 else if l=7 then 512 else if l=8 then 256 else if l=9 then 128 else if l=10 then 64 else if l=11 then 32 else if l=12 then 16 else if l=13 then 8 else if l=14 then 4 else if l=15 then 2 else 1
theorem l_cases(l:Int)(h0:0<=l)(h1:l<=16):l=0\/l=1\/l=2\/l=3\/l=4\/l=5\/l=6\/l=7\/l=8\/l=9\/l=10\/l=11\/l=12\/l=13\/l=14\/l=15\/l=16:=by omega
theorem span_any(l:Int)(w:World)(h0:0<=l)(h1:l<=16):
  Calls Tryz.prog 142 #[.int .i64 l] w fun e w'=>e= .returned (.int .i64 (sp l))/\w'=w:=by
 rcases l_cases l h0 h1 with rfl|rfl|rfl|rfl|rfl|rfl|rfl|rfl|rfl|rfl|rfl|rfl|rfl|rfl|rfl|rfl|rfl
 all_goals clear h0 h1
 all_goals go_enter Tryz.func142,Tryz.ntmps142
 all_goals go_wp2
 all_goals go_ret
 all_goals exact⟨rfl,rfl⟩
def tW(a l:Int):Int:=if l<0\/16<l\/a<0\/65535<a then 3 else if a%sp l=0 then 0 else 1
theorem cJ(l:Int):0<sp l:=by unfold sp;(repeat' split)<;>omega
theorem XC(l:Int):sp l<=65536:=by unfold sp;(repeat' split)<;>omega
theorem MT(a l:Int)(w:World)(h:l<0\/16<l\/a<0\/65535<a):
  Calls Tryz.prog 82 #[.agg #[.int .i64 a, .int .i64 l]] w fun e w'=>e= .returned (.int .i64 3)/\Below w.heap.size w w':=by
 by_cases h1:l<0
 ·clear h;go_enter Tryz.func82,Tryz.ntmps82;go_wp2;go_ret;exact⟨rfl,(zD).alloc (zE) _⟩
 ·by_cases h2:16<l
  ·clear h;go_enter Tryz.func82,Tryz.ntmps82;go_wp2;go_ret;exact⟨rfl,(zD).alloc (zE) _⟩
  ·by_cases h3:a<0
   ·clear h;go_enter Tryz.func82,Tryz.ntmps82;go_wp2;go_ret;exact⟨rfl,(zD).alloc (zE) _⟩
   ·have h4:65535<a:=by omega
    clear h;go_enter Tryz.func82,Tryz.ntmps82;go_wp2;go_ret;exact⟨rfl,(zD).alloc (zE) _⟩
theorem P4(a l:Int)(w:World)(h0:0<=l)(h1:l<=16)(h2:0<=a)(h3:a<=65535):
  Calls Tryz.prog 82 #[.agg #[.int .i64 a, .int .i64 l]] w fun e w'=>e= .returned (.int .i64 (if a%sp l=0 then 0 else 1))/\Below w.heap.size w w':=by
 have hp:=cJ l;have hz:sp l≠0:=by omega
 by_cases hm:a%sp l=0
 ·rw[if_pos hm];have hb:(a%sp l !=0)=false:=by simp[hm]
  clear hm;go_enter Tryz.func82,Tryz.ntmps82;go_wp2;go_quiet ((go_at_call 142;exact Calls.quiet_of_same (span_any _ _ (by omega) (by omega))));go_wp2;go_ret;exact⟨rfl,below_drewN ((zD).alloc (zE) _) _⟩
 ·rw[if_neg hm];have hb:(a%sp l !=0)=true:=by simp[hm]
  clear hm;go_enter Tryz.func82,Tryz.ntmps82;go_wp2;go_quiet ((go_at_call 142;exact Calls.quiet_of_same (span_any _ _ (by omega) (by omega))));go_wp2;go_ret;exact⟨rfl,below_drewN ((zD).alloc (zE) _) _⟩
theorem check_any(a l:Int)(w:World):
  Calls Tryz.prog 82 #[.agg #[.int .i64 a, .int .i64 l]] w fun e w'=>e= .returned (.int .i64 (tW a l))/\Below w.heap.size w w':=by
 unfold tW;by_cases h:l<0\/16<l\/a<0\/65535<a
 ·rw[if_pos h];exact MT a l w h
 ·rw[if_neg h];exact P4 a l w (by omega) (by omega) (by omega) (by omega)
def rt(a l:Int):Bool:=tW a l==0
theorem right1(b:Nat)(a l:Int)(w:World)(hb:b<w.heap.size)(hc0:w.cell? ⟨b,0,none⟩=some (.int .i64 a))(hc1:w.cell? ⟨b,1,none⟩=some (.int .i64 l)):
  Calls Tryz.prog 211 #[.slice (some ⟨b,0,none⟩) 1 1] w fun e w'=>e= .returned (.bool (rt a l))/\Below w.heap.size w w':=by
 go_enter Tryz.func211,Tryz.ntmps211;go_wp2;go_loopw [7] (fun i wr=>∃k:Nat,k<=1/\i= .int .i64 k/\Below w.heap.size w wr/\(k=1->rt a l=true)) (fun i _=>1- (intOf i).toNat)
 case atStart=>exact⟨0,by omega,rfl,zD,by omega⟩
 case round=>
  obtain⟨k,hk,rfl,hB,hr⟩:=hrel
  have c0:wr.cell? ⟨b,0,none⟩=some (.int .i64 a):=(hB.cell (p:=⟨b,0,none⟩) hb).trans hc0
  have c1:wr.cell? ⟨b,1,none⟩=some (.int .i64 l):=(hB.cell (p:=⟨b,1,none⟩) hb).trans hc1
  have hk01:k=0\/k=1:=by omega
  clear hc0 hc1
  rcases hk01 with rfl|rfl
  ·cases hrt:rt a l
   ·have hne:(tW a l !=0)=true:=by unfold rt at hrt;simpa[bne]using hrt
    clear hr;go_wp2_with (go_at_call 82;refine(check_any _ _ _).mono ?_;rintro e w1 ⟨rfl,hb1⟩);go_ret;exact⟨by rw[hrt];rfl,hB.trans (((zD).alloc hB.size _).trans (hb1.mono (by simp;have:=hB.size;omega)))⟩
   ·have hne:(tW a l !=0)=false:=by unfold rt at hrt;simpa[bne]using hrt
    clear hr;go_wp2_with (go_at_call 82;refine(check_any _ _ _).mono ?_;rintro e w1 ⟨rfl,hb1⟩);go_roundw
    case rel=>exact⟨1,by omega,rfl,hB.trans (((zD).alloc hB.size _).trans (hb1.mono (by simp;have:=hB.size;omega))),fun _=>trivial⟩
    case measure=>simp[intOf]
  ·have hr1:=hr rfl;rw[hr1];go_wp2;go_ret;exact⟨rfl,hB⟩
theorem lM{t:Bool}(h:rt a l=t):(tW a l !=0)=!t:=by
 unfold rt at h;simp[bne,h]
theorem XZ(b:Nat)(a l c m:Int)(w:World)(hb:b<w.heap.size)(hc0:w.cell? ⟨b,0,none⟩=some (.int .i64 a))(hc1:w.cell? ⟨b,1,none⟩=some (.int .i64 l))
 (hc2:w.cell? ⟨b,2,none⟩=some (.int .i64 c))(hc3:w.cell? ⟨b,3,none⟩=some (.int .i64 m)):
  Calls Tryz.prog 211 #[.slice (some ⟨b,0,none⟩) 2 2] w fun e w'=>e= .returned (.bool (rt a l&&rt c m))/\Below w.heap.size w w':=by
 go_enter Tryz.func211,Tryz.ntmps211;go_wp2;go_loopw [7] (fun i wr=>∃k:Nat,k<=2/\i= .int .i64 k/\Below w.heap.size w wr/\(1<=k->rt a l=true)/\(2<=k->rt c m=true)) (fun i _=>2- (intOf i).toNat)
 case atStart=>exact⟨0,by omega,rfl,zD,by omega,by omega⟩
 case round=>
  obtain⟨k,hk,rfl,hB,hr,hr2⟩:=hrel
  have c0:wr.cell? ⟨b,0,none⟩=some (.int .i64 a):=(hB.cell (p:=⟨b,0,none⟩) hb).trans hc0
  have c1:wr.cell? ⟨b,1,none⟩=some (.int .i64 l):=(hB.cell (p:=⟨b,1,none⟩) hb).trans hc1
  have c2:wr.cell? ⟨b,2,none⟩=some (.int .i64 c):=(hB.cell (p:=⟨b,2,none⟩) hb).trans hc2
  have c3:wr.cell? ⟨b,3,none⟩=some (.int .i64 m):=(hB.cell (p:=⟨b,3,none⟩) hb).trans hc3
  have hk01:k=0\/k=1\/k=2:=by omega
  clear hc0 hc1 hc2 hc3
  rcases hk01 with rfl|rfl|rfl
  ·cases hrt:rt a l
   ·have hne:(tW a l !=0)=true:=lM hrt;clear hr hr2;go_wp2_with (go_at_call 82;refine(check_any _ _ _).mono ?_;rintro e w1 ⟨rfl,hb1⟩);go_ret;exact⟨by rw[hrt];rfl,hB.trans (((zD).alloc hB.size _).trans (hb1.mono (by simp;have:=hB.size;omega)))⟩
   ·have hne:(tW a l !=0)=false:=lM hrt;clear hr hr2;go_wp2_with (go_at_call 82;refine(check_any _ _ _).mono ?_;rintro e w1 ⟨rfl,hb1⟩);go_roundw
    case rel=>exact⟨1,by omega,rfl,hB.trans (((zD).alloc hB.size _).trans (hb1.mono (by simp;have:=hB.size;omega))),fun _=>trivial,by omega⟩
    case measure=>simp[intOf]
  ·have hr1:=hr (by omega)
   cases hrt:rt c m
   ·have hne:(tW c m !=0)=true:=lM hrt;clear hr hr2;go_wp2_with (go_at_call 82;refine(check_any _ _ _).mono ?_;rintro e w1 ⟨rfl,hb1⟩);go_ret;exact⟨by rw[hr1,hrt];rfl,hB.trans (((zD).alloc hB.size _).trans (hb1.mono (by simp;have:=hB.size;omega)))⟩
   ·have hne:(tW c m !=0)=false:=lM hrt;clear hr hr2;go_wp2_with (go_at_call 82;refine(check_any _ _ _).mono ?_;rintro e w1 ⟨rfl,hb1⟩);go_roundw
    case rel=>exact⟨2,by omega,rfl,hB.trans (((zD).alloc hB.size _).trans (hb1.mono (by simp;have:=hB.size;omega))),fun _=>hr1,fun _=>trivial⟩
    case measure=>simp[intOf]
  ·have hr1:=hr (by omega);have hr3:=hr2 (by omega);go_wp2;go_ret;exact⟨by rw[hr1,hr3];rfl,hB⟩
theorem bE(h:rt a l=true):0<=l/\l<=16/\0<=a/\a<=65535/\a%sp l=0:=by
 unfold rt tW at h;by_cases g:l<0\/16<l\/a<0\/65535<a
 ·rw[if_pos g]at h;simp at h
 ·rw[if_neg g]at h;by_cases g2:a%sp l=0
  ·exact⟨by omega,by omega,by omega,by omega,g2⟩
  ·rw[if_neg g2]at h;simp at h
theorem P5(a l:Int)(w:World):
  Calls Tryz.prog 270 #[.agg #[.int .i64 a, .int .i64 l]] w fun e w'=>e= .returned (.int .i64 (if rt a l then sp l else 0))/\Below w.heap.size w w':=by
 cases hrt:rt a l
 ·go_enter Tryz.func270,Tryz.ntmps270;go_wp2_with (go_at_call 211;refine(right1 (w.heap.size+1) a l _ (by simp) (by simp) (by simp)).mono ?_;rintro e w1 ⟨rfl,hb1⟩);go_ret;exact⟨rfl,(((zD).alloc (zE) _).alloc (by simp) _).trans (hb1.mono (by simp;omega))⟩
 ·obtain⟨h0,h1, -, -, -⟩:=bE hrt;go_enter Tryz.func270,Tryz.ntmps270;go_wp2_with fail;refine(right1 (w.heap.size+1) a l _ (by simp) (by simp) (by simp)).mono ?_;rintro e w1 ⟨rfl,hb1⟩;rw[hrt];have hc1:w1.cell? ⟨w.heap.size,1,none⟩=some (.int .i64 l):=(hb1.cell (p:=⟨w.heap.size,1,none⟩) (by simp;omega)).trans (by simp);go_wp2_with (go_at_call 142;refine(span_any _ _ (by omega) (by omega)).mono ?_;rintro e w2 ⟨rfl,rfl⟩);go_ret;exact⟨rfl,(((zD).alloc (zE) _).alloc (by simp) _).trans (hb1.mono (by simp;omega))⟩
def I3(a l x:Int):Bool:=rt a l&&decide (a<=x)&&decide (x<a+sp l)
theorem holds_any(a l x:Int)(w:World):
  Calls Tryz.prog 212 #[.agg #[.int .i64 a, .int .i64 l], .int .i64 x] w fun e w'=>e= .returned (.bool (I3 a l x))/\Below w.heap.size w w':=by
 unfold I3;go_enter Tryz.func212,Tryz.ntmps212;go_wp2;refine wp_region_any (by kernel_rfl) ?_;change wpAny _ _ _ _ _ _ _ (World.drew _);refine wpAny_ready (rs:=[0]) (by kernel_rfl) (by simp) ?_;refine AllReady.cons rfl (fun K hK=>?_) AllReady.nil;go_simp;refine hK _ _ ?_;clear hK K;refine wpAny_ready (rs:=[1]) (by kernel_rfl) (by simp) ?_;refine AllReady.cons rfl (fun K hK=>?_) AllReady.nil;go_simp;refine hK _ _ ?_;clear hK K;refine wpAny_ready (rs:=[2]) (by kernel_rfl) (by simp) ?_;refine AllReady.cons rfl (fun K hK=>?_) AllReady.nil;go_simp;refine(right1 (w.heap.size+1) a l _ (by simp) (by simp) (by simp)).mono ?_;rintro e w1 ⟨rfl,hb1⟩;refine hK _ _ ?_;clear hK K;have e0:w1.cell? ⟨w.heap.size,0,none⟩=some (.int .i64 a):=(hb1.cell (p:=⟨w.heap.size,0,none⟩) (by simp;omega)).trans (by simp);have e1:w1.cell? ⟨w.heap.size,1,none⟩=some (.int .i64 l):=(hb1.cell (p:=⟨w.heap.size,1,none⟩) (by simp;omega)).trans (by simp);have hz1:=hb1.size;simp at hz1;have d0:=Ws.cell (n:=w.heap.size+1) (w:=w1) (by omega) e0;have d1:=Ws.cell (n:=w.heap.size+1) (w:=w1) (by omega) e1;refine P3 (w.heap.size+1) 3 (by kernel_rfl) rfl rfl (by kernel_rfl) ?_;simp only[List.drop_succ_cons,List.drop_zero];have hB:Below w.heap.size w w1:=((((zD).alloc (zE) _).alloc (by simp) _).drew).trans (hb1.mono (by simp;omega));clear hb1 hz1 e0 e1
 cases hrt:rt a l
 ·repeat(go_big_quiet_step (fail))
  refine wpQuiet_nil ?_;rintro _ ⟨u,rfl⟩;have hu:=hB.trans (u.property.mono (Nat.le_succ _));go_wp2;go_ret;exact⟨by rw[hrt];rfl,hu⟩
 ·obtain⟨h0,h1,h2,h3, -⟩:=bE hrt;have hp:=XC l;have hp2:=cJ l;by_cases hax:a<=x
  ·repeat(go_big_quiet_step ((go_at_call 142;exact Calls.in_ws_same (span_any _ _ (by omega) (by omega)))))
   refine wpQuiet_nil ?_;rintro _ ⟨u,rfl⟩;have hu:=hB.trans (u.property.mono (Nat.le_succ _));go_wp2;go_ret;exact⟨by rw[hrt,decide_eq_true hax];rfl,hu⟩
  ·have hd:decide (a<=x)=false:=by simpa using hax
   repeat(go_big_quiet_step (fail))
   refine wpQuiet_nil ?_;rintro _ ⟨u,rfl⟩;have hu:=hB.trans (u.property.mono (Nat.le_succ _));go_wp2;go_ret;exact⟨by first|(rw[hrt,hd];rfl)|rfl,hu⟩
def iH(a l c m:Int):Bool:=rt a l&&rt c m&&decide (m<=l)&&I3 c m a
theorem inside_any(a l c m:Int)(w:World):
  Calls Tryz.prog 163 #[.agg #[.int .i64 a, .int .i64 l], .agg #[.int .i64 c, .int .i64 m]] w fun e w'=>e= .returned (.bool (iH a l c m))/\Below w.heap.size w w':=by
 unfold iH;go_enter Tryz.func163,Tryz.ntmps163;go_wp2_with fail;refine(XZ (w.heap.size+1+1) a l c m _ (by simp) (by go_simp) (by go_simp) (by go_simp) (by go_simp)).mono ?_;rintro e w1 ⟨rfl,hb1⟩;have e0:w1.cell? ⟨w.heap.size,0,none⟩=some (.int .i64 a):=(hb1.cell (p:=⟨w.heap.size,0,none⟩) (by simp;omega)).trans (by go_simp);have e1:w1.cell? ⟨w.heap.size,1,none⟩=some (.int .i64 l):=(hb1.cell (p:=⟨w.heap.size,1,none⟩) (by simp;omega)).trans (by go_simp);have e2:w1.cell? ⟨w.heap.size+1,0,none⟩=some (.int .i64 c):=(hb1.cell (p:=⟨w.heap.size+1,0,none⟩) (by simp)).trans (by go_simp);have e3:w1.cell? ⟨w.heap.size+1,1,none⟩=some (.int .i64 m):=(hb1.cell (p:=⟨w.heap.size+1,1,none⟩) (by simp)).trans (by go_simp);have hB:Below w.heap.size w w1:=((((zD).alloc (zE) _).alloc (by simp) _).alloc (by simp;omega) _).trans (hb1.mono (by simp;omega));clear hb1
 cases hrt:(rt a l&&rt c m)
 ·go_wp2;go_ret;exact⟨by rw[hrt];rfl,hB⟩
 ·by_cases hml:m<=l
  ·go_wp2_with (go_at_call 212;refine(holds_any _ _ _ _).mono ?_;rintro e w2 ⟨rfl,hb2⟩);go_ret;exact⟨by rw[hrt,decide_eq_true hml];rfl,hB.trans (hb2.mono hB.size)⟩
  ·have hd:decide (m<=l)=false:=by simpa using hml
   go_wp2;go_ret;exact⟨by rw[hrt,hd];rfl,hB⟩
def kL(a l c m:Int):Bool:=iH a l c m||iH c m a l
theorem meets_any(a l c m:Int)(w:World):
  Calls Tryz.prog 146 #[.agg #[.int .i64 a, .int .i64 l], .agg #[.int .i64 c, .int .i64 m]] w fun e w'=>e= .returned (.bool (kL a l c m))/\Below w.heap.size w w':=by
 unfold kL;go_enter Tryz.func146,Tryz.ntmps146;go_wp2_with fail;refine(inside_any a l c m _).mono ?_;rintro e w1 ⟨rfl,hb1⟩;have e0:w1.cell? ⟨w.heap.size,0,none⟩=some (.int .i64 a):=(hb1.cell (p:=⟨w.heap.size,0,none⟩) (by simp;omega)).trans (by simp);have e1:w1.cell? ⟨w.heap.size,1,none⟩=some (.int .i64 l):=(hb1.cell (p:=⟨w.heap.size,1,none⟩) (by simp;omega)).trans (by simp);have e2:w1.cell? ⟨w.heap.size+1,0,none⟩=some (.int .i64 c):=(hb1.cell (p:=⟨w.heap.size+1,0,none⟩) (by simp)).trans (by simp);have e3:w1.cell? ⟨w.heap.size+1,1,none⟩=some (.int .i64 m):=(hb1.cell (p:=⟨w.heap.size+1,1,none⟩) (by simp)).trans (by simp);have hB:Below w.heap.size w w1:=(((zD).alloc (zE) _).alloc (by simp) _).trans (hb1.mono (by simp;omega));clear hb1
 cases hrt:iH a l c m
 ·go_wp2_with (go_at_call 163;refine(inside_any _ _ _ _ _).mono ?_;rintro e w2 ⟨rfl,hb2⟩);go_ret;exact⟨by rw[hrt];rfl,hB.trans (hb2.mono hB.size)⟩
 ·go_wp2;go_ret;exact⟨by rw[hrt];rfl,hB⟩
theorem CC(l:Int)(h0:0<=l)(h1:l<=16):sp l=(2:Int)^(16- l).toNat:=by
 rcases l_cases l h0 h1 with rfl|rfl|rfl|rfl|rfl|rfl|rfl|rfl|rfl|rfl|rfl|rfl|rfl|rfl|rfl|rfl|rfl<;>decide
theorem lA(h0:0<=m)(h1:m<=l)(h2:l<=16):sp l∣sp m:=by
 rw[CC l (by omega) h2,CC m h0 (by omega)];have h:(16- m).toNat=(16- l).toNat+(l- m).toNat:=by omega
 rw[h,Int.pow_add];exact Int.dvd_mul_right _ _
theorem DY(h0:0<=m)(h1:m<=l)(h2:l<=16):sp l<=sp m:=
 Int.le_of_dvd (cJ m) (lA h0 h1 h2)
theorem MU(h0:0<=l)(h1:l<m)(h2:m<=16):2*sp m<=sp l:=by
 have h:=DY (l:=l+1) (m:=l+1) (by omega) (by omega) (by omega);have h3:=DY (l:=m) (m:=l+1) (by omega) (by omega) h2;have h4:sp l=2*sp (l+1):=by
  rw[CC l h0 (by omega),CC (l+1) (by omega) (by omega)];have:(16- l).toNat=(16- (l+1)).toNat+1:=by omega
  rw[this,Int.pow_succ];omega
 omega
theorem rZ{s:Int}(hs:0<s)(ha:s∣a)(he:s∣e)(h:a<e):a+s<=e:=by
 obtain⟨x,rfl⟩:=ha;obtain⟨y,rfl⟩:=he;have hxy:x<y:=Int.lt_of_mul_lt_mul_left h (Int.le_of_lt hs);have h1:s*(x+1)<=s*y:=Int.mul_le_mul_of_nonneg_left (by omega) (Int.le_of_lt hs);rw[Int.mul_add,Int.mul_one]at h1;exact h1
theorem LG(a l c m:Int)(h1:rt a l=true)(h2:rt c m=true):iH a l c m=(I3 c m a&&I3 c m (a+sp l- 1)):=by
 obtain⟨l0,l1,a0,a1,ad⟩:=bE h1;obtain⟨m0,m1,c0,c1,cd⟩:=bE h2;have pl:=cJ l;have pm:=cJ m;unfold iH I3;rw[h1,h2];rw[Bool.eq_iff_iff];simp only[Bool.true_and,zH,decide_eq_true_eq];constructor
 ·rintro⟨hml,h3,h4⟩;have hd:=lA m0 hml l1;have:=rZ pl (Int.dvd_of_emod_eq_zero ad) (Int.dvd_add (Int.dvd_trans hd (Int.dvd_of_emod_eq_zero cd)) hd) h4;omega
 ·rintro⟨⟨h3,h4⟩,h5,h6⟩;refine⟨?_,h3,h4⟩;by_cases hml:m<=l
  ·exact hml
  ·have:=MU l0 (by omega) m1;omega
theorem LH(a l c m:Int)(h1:rt a l=true)(h2:rt c m=true):kL a l c m=(decide (a<=c+sp m- 1)&&decide (c<=a+sp l- 1)):=by
 obtain⟨l0,l1,a0,a1,ad⟩:=bE h1;obtain⟨m0,m1,c0,c1,cd⟩:=bE h2;have pl:=cJ l;have pm:=cJ m;unfold kL iH I3;rw[h1,h2];rw[Bool.eq_iff_iff];simp only[Bool.true_and,zH,Bool.or_eq_true,decide_eq_true_eq];constructor
 ·rintro(⟨hml,h3,h4⟩|⟨hml,h3,h4⟩)<;>omega
 ·rintro⟨h3,h4⟩;by_cases hml:m<=l
  ·left;refine⟨hml,?_,by omega⟩;have hd:=lA m0 hml l1;by_cases hca:c<=a
   ·exact hca
   ·have:=rZ pl (Int.dvd_of_emod_eq_zero ad) (Int.dvd_trans hd (Int.dvd_of_emod_eq_zero cd)) (by omega);omega
  ·right;refine⟨by omega,?_,by omega⟩;have hd:=lA l0 (show l<=m by omega) m1;by_cases hca:a<=c
   ·exact hca
   ·have:=rZ pm (Int.dvd_of_emod_eq_zero cd) (Int.dvd_trans hd (Int.dvd_of_emod_eq_zero ad)) (by omega);omega
def dE(x lo hi:Int):Bool:=decide (lo<=x)&&decide (x<=hi)
theorem bl1(w:World)(o:Obj):Below w.heap.size w (w.alloc o):=(zD).alloc (zE) _
theorem bO(w:World)(o p:Obj):Below w.heap.size w ((w.alloc o).alloc p):=(bl1 w o).alloc (by simp) _
theorem aM{a b:Bool}(h:a=b):Ending.returned (.bool a)= .returned (.bool b):=by rw[h]
theorem cO{b:Int}(h:a=b):Ending.returned (.int .i64 a)= .returned (.int .i64 b):=by rw[h]
theorem MV(h:rt a l=true):tW a l=0:=by unfold rt at h;simpa using h
theorem aY{b' o':Nat}(h:b≠b'):(w.setCell ⟨b',o',none⟩ v).cell? ⟨b,o,none⟩=w.cell? ⟨b,o,none⟩:=
 World.cell?_of_block (Below.heap_setCell _ _ _ _ h)
theorem MW{p:Addr}:w.drew.cell? p=w.cell? p:=rfl
theorem MX(a l:Int)(w:World)(h:rt a l=true)(h16:l<16):
  Calls Tryz.prog 280 #[.agg #[.int .i64 a, .int .i64 l]] w fun e w'=>e= .returned (.tuple #[.agg #[.int .i64 a, .int .i64 (l+1)], .agg #[.int .i64 (a+sp (l+1)), .int .i64 (l+1)], .int .i64 0])/\Below w.heap.size w w':=by
 have hc0:=MV h;have hb:(tW a l==0)=true:=by simp[hc0]
 have hb2:(tW a l !=0)=false:=by simp[hc0]
 have hl:(l==16)=false:=by simp;omega
 clear hc0;obtain⟨l0,l1,a0,a1, -⟩:=bE h;have hp:=cJ (l+1);have hq:=XC (l+1);go_enter Tryz.func280,Tryz.ntmps280;go_wp2_with fail;refine(check_any a l _).mono ?_;rintro e w1 ⟨rfl,hb1⟩;obtain⟨hc,hf⟩:=aAr hb1;simp only[World.size_alloc]at hc hf;have hB:Below w.heap.size w w1:=((bO w _ _).alloc (by simp;omega) _).trans (hb1.mono (by simp;omega));clear hb1;have e0:w1.cell? ⟨w.heap.size,0,none⟩=some (.int .i64 a):=(hc _ _ (by omega)).trans (by go_simp);have e1:w1.cell? ⟨w.heap.size,1,none⟩=some (.int .i64 l):=(hc _ _ (by omega)).trans (by go_simp);go_wp2;go_region_held3 (fun w'=>w'.cell? ⟨w.heap.size,0,none⟩=some (.int .i64 a)) (first|(go_keep;done)|(show World.cell? _ _=_;rw[MW];(repeat rw[aY (by omega)]);assumption)) (first|(go_at_call 142;refine(span_any _ _ (by omega) (by omega)).mono ?_;rintro e w2 ⟨rfl,rfl⟩)|fail)
 have hwr:IntKind.i64.wrap (a+sp (l+1))=a+sp (l+1):=by rw[IntKind.wrap_i64];omega
 rw[hwr];go_wp2;refine bodyPost_ret (v:= .tuple #[.agg #[.int .i64 a, .int .i64 (l+1)], .agg #[.int .i64 (a+sp (l+1)), .int .i64 (l+1)], .int .i64 0]) (by simp[results,Tryz.results280,go_sem,hc]) rfl ⟨rfl,?_⟩;exact((((hB.setCell (by simp) _).setCell (by simp) _).setCell (by simp;omega) _).setCell (by simp;omega) _).drew
def cM(ps:List (Int×Int))(i:Nat):Int:=(ps.getD i (0,0)).1
def eF(ps:List (Int×Int))(i:Nat):Int:=(ps.getD i (0,0)).2
structure PS(w:World)(x:Option Addr)(n:Nat)(ps:List (Int×Int)):Prop where
 len:ps.length=n
 cells:∀i,i<n->∃b o,x=some ⟨b,o,none⟩/\w.cell? ⟨b,o+i*2,none⟩=some (.int .i64 (cM ps i))/\w.cell? ⟨b,o+i*2+1,none⟩=some (.int .i64 (eF ps i))
theorem PS.later(h:PS w x n ps)(hb:Below w.heap.size w w'):PS w' x n ps where
 len:=h.len
 cells:=fun i hi=>by
  obtain⟨b,o,hx,c0,c1⟩:=h.cells i hi;exact⟨b,o,hx,cell_later hb c0,cell_later hb c1⟩
theorem PS.idx(h:PS w x n ps):∀i,i<n->∃b o,x=some ⟨b,o,none⟩/\∀q,q<2->w.cell? ⟨b,o+i*2+q,none⟩=some ([.int .i64 (cM ps i), .int .i64 (eF ps i)].getD q (.bool true)):=fun i hi=>by
 obtain⟨b,o,hx,d0,d1⟩:=h.cells i hi;exact⟨b,o,hx,by rintro(_|_|q) hq<;>first|assumption|omega⟩
def MY(a l:Int)(ps:List (Int×Int))(i:Nat):Bool:=iH (cM ps i) (eF ps i) a l&&(i==0||(decide (cM ps (i- 1)<cM ps i)&&!kL (cM ps (i- 1)) (eF ps (i- 1)) (cM ps i) (eF ps i)))
def eP(a l:Int)(ps:List (Int×Int)):Bool:=(List.range ps.length).all (MY a l ps)
theorem Ws.here(h:w.cell? ⟨b,o,none⟩=some v)(u:Ws w.heap.size w):u.val.cell? ⟨b,o,none⟩=some v:=
 cell_later u.property h
theorem uA(a l c m:Int)(t:Bool)(h:iH a l c m=t)(w:World):
  Calls Tryz.prog 163 #[.agg #[.int .i64 a, .int .i64 l], .agg #[.int .i64 c, .int .i64 m]] w fun e w'=>e= .returned (.bool t)/\Below w.heap.size w w':=by
 subst h;exact inside_any a l c m w
theorem P6(a l c m:Int)(t:Bool)(h:kL a l c m=t)(w:World):
  Calls Tryz.prog 146 #[.agg #[.int .i64 a, .int .i64 l], .agg #[.int .i64 c, .int .i64 m]] w fun e w'=>e= .returned (.bool t)/\Below w.heap.size w w':=by
 subst h;exact meets_any a l c m w
theorem MZ(h:∀j,j<ps.length->MY a l ps j=true):eP a l ps=true:=by
 unfold eP;rw[List.all_eq_true];intro j hj;exact h j (by simpa using hj)
def kM(a l:Int)(n:Nat)(ps:List (Int×Int)):Int:=if 32<n then 2 else if rt a l&&eP a l ps then 0 else 1
open Go Go.RowKit Go.Shelf
structure Kl(T:Nat->Obj->Prop)(n₀:Nat)(L:List Nat)(W W':World):Prop where
 os:W'.os=W.os
 tape:W'.tape=W.tape
 output:W'.output=W.output
 size:W.heap.size<=W'.heap.size
 same:∀(k:Nat) (o:Obj),k∉L->W.heap[k]?=some o->(k<n₀\/o.isCells=false\/T k o)->W'.heap[k]?=some o
variable {T : Nat → Obj → Prop} {n₀ : Nat} {L : List Nat}
theorem Kl.trans{C:World}(h:Kl T n₀ L A B)(k:Kl T n₀ L B C):Kl T n₀ L A C:=
 ⟨k.os.trans h.os,k.tape.trans h.tape,k.output.trans h.output,Nat.le_trans h.size k.size,fun i o hi ho hg=>k.same i o hi (h.same i o hi ho hg) hg⟩
theorem Kl.more(h:Kl T n₀ L A B)(hs:∀k,k∈L->k∈L'):Kl T n₀ L' A B:=
 ⟨h.os,h.tape,h.output,h.size,fun i o hi ho hg=>h.same i o (fun hk=>hi (hs i hk)) ho hg⟩
theorem Kl.less(h:Kl T n₀ L' A B)(hs:∀k,k∈L'->k∈L\/A.heap.size<=k):Kl T n₀ L A B:=
 ⟨h.os,h.tape,h.output,h.size,fun i o hi ho hg=>h.same i o (fun hk=>by
  rcases hs i hk with h1|h1
  ·exact hi h1
  ·have:=(zG ho);omega) ho hg⟩
theorem Kl.of_below(h:Below A.heap.size A B):Kl T n₀ L A B:=
 ⟨h.os,h.tape,h.output,h.size,fun k _ _ ho _=>(h.block k (zG ho)).trans ho⟩
theorem Kl.put(W:World)(l:Nat)(o:Obj)(hl:l∈L):Kl T n₀ L W (W.putObj l o):=
 ⟨rfl,rfl,rfl,by simp,fun k _ hk ho _=>(World.putObj_heap_other (fun e=>by subst e;exact hk hl)).trans ho⟩
theorem Kl.putNew(h:Kl T n₀ L A B)(l:Nat)(o:Obj)(hl:A.heap.size<=l):Kl T n₀ L A (B.putObj l o):=
 ⟨h.os,h.tape,h.output,by simpa using h.size,fun k o' hk ho hg=>(World.putObj_heap_other (fun e=>by have:=(zG ho);omega)).trans (h.same k o' hk ho hg)⟩
def M0(T:Nat->Obj->Prop)(n₀ pr:Nat){α:Type}(F:Fence)(n:Nat)(P:Program)(g:Nat)(lb:Array Value)(encs:α->Array Value)(S Sp:List α->Prop)(w:World):Prop:=
 ∀(l:Nat) (L:List Nat) (J Jx:List α->World->Prop) (W:World),Below w.heap.size w W->OwnFrom W.heap.size J->OwnFrom W.heap.size Jx->(∀k,k∈L->n₀<=k/\k<W.heap.size/\k≠pr)->
  (∀pre x W1,Sp (pre++[x])->J pre W1->YieldAt F (n- 1) P l (encs x) W1 fun e W'=>
   Kl T n₀ L W1 W'/\((e= .returned (.bool true)/\J (pre++[x]) W')\/(e= .returned (.bool false)/\Jx (pre++[x]) W')))->
  J [] W->
  CallsIn F n P g (#[.func (.yield l) #[] #[]]++lb) W fun e W'=>(∃v,e= .returned v)/\Kl T n₀ L W W'/\((∃xs,S xs/\J xs W')\/(∃pre,Sp pre/\Jx pre W'))
def XD(T:Nat->Obj->Prop)(n₀:Nat)(L:List Nat){α:Type}(I Ix:List α->World->Prop)(xs:List α)(W:World):Exit->Act->World->Prop
 | .normal,_,W'=>Kl T n₀ L W W'/\I xs W'
 | .ret,_,W'=>Kl T n₀ L W W'/\Ix xs W'
 |_,_,_=>False
variable {F : Fence} {n : Nat} {P : Program}
theorem lN{B:Nat}{o:Obj}(hg:X.grownBy Y row)(hr:∀r,row=some r->B<=r/\∃o:Obj,X.heap[r]?=some o/\o.isCells=false)(hk:k<B)(h:X.heap[k]?=some o):Y.heap[k]?=some o:=
 (hg.block k (zG h) (fun e=>by have:=(hr k e.symm).1;omega)).trans h
theorem uC{α:Type}{g:Operand}{ps:Array Tmp}{assign body:Code}{Q:Exit->Act->World->Prop}{a:Act}{w:World}
 (hro:F.round=none)(hd:F.depth=none){gf:Nat}{lb:Array Value}(hg:a.eval g= .func (.func gf) #[] lb)(hFg:F.fn gf)(eg:∀args w,(callFunc gf args).run P w= .ok (.enter gf args) w)
 {encs:α->Array Value}{S Sp:List α->Prop}{pr:Nat}(hseq:M0 T n₀ pr F (n- 1) P gf lb encs S Sp w)
 (hn₀:n₀<=w.heap.size)(hpr:pr<w.heap.size)(hL:∀k,k∈L->n₀<=k/\k<w.heap.size/\k≠pr)(hps:∀x,(encs x).size=ps.size)
 (I Ix:List α->World->Prop)(hI:OwnFrom w.heap.size I)(hIx:OwnFrom w.heap.size Ix)(h0:I [] w)
 (Ax:α->Act->World->Prop)(hAx:∀x a',OwnFrom w.heap.size (fun(_:Unit) W=>Ax x a' W))
 (hassign:∀(l:Nat) (pre:List α) (x:α) (W:World) (K:Act->World->Prop),I pre W->(∀a' W',Kl T n₀ L W W'->I pre W'->Ax x a' W'->K a' W')->
   assign.wpIn (F.inRound l) (n- 1- 1) P (Exit.then K (fun _ _ _=>False)) {tmps:=(ps.zip (encs x)).foldl (fun t (p,v)=>t.setIfInBounds p v) a.tmps,defers:=[]} W)
 (hbody:∀(l:Nat) (pre:List α) (x:α) (a':Act) (W:World),w.heap.size<=l->Sp (pre++[x])->I pre W->Ax x a' W->body.wpIn (F.inRound l) (n- 1- 1) P (XD T n₀ L I Ix (pre++[x]) W) a' W)
 (hdone:∀(D:Nat) (xs:List α) (W:World),w.heap.size<=D->S xs->I xs W->Kl T n₀ L w W->W.heap[D]?=some (.deferred (some []))->Q .normal {a with defers:={target:= .collected D,args:=#[]}::a.defers} W)
 (hstop:∀(D:Nat) (pre:List α) (W:World),w.heap.size<=D->Sp pre->Ix pre W->Kl T n₀ L w W->W.heap[D]?=some (.deferred (some []))->Code.ret.wpIn F n P Q {a with defers:={target:= .collected D,args:=#[]}::a.defers} W):
  (Code.rangeFunc g ps assign body).wpIn F n P Q a w:=by
 refine wpIn_rangeFunc ?_;intro fn hfn;rw[hro];obtain⟨rec,hrec⟩:∃rec:LoopState->Option Code->Loop,rec=fun st pe=>{state:=st,pending:=pe,fn,tmps:=a.tmps,params:=ps,assign,body,defers:=w.heap.size}:=⟨_,rfl⟩;obtain⟨W1,hW1⟩:∃W1,(w.alloc (.deferred (some []))).alloc (.loop (rec .ready none))=W1:=⟨_,rfl⟩;obtain⟨N,hN⟩:∃N,w.heap.size=N:=⟨_,rfl⟩;have hz1:W1.heap.size=N+2:=by rw[<-hW1,<-hN];simp
 have hL1:W1.heap[N+1]?=some (.loop (rec .ready none)):=by
  rw[<-hW1,<-hN];have:=World.alloc_heap_new (w.alloc (.deferred (some []))) (.loop (rec .ready none));rwa[World.size_alloc]at this
 have hK1:W1.heap[N]?=some (.deferred (some [])):=by
  rw[<-hW1,<-hN];exact(Below.heap_alloc _ _ _ (by simp)).trans (World.alloc_heap_new w _)
 have hI1:I [] W1:=by rw[<-hW1];exact hI.alloc _ (hI.alloc _ h0)
 have hb1:Below w.heap.size w W1:=by
  rw[<-hW1];exact((Below.refl _ w).alloc (zE) _).alloc (by simp) _
 refine⟨N+1,[{target:= .collected N,args:=#[]}],W1,{target:= .fn (.func gf) lb,args:=#[.func (.yield (N+1)) #[] #[]]},W1,gf,
  #[.func (.yield (N+1)) #[] #[]]++lb,W1,?_,?_,?_,?_,fun h=>(by rw[hd]at h;cases h),?_⟩
 ·rw[<-hW1,hrec,<-hN];exact run_enterLoop_outer _ _ _ _ _
 ·simp only[resolve,hg];simp[go_sem]
 ·intro f' hf';simp[Target.leads]at hf';subst hf';exact hFg
 ·simp[invoke,go_sem,eg]
 ·have hOf:∀{A B:World} {row:Option Nat},(∀r,row=some r->W1.heap.size<=r/\∃o:Obj,A.heap[r]?=some o/\o.isCells=false)->(∀r,row=some r->w.heap.size<=r/\∃o:Obj,A.heap[r]?=some o/\o.isCells=false):=
   fun hr r e=>⟨by have:=(hr r e).1;omega,(hr r e).2⟩
  refine(hseq (N+1) ((N+1)::L)
   (fun pre W=>I pre W/\W.heap[N+1]?=some (.loop (rec .ready none))/\W.heap[N]?=some (.deferred (some [])))
   (fun pre W=>Ix pre W/\W.heap[N+1]?=some (.loop (rec .done (some .ret)))/\W.heap[N]?=some (.deferred (some [])))
   W1 hb1
   (fun s A B row hs hg' hr=>⟨hI s A B row hs.1 hg' (hOf (B:=B) hr),lN hg' hr (by omega) hs.2.1,lN hg' hr (by omega) hs.2.2⟩)
   (fun s A B row hs hg' hr=>⟨hIx s A B row hs.1 hg' (hOf (B:=B) hr),lN hg' hr (by omega) hs.2.1,lN hg' hr (by omega) hs.2.2⟩)
   (fun k hk=>by
    rcases List.mem_cons.1 hk with rfl|hk
    ·exact⟨by omega,by omega,by omega⟩
    ·have:=hL k hk;exact⟨this.1,by omega,this.2.2⟩)
   ?_ ⟨hI1,hL1,hK1⟩).mono ?_
  ·rintro pre x W hsp ⟨hi,hl,hk⟩;have hy:=run_yield (P:=P) (args:=encs x) hl (by rw[hrec];exact hps x);rw[hrec]at hy;refine⟨fn,_,assign,body,hy,roundIn_of_wpIn hfn (hassign _ pre x W _ hi ?_)⟩;clear hy;intro a' Wa hka hia hax;have nL:N+1∉L:=fun hm=>by have:=(hL _ hm).2.1;omega
   have nD:N∉L:=fun hm=>by have:=(hL _ hm).2.1;omega
   replace hl:=hka.same _ _ nL hl (.inr (.inl rfl));replace hk:=hka.same _ _ nD hk (.inr (.inl rfl));have hlt:N+1<Wa.heap.size:=(zG hl);refine⟨_,run_beginRound hl (by rw[hrec]),?_⟩;have hl2:(Wa.putObj (N+1) (.loop {rec .ready none with state:= .busy})).heap[N+1]?=some (.loop {rec .ready none with state:= .busy}):=World.putObj_heap_same hlt
   have hk2:(Wa.putObj (N+1) (.loop {rec .ready none with state:= .busy})).heap[N]?=some (.deferred (some [])):=(World.putObj_heap_other (by omega)).trans hk
   have hm:∀k,k∈L->k∈(N+1)::L:=fun k hk=>List.mem_cons_of_mem _ hk;have hw2:Kl T n₀ ((N+1)::L) W (Wa.putObj (N+1) (.loop {rec .ready none with state:= .busy})):=(hka.more hm).trans (Kl.put _ _ _ (by simp))
   refine wpIn_mono (hbody _ pre x a' _ (by omega) hsp (hI.putObj _ hia (by omega) hl rfl) ((hAx x a').putObj (s:=()) _ hax (by omega) hl rfl)) ?_;have fin:∀(jump:Option Code) (W3:World),Kl T n₀ L (Wa.putObj (N+1) (.loop {rec .ready none with state:= .busy})) W3->
     (Instr.endRound (N+1) jump).run P W3= .ok (.bool jump.isNone) (W3.putObj (N+1) (.loop (rec (if jump.isNone then .ready else .done) jump)))/\
     W3.heap[N+1]?=some (.loop {rec .ready none with state:= .busy})/\
     (W3.putObj (N+1) (.loop (rec (if jump.isNone then .ready else .done) jump))).heap[N+1]?=some (.loop (rec (if jump.isNone then .ready else .done) jump))/\
     (W3.putObj (N+1) (.loop (rec (if jump.isNone then .ready else .done) jump))).heap[N]?=some (.deferred (some []))/\
     Kl T n₀ ((N+1)::L) W (W3.putObj (N+1) (.loop (rec (if jump.isNone then .ready else .done) jump))):=fun jump W3 hk3=>by
    have hl3:=hk3.same _ _ nL hl2 (.inr (.inl rfl));have hkk:=hk3.same _ _ nD hk2 (.inr (.inl rfl));have hq:=(hw2.trans (hk3.more hm)).trans (Kl.put W3 (N+1) (.loop (rec (if jump.isNone then .ready else .done) jump)) (by simp));have:=run_endRound (P:=P) jump hl3;rw[hrec]at this⊢;rw[hrec]at hl3 hq;exact⟨this,hl3,World.putObj_heap_same (zG hl3),(World.putObj_heap_other (by omega)).trans hkk,hq⟩
   rintro e a3 W3 hp
   cases e with
   |normal=>
    obtain⟨hk3,hi3⟩:=hp
    obtain⟨hr,hl3,hl4,hk4,hq⟩:=fin none W3 hk3
    exact⟨_,_,hr,hq, .inl ⟨rfl,hI.putObj _ hi3 (by omega) hl3 rfl,hl4,hk4⟩⟩
   |ret=>
    obtain⟨hk3,hi3⟩:=hp
    obtain⟨hr,hl3,hl4,hk4,hq⟩:=fin (some .ret) W3 hk3
    exact⟨_,_,hr,hq, .inr ⟨rfl,hIx.putObj _ hi3 (by omega) hl3 rfl,hl4,hk4⟩⟩
   |exit id=>exact hp.elim
   |goto t=>exact hp.elim
   |panic ch=>exact hp.elim
   |outgrown=>exact hp.elim
  ·have hend:∀(W2:World) (o:Obj),Kl T n₀ ((N+1)::L) W1 W2->Kl T n₀ L w (W2.putObj (N+1) o):=fun W2 o hq=>
    Kl.less (((Kl.of_below hb1).trans hq).trans (Kl.put W2 (N+1) o (by simp))) (fun k hk=>by
     rcases List.mem_cons.1 hk with rfl|hk
     ·exact .inr (by omega)
     ·exact .inl hk)
   rintro e W2 ⟨⟨v,rfl⟩,hq,(⟨xs,hS,hi,hl,hk⟩|⟨pre,hSp,hi,hl,hk⟩)⟩
   ·exact⟨none,_,by have:=run_endLoop (P:=P) hl (by rw[hrec];simp);rw[hrec]at this;exact this,hdone _ xs _ (by omega) hS (hI.putObj _ hi (by omega) hl rfl) (hend _ _ hq) ((World.putObj_heap_other (by omega)).trans hk)⟩
   ·exact⟨some .ret,_,by have:=run_endLoop (P:=P) hl (by rw[hrec];simp);rw[hrec]at this;exact this,hstop _ pre _ (by omega) hSp (hIx.putObj _ hi (by omega) hl rfl) (hend _ _ hq) ((World.putObj_heap_other (by omega)).trans hk)⟩
variable {T : Nat → Obj → Prop} {n₀ : Nat} {L : List Nat} {F : Fence} {n : Nat} {P : Program}
theorem eI(h:Below X.heap.size X Y):X.grownBy Y none:=
 ⟨h.os,h.tape,h.output,h.size,fun k hk _=>h.block k hk⟩
theorem OwnFrom.later{β:Type}{B:Nat}{I:β->World->Prop}(h:OwnFrom B I){s:β}{X Y:World}(hs:I s X)(hb:Below X.heap.size X Y):I s Y:=
 h s X Y none hs (eI hb) (fun r e=>by cases e)
theorem eY{β:Type}{B:Nat}{I I':β->World->Prop}(h:OwnFrom B I)(h':OwnFrom B I'):OwnFrom B (fun s W=>I s W/\I' s W):=
 fun s X Y row hs hg hr=>⟨h s X Y row hs.1 hg hr,h' s X Y row hs.2 hg hr⟩
theorem sA{β:Type}{B B':Nat}{I:β->World->Prop}(h:OwnFrom B I)(hB:B<=B'):OwnFrom B' I:=
 fun s X Y row hs hg hr=>h s X Y row hs hg (fun r e=>⟨Nat.le_trans hB (hr r e).1,(hr r e).2⟩)
theorem LI{β γ:Type}{B:Nat}{I:β->World->Prop}(h:OwnFrom B I)(f:γ->β):OwnFrom B (fun s W=>I (f s) W):=
 fun s X Y row hs hg hr=>h (f s) X Y row hs hg hr
theorem DZ{β:Type}{B:Nat}{W0:World}(hB:W0.heap.size<=B):OwnFrom B (fun(_:β) W=>Kl T n₀ L W0 W):=
 fun _ X Y row hs hg hr=>⟨hg.os.trans hs.os,hg.tape.trans hs.tape,hg.output.trans hs.output,Nat.le_trans hs.size hg.size,fun k o hk ho hq=>by
  have hX:=hs.same k o hk ho hq;refine(hg.block k (zG hX) (fun e=>?_)).trans hX;have h1:=(hr k e.symm).1;have h2:=(zG ho);omega⟩
theorem xC{c:Code}{a:Act}
 (h:c.wpIn F n P (Exit.then (c.wpIn F n P (Exit.then (c.wpIn F n P (Exit.then (fun _ _=>False) Q)) Q)) Q) a w):(Code.loop c).wpIn F n P Q a w:=by
 classical
 refine wpIn_loop (fun a' w'=>c.wpIn F n P (Exit.then (fun _ _=>False) Q) a' w'\/c.wpIn F n P (Exit.then (c.wpIn F n P (Exit.then (fun _ _=>False) Q)) Q) a' w'\/(a'=a/\w'=w))
  (fun a' w'=>if c.wpIn F n P (Exit.then (fun _ _=>False) Q) a' w' then 0 else if c.wpIn F n P (Exit.then (c.wpIn F n P (Exit.then (fun _ _=>False) Q)) Q) a' w' then 1 else 2) (.inr (.inr ⟨rfl,rfl⟩)) ?_
 intro a' w' hI;by_cases h0:c.wpIn F n P (Exit.then (fun _ _=>False) Q) a' w'
 ·exact Go.wpIn_mono h0 (fun e a w q=>by cases e<;>first|exact q|exact q.elim)
 ·by_cases h1:c.wpIn F n P (Exit.then (c.wpIn F n P (Exit.then (fun _ _=>False) Q)) Q) a' w'
  ·refine Go.wpIn_mono h1 (fun e a w q=>?_)
   cases e with
   |normal=>exact⟨.inl q,by simp only[if_pos (show c.wpIn F n P (Exit.then (fun _ _=>False) Q) a w from q),if_neg h0,if_pos h1];omega⟩
   |_=>exact q
  ·have hs:a'=a/\w'=w:=by
    rcases hI with h|h|h
    ·exact absurd h h0
    ·exact absurd h h1
    ·exact h
   obtain⟨rfl,rfl⟩:=hs;refine Go.wpIn_mono h (fun e a w q=>?_)
   cases e with
   |normal=>
    refine⟨.inr (.inl q),?_⟩
    simp only[if_neg h0,if_neg h1,if_pos (show c.wpIn F n P (Exit.then (c.wpIn F n P (Exit.then (fun _ _=>False) Q)) Q) a w from q)]
    split<;>omega
   |_=>exact q
def lO(x:Int×Int):Value:= .agg #[.int .i64 x.1, .int .i64 x.2]
theorem gI{g:Operand}{p:Nat}{assign body:Code}{a:Act}
 (hro:F.round=none)(hd:F.depth=none){gf:Nat}{lb:Array Value}(hg:a.eval g= .func (.func gf) #[] lb)(hFg:F.fn gf)(eg:∀args w,(callFunc gf args).run P w= .ok (.enter gf args) w)
 {S Sp:List (Int×Int)->Prop}{pr:Nat}(hseq:M0 T n₀ pr F (n- 1) P gf lb (fun x=>#[lO x]) S Sp w)
 (hn₀:n₀<=w.heap.size)(hpr:pr<w.heap.size)(hL:∀k,k∈L->n₀<=k/\k<w.heap.size/\k≠pr)
 (I Ix:List (Int×Int)->World->Prop)(hI:OwnFrom w.heap.size I)(hIx:OwnFrom w.heap.size Ix)(h0:I [] w)
 (hassign:∀(l:Nat) (x:Int×Int) (W:World) (K:Act->World->Prop),(∀Bx W',Below W.heap.size W W'->W.heap.size<=Bx->W'.cell? ⟨Bx,0,none⟩=some (.int .i64 x.1)->W'.cell? ⟨Bx,1,none⟩=some (.int .i64 x.2)->
    K {tmps:=(a.tmps.setIfInBounds p (lO x)).setIfInBounds h (.pointer (some ⟨Bx,0,none⟩)),defers:=[]} W')->
   assign.wpIn (F.inRound l) (n- 1- 1) P (Exit.then K (fun _ _ _=>False)) {tmps:=a.tmps.setIfInBounds p (lO x),defers:=[]} W)
 (hbody:∀(l:Nat) (pre:List (Int×Int)) (x:Int×Int) (Bx:Nat) (W:World),w.heap.size<=l->Sp (pre++[x])->I pre W->W.cell? ⟨Bx,0,none⟩=some (.int .i64 x.1)->W.cell? ⟨Bx,1,none⟩=some (.int .i64 x.2)->
   body.wpIn (F.inRound l) (n- 1- 1) P (XD T n₀ L I Ix (pre++[x]) W) {tmps:=(a.tmps.setIfInBounds p (lO x)).setIfInBounds h (.pointer (some ⟨Bx,0,none⟩)),defers:=[]} W)
 (hdone:∀(D:Nat) (xs:List (Int×Int)) (W:World),w.heap.size<=D->S xs->I xs W->Kl T n₀ L w W->W.heap[D]?=some (.deferred (some []))->Q .normal {a with defers:={target:= .collected D,args:=#[]}::a.defers} W)
 (hstop:∀(D:Nat) (pre:List (Int×Int)) (W:World),w.heap.size<=D->Sp pre->Ix pre W->Kl T n₀ L w W->W.heap[D]?=some (.deferred (some []))->Code.ret.wpIn F n P Q {a with defers:={target:= .collected D,args:=#[]}::a.defers} W):
  (Code.rangeFunc g #[p] assign body).wpIn F n P Q a w:=
 uC hro hd hg hFg eg hseq hn₀ hpr hL (fun _=>rfl) I Ix hI hIx h0
  (fun x a' W=>∃Bx,W.cell? ⟨Bx,0,none⟩=some (.int .i64 x.1)/\W.cell? ⟨Bx,1,none⟩=some (.int .i64 x.2)/\a'={tmps:=(a.tmps.setIfInBounds p (lO x)).setIfInBounds h (.pointer (some ⟨Bx,0,none⟩)),defers:=[]})
  (fun x a' _ X Y row hs hg hr=>by
   obtain⟨Bx,c0,c1,ha⟩:=hs;exact⟨Bx,cell_kept c0 hg (fun r e=>(hr r e).2),cell_kept c1 hg (fun r e=>(hr r e).2),ha⟩)
  (fun l pre x W K hi hK=>by
   have:=hassign l x W K (fun Bx W' hb _ c0 c1=>hK _ _ (Kl.of_below hb) (OwnFrom.later hI hi hb) ⟨Bx,c0,c1,rfl⟩);have e:(#[p].zip #[lO x]).foldl (fun t (p,v)=>t.setIfInBounds p v) a.tmps=a.tmps.setIfInBounds p (lO x):=by simp
   rw[e];exact this)
  (fun l pre x a' W hl hsp hi hax=>by
   obtain⟨Bx,c0,c1,rfl⟩:=hax;exact hbody l pre x Bx W hl hsp hi c0 c1)
  hdone hstop
def P7(g:Nat)(cap:Array Value)(n:Nat)(ps:List (Int×Int))(f:Nat->Bool)(w:World):Prop:=
 ∀i,i<n->∀W,Below w.heap.size w W->Calls Tryz.prog g (#[.agg #[.int .i64 (cM ps i), .int .i64 (eF ps i)]]++cap) W fun e W'=>e= .returned (.bool (f i))/\Below W.heap.size W W'
theorem BQ(g:Nat)(cap:Array Value)(x:Option Addr)(n c:Nat)(ps:List (Int×Int))(f:Nat->Bool)(w:World)(hp:PS w x n ps)(hn:n<=64)(hF:P7 g cap n ps f w)
 (hg:∀args W,(callFunc g args).run Tryz.prog W= .ok (.enter g args) W):
  Calls Tryz.prog 282 #[.slice x n c, .func (.func g) #[] cap] w fun e w'=>(∃r:Int,e= .returned (.int .i64 r)/\((∃i:Nat,i<n/\f i=true/\(∀j,j<i->f j=false)/\r=i)\/((∀j,j<n->f j=false)/\r= -1)))/\Below w.heap.size w w':=by
 have HF:Hid (P7 g cap n ps f w):=hF;clear hF;go_enter Tryz.func282,Tryz.ntmps282;go_wp2;go_loopw [8] (fun i wr=>∃k:Nat,k<=n/\i= .int .i64 k/\Below w.heap.size w wr/\(∀j,j<k->f j=false)) (fun i _=>n- (intOf i).toNat)
 case atStart=>exact⟨0,by omega,rfl,zD,fun j hj=>by omega⟩
 case round=>
  obtain⟨k,hk,rfl,hB,hno⟩:=hrel
  by_cases hlt:k<n
  ·obtain⟨b,o,rfl,c0,c1⟩:=hp.cells k hlt;have d0:=cell_later hB c0;have d1:=cell_later hB c1;go_wp2_with fail;refine(HF.out k hlt _ hB).mono ?_;rintro e w1 ⟨rfl,hb1⟩;have hC:=hB.trans (hb1.mono hB.size)
   cases hf:f k
   ·go_wp2;go_roundw
    case rel=>exact⟨k+1,hlt,by go_num,hC,fun j hj=>by
     by_cases hj2:j<k
     ·exact hno j hj2
     ·obtain rfl:j=k:=by omega
      exact hf⟩
    case measure=>simp[intOf];omega
   ·go_wp2;go_ret;exact⟨⟨_,rfl, .inl ⟨k,hlt,hf,hno,rfl⟩⟩,hC⟩
  ·go_wp2;go_ret;exact⟨⟨_,rfl, .inr ⟨fun j hj=>hno j (by omega),rfl⟩⟩,hB⟩
def anyAt(n:Nat)(f:Nat->Bool):Bool:=(List.range n).any f
theorem nJ(h:∀j,j<n->f j=false):anyAt n f=false:=by
 unfold anyAt;rw[List.any_eq_false];intro j hj;simp[h j (by simpa using hj)]
theorem bR(hk:k<n)(h:f k=true):anyAt n f=true:=by
 unfold anyAt;rw[List.any_eq_true];exact⟨k,by simpa using hk,h⟩
theorem gJ(g:Nat)(cap:Array Value)(x:Option Addr)(n c:Nat)(ps:List (Int×Int))(f:Nat->Bool)(w:World)(hp:PS w x n ps)(hn:n<=64)(hF:P7 g cap n ps f w)
 (hg:∀args W,(callFunc g args).run Tryz.prog W= .ok (.enter g args) W):
  Calls Tryz.prog 278 #[.slice x n c, .func (.func g) #[] cap] w fun e w'=>e= .returned (.bool (anyAt n f))/\Below w.heap.size w w':=by
 have H:=BQ g cap x n c ps f w hp hn hF hg;have H':Hid (Calls Tryz.prog 282 #[.slice x n c, .func (.func g) #[] cap] w fun e w'=>(∃r:Int,e= .returned (.int .i64 r)/\decide (r≥0)=anyAt n f)/\Below w.heap.size w w'):=(H.mono fun e w' h=>by
  obtain⟨⟨r,rfl,hr⟩,hb⟩:=h;refine⟨⟨r,rfl,?_⟩,hb⟩;rcases hr with ⟨i,hi,hfi,_,rfl⟩|⟨hno,rfl⟩
  ·rw[bR hi hfi];simp
  ·rw[nJ hno];rfl)
 clear hF H;go_enter Tryz.func278,Tryz.ntmps278;go_wp2_with fail;refine H'.out.mono ?_;rintro e w1 ⟨⟨r,rfl,hr⟩,hb1⟩;go_wp2;go_ret;exact⟨rfl,hb1⟩
theorem I4(a l c m:Int)(b:Nat)(w:World)(h0:w.cell? ⟨b,0,none⟩=some (.int .i64 a))(h1:w.cell? ⟨b,1,none⟩=some (.int .i64 l)):
  Calls Tryz.prog 281 #[.agg #[.int .i64 c, .int .i64 m], .pointer (some ⟨b,0,none⟩)] w fun e w'=>e= .returned (.bool (kL a l c m))/\Below w.heap.size w w':=by
 have k0:∀q,(w.alloc q).cell? ⟨b,0,none⟩=some (.int .i64 a):=fun q=>cell_later (bl1 w q) h0;have k1:∀q,(w.alloc q).cell? ⟨b,1,none⟩=some (.int .i64 l):=fun q=>cell_later (bl1 w q) h1;go_enter Tryz.func281,Tryz.ntmps281;go_wp2_with (go_at_call 146;refine(meets_any a l c m _).mono ?_;rintro e w1 ⟨rfl,hb1⟩);go_ret;exact⟨rfl,(bl1 w _).trans (hb1.mono (by simp))⟩
theorem F0(a l c m:Int)(b:Nat)(w:World)(h0:w.cell? ⟨b,0,none⟩=some (.int .i64 a))(h1:w.cell? ⟨b,1,none⟩=some (.int .i64 l)):
  Calls Tryz.prog 279 #[.agg #[.int .i64 c, .int .i64 m], .pointer (some ⟨b,0,none⟩)] w fun e w'=>e= .returned (.bool (iH a l c m))/\Below w.heap.size w w':=by
 have k0:∀q,(w.alloc q).cell? ⟨b,0,none⟩=some (.int .i64 a):=fun q=>cell_later (bl1 w q) h0;have k1:∀q,(w.alloc q).cell? ⟨b,1,none⟩=some (.int .i64 l):=fun q=>cell_later (bl1 w q) h1;go_enter Tryz.func279,Tryz.ntmps279;go_wp2_with (go_at_call 163;refine(inside_any a l c m _).mono ?_;rintro e w1 ⟨rfl,hb1⟩);go_ret;exact⟨rfl,(bl1 w _).trans (hb1.mono (by simp))⟩
theorem P8(z c m:Int)(b:Nat)(w:World)(h0:w.cell? ⟨b,0,none⟩=some (.int .i64 z)):
  Calls Tryz.prog 243 #[.agg #[.int .i64 c, .int .i64 m], .pointer (some ⟨b,0,none⟩)] w fun e w'=>e= .returned (.bool (decide (m<=z)))/\Below w.heap.size w w':=by
 have k0:∀q,(w.alloc q).cell? ⟨b,0,none⟩=some (.int .i64 z):=fun q=>cell_later (bl1 w q) h0;go_enter Tryz.func243,Tryz.ntmps243;go_wp2;go_ret;exact⟨rfl,bl1 w _⟩
def mtsAny(a l:Int)(ps:List (Int×Int)):Bool:=anyAt ps.length fun i=>kL a l (cM ps i) (eF ps i)
def nK(a l:Int)(ps:List (Int×Int)):Bool:=anyAt ps.length fun i=>iH a l (cM ps i) (eF ps i)
theorem F1(args:Array Value)(W:World):(callFunc 281 args).run Tryz.prog W= .ok (.enter 281 args) W:=by simp[go_sem]
theorem F2(args:Array Value)(W:World):(callFunc 279 args).run Tryz.prog W= .ok (.enter 279 args) W:=by simp[go_sem]
theorem M1(args:Array Value)(W:World):(callFunc 243 args).run Tryz.prog W= .ok (.enter 243 args) W:=by simp[go_sem]
theorem P9(a l:Int)(b n:Nat)(ps:List (Int×Int))(w:World)(h0:w.cell? ⟨b,0,none⟩=some (.int .i64 a))(h1:w.cell? ⟨b,1,none⟩=some (.int .i64 l)):
  P7 281 #[.pointer (some ⟨b,0,none⟩)] n ps (fun i=>kL a l (cM ps i) (eF ps i)) w:=fun _ _ W hW=>
 I4 a l _ _ b W (cell_later hW h0) (cell_later hW h1)
theorem CD(a l:Int)(b n:Nat)(ps:List (Int×Int))(w:World)(h0:w.cell? ⟨b,0,none⟩=some (.int .i64 a))(h1:w.cell? ⟨b,1,none⟩=some (.int .i64 l)):
  P7 279 #[.pointer (some ⟨b,0,none⟩)] n ps (fun i=>iH a l (cM ps i) (eF ps i)) w:=fun _ _ W hW=>
 F0 a l _ _ b W (cell_later hW h0) (cell_later hW h1)
theorem qS(a l:Int)(x:Option Addr)(n c:Nat)(ps:List (Int×Int))(w:World)(hp:PS w x n ps)(hn:n<=64):
  Calls Tryz.prog 277 #[.agg #[.int .i64 a, .int .i64 l], .slice x n c] w fun e w'=>e= .returned (.bool (mtsAny a l ps))/\Below w.heap.size w w':=by
 have hl:=hp.len;go_enter Tryz.func277,Tryz.ntmps277;go_wp2_with fail;refine(gJ 281 _ x n c ps _ _ (hp.later (bl1 w _)) hn (P9 a l w.heap.size n ps _ (by simp) (by simp)) F1).mono ?_;rintro e w1 ⟨rfl,hb1⟩;go_wp2;go_ret;exact⟨aM (by unfold mtsAny;rw[hl]),(bl1 w _).trans (hb1.mono (by simp))⟩
open Go.RowKit Go.Shelf
attribute [local go_sem] Oper.semAt_some
def hol(ps:List (Int×Int)):Nat->Int->Int->List (Int×Int)
 |0,a,l=>if mtsAny a l ps then[]else[(a,l)]
 |f+1,a,l=>if mtsAny a l ps then(if nK a l ps then[]else hol ps f a (l+1)++hol ps f (a+sp (l+1)) (l+1))else[(a,l)]
def TH(n₀:Nat)(k:Nat)(o:Obj):Prop:=n₀<k/\∃v,o= .cells #[v] 203\/o= .cells #[v] 316
theorem yF(a l:Int)(x:Option Addr)(n c m:Nat)(w:World):
  CallsIn Fence.wide m Tryz.prog 268 #[.agg #[.int .i64 a, .int .i64 l], .slice x n c] w fun e w'=>
   e= .returned (.func (.func 276) #[] #[.pointer (some ⟨w.heap.size,0,none⟩), .pointer (some ⟨w.heap.size+1,0,none⟩)])/\w'=(w.alloc (.cells #[.int .i64 a, .int .i64 l] 26)).alloc (.cells #[.slice x n c] 203):=by
 refine callsIn_of_wp Tryz.func268 rfl trivial ?_ rfl;simp only[Tryz.ntmps268,List.size_toArray,List.length_cons,List.length_nil,Nat.reduceAdd,Nat.reduceSub,Array.replicate_succ,Array.replicate_zero,List.push_toArray,List.append_toArray,List.nil_append,List.cons_append];gi_wp2;go_ret;exact⟨rfl,rfl⟩
theorem nM(args:Array Value)(W:World):(callFunc 276 args).run Tryz.prog W= .ok (.enter 276 args) W:=by simp[go_sem]
theorem wB(n₀:Nat)(x:Option Addr)(n c:Nat)(ps:List (Int×Int))(hn:n<=64)(f:Nat)(a l:Int)(hm:mtsAny a l ps=false)(m:Nat)(w:World)(pb ub:Nat)
 (p0:w.cell? ⟨pb,0,none⟩=some (.int .i64 a))(p1:w.cell? ⟨pb,1,none⟩=some (.int .i64 l))(u0:w.cell? ⟨ub,0,none⟩=some (.slice x n c))(hp:PS w x n ps):
  M0 (TH n₀) n₀ ub Fence.wide m Tryz.prog 276 #[.pointer (some ⟨pb,0,none⟩), .pointer (some ⟨ub,0,none⟩)] (fun x=>#[lO x]) (fun xs=>xs=hol ps f a l) (fun pre=>pre<+:hol ps f a l) w:=by
 have hh:hol ps f a l=[(a,l)]:=by cases f<;>simp[hol,hm]
 intro yl L J Jx W hW hJ hJx hL hY h0;rw[hh]at hY⊢;clear hh;have HY:Hid (∀W1,J [] W1->YieldAt Fence.wide (m- 1) Tryz.prog yl #[lO (a,l)] W1 fun e W'=>Kl (TH n₀) n₀ L W1 W'/\((e= .returned (.bool true)/\J [(a,l)] W')\/(e= .returned (.bool false)/\Jx [(a,l)] W'))):=fun W1 h=>hY [] (a,l) W1 (List.prefix_refl _) h;have q0:=cell_later hW p0;have q1:=cell_later hW p1;have v0:=cell_later hW u0;have hp':=hp.later hW;clear hY p0 p1 u0 hp;have k0:∀q,(W.alloc q).cell? ⟨pb,0,none⟩=some (.int .i64 a):=fun q=>cell_later (bl1 W q) q0;have k1:∀q,(W.alloc q).cell? ⟨pb,1,none⟩=some (.int .i64 l):=fun q=>cell_later (bl1 W q) q1;have k2:∀q,(W.alloc q).cell? ⟨ub,0,none⟩=some (.slice x n c):=fun q=>cell_later (bl1 W q) v0;refine callsIn_of_wp_marks Tryz.func276 rfl trivial ?_ rfl;simp only[Tryz.ntmps276,List.size_toArray,List.length_cons,List.length_nil,Nat.reduceAdd,Nat.reduceSub,Array.replicate_succ,Array.replicate_zero,List.push_toArray,List.append_toArray,List.nil_append,List.cons_append];gi_wp2_with fail;refine⟨trivial,(fun h=>(by cases h)),?_⟩;refine(callsIn_wide.2 (qS a l x n c ps _ (hp'.later (bl1 W _)) hn)).mono ?_;rintro e w1 ⟨rfl,hb1⟩;have hB:Below W.heap.size W w1:=(bl1 W _).trans (hb1.mono (by simp));have y0:w1.cell? ⟨W.heap.size,0,none⟩=some (.func (.yield yl) #[] #[]):=(hb1.cell (p:=⟨W.heap.size,0,none⟩) (by simp)).trans (by simp);have r0:=cell_later hB q0;have r1:=cell_later hB q1;obtain⟨fn,tmps,assign,body,hy,hR⟩:=HY.out w1 (OwnFrom.later hJ h0 hB);clear hb1 k0 k1 k2 q0 q1 v0;simp only[lO]at hy;rw[hm];gi_wp2_with fail;refine⟨(fun h=>(by cases h)),?_⟩;refine hR.mono ?_;rintro e W2 ⟨hk,(⟨rfl,hj⟩|⟨rfl,hx⟩)⟩
 ·gi_wp2;refine⟨_,results_none rfl _ _ _,?_⟩;exact⟨⟨_,rfl⟩,(Kl.of_below hB).trans hk, .inl ⟨_,rfl,hj⟩⟩
 ·gi_wp2;refine⟨_,results_none rfl _ _ _,?_⟩;exact⟨⟨_,rfl⟩,(Kl.of_below hB).trans hk, .inr ⟨_,List.prefix_refl _,hx⟩⟩
attribute [local go_sem] Oper.semAt_some
theorem CE(n₀:Nat)(x:Option Addr)(n c:Nat)(ps:List (Int×Int))(hn:n<=64)(f:Nat)(a l:Int)(hm:mtsAny a l ps=true)(hi:nK a l ps=true)(m:Nat)(w:World)(pb ub:Nat)
 (p0:w.cell? ⟨pb,0,none⟩=some (.int .i64 a))(p1:w.cell? ⟨pb,1,none⟩=some (.int .i64 l))(u0:w.cell? ⟨ub,0,none⟩=some (.slice x n c))(hp:PS w x n ps):
  M0 (TH n₀) n₀ ub Fence.wide m Tryz.prog 276 #[.pointer (some ⟨pb,0,none⟩), .pointer (some ⟨ub,0,none⟩)] (fun x=>#[lO x]) (fun xs=>xs=hol ps f a l) (fun pre=>pre<+:hol ps f a l) w:=by
 have hh:hol ps f a l=[]:=by cases f<;>simp[hol,hm,hi]
 intro yl L J Jx W hW hJ hJx hL hY h0;rw[hh];clear hh;have q0:=cell_later hW p0;have q1:=cell_later hW p1;have v0:=cell_later hW u0;have hp':=hp.later hW;clear hY p0 p1 u0 hp;have k0:∀q,(W.alloc q).cell? ⟨pb,0,none⟩=some (.int .i64 a):=fun q=>cell_later (bl1 W q) q0;have k1:∀q,(W.alloc q).cell? ⟨pb,1,none⟩=some (.int .i64 l):=fun q=>cell_later (bl1 W q) q1;have k2:∀q,(W.alloc q).cell? ⟨ub,0,none⟩=some (.slice x n c):=fun q=>cell_later (bl1 W q) v0;refine callsIn_of_wp_marks Tryz.func276 rfl trivial ?_ rfl;simp only[Tryz.ntmps276,List.size_toArray,List.length_cons,List.length_nil,Nat.reduceAdd,Nat.reduceSub,Array.replicate_succ,Array.replicate_zero,List.push_toArray,List.append_toArray,List.nil_append,List.cons_append];gi_wp2_with fail;refine⟨trivial,(fun h=>(by cases h)),?_⟩;refine(callsIn_wide.2 (qS a l x n c ps _ (hp'.later (bl1 W _)) hn)).mono ?_;rintro e w1 ⟨rfl,hb1⟩;have hB:Below W.heap.size W w1:=(bl1 W _).trans (hb1.mono (by simp));have y0:w1.cell? ⟨W.heap.size,0,none⟩=some (.func (.yield yl) #[] #[]):=(hb1.cell (p:=⟨W.heap.size,0,none⟩) (by simp)).trans (by simp);have r0:=cell_later hB q0;have r1:=cell_later hB q1;have v1:=cell_later hB v0;have hl:=hp'.len;clear hb1 k0 k1 k2 q0 q1 v0;rw[hm];gi_wp2_with fail;refine⟨trivial,(fun h=>(by cases h)),?_⟩;refine(callsIn_wide.2 (gJ 279 _ x n c ps _ _ (hp'.later hB) hn (CD a l pb n ps _ r0 r1) F2)).mono ?_;rintro e w2 ⟨rfl,hb2⟩;have hC:Below W.heap.size W w2:=hB.trans (hb2.mono hB.size);have hi':anyAt n (fun i=>iH a l (cM ps i) (eF ps i))=true:=by rw[<-hl];exact hi
 rw[hi'];gi_wp2;refine⟨_,results_none rfl _ _ _,?_⟩;exact⟨⟨_,rfl⟩,Kl.of_below hC, .inl ⟨_,rfl,OwnFrom.later hJ h0 hC⟩⟩
theorem bF(h:iH a l c m=true):rt a l=true/\rt c m=true/\m<=l/\c<=a/\a+sp l<=c+sp m:=by
 have h0:=h;unfold iH at h;simp only[zH,decide_eq_true_eq]at h;obtain⟨⟨⟨h1,h2⟩,h3⟩,h4⟩:=h;rw[LG a l c m h1 h2]at h0;unfold I3 at h0;simp only[zH,decide_eq_true_eq]at h0;exact⟨h1,h2,h3,h0.1.1.2,by omega⟩
theorem nN(h1:rt a l=true)(h2:rt c m=true)(h3:c<=a)(h4:a+sp l<=c+sp m):iH a l c m=true:=by
 have:=cJ l;rw[LG a l c m h1 h2];unfold I3;rw[h2];simp only[Bool.true_and,zH,decide_eq_true_eq];omega
theorem yG(h:kL a l c m=true):rt a l=true/\rt c m=true/\a<c+sp m/\c<a+sp l:=by
 have h1:rt a l=true/\rt c m=true:=by
  unfold kL at h;rcases Bool.or_eq_true_iff.1 h with h|h
  ·exact⟨(bF h).1,(bF h).2.1⟩
  ·exact⟨(bF h).2.1,(bF h).1⟩
 rw[LH a l c m h1.1 h1.2]at h;simp only[zH,decide_eq_true_eq]at h;exact⟨h1.1,h1.2,by omega,by omega⟩
theorem D4(h1:rt a l=true)(h2:rt c m=true)(h3:a<c+sp m)(h4:c<a+sp l):kL a l c m=true:=by
 rw[LH a l c m h1 h2];simp only[zH,decide_eq_true_eq];omega
theorem nO(a l c m:Int):kL a l c m=kL c m a l:=by unfold kL;exact Bool.or_comm _ _
theorem UW(h:kL a l c m=true):iH a l c m=true\/iH c m a l=true:=by
 unfold kL at h;exact Bool.or_eq_true_iff.1 h
theorem pF{k:Int}(h:iH a l c m=true)(g:iH c m e k=true):iH a l e k=true:=by
 obtain⟨h1,h2,h3,h4,h5⟩:=bF h;obtain⟨g1,g2,g3,g4,g5⟩:=bF g;exact nN h1 g2 (by omega) (by omega)
theorem UX(h:iH a l c m=true):kL a l c m=true:=by unfold kL;rw[h];rfl
theorem F3(h:rt a l=true):iH a l a l=true:=nN h h (by omega) (by omega)
theorem D6(h0:0<=l)(h1:l<16):sp l=2*sp (l+1):=by
 rw[CC l h0 (by omega),CC (l+1) (by omega) (by omega)];have:(16- l).toNat=(16- (l+1)).toNat+1:=by omega
 rw[this,Int.pow_succ];omega
theorem QA(h0:0<=l)(h1:l<=16)(h2:0<=a)(h3:a<=65535)(h4:sp l∣a):rt a l=true:=by
 unfold rt tW;rw[if_neg (by omega),if_pos (Int.emod_eq_zero_of_dvd h4)];rfl
theorem X0(h:rt a l=true):a+sp l<=65536:=by
 obtain⟨h0,h1,h2,h3,h4⟩:=bE h;have hd:sp l∣65536:=by have:=lA (l:=l) (m:=0) (by omega) h0 h1;simpa[sp]using this
 exact rZ (cJ l) (Int.dvd_of_emod_eq_zero h4) hd (by omega)
theorem D8(h:rt a l=true)(h16:l<16):rt a (l+1)=true:=by
 obtain⟨h0,h1,h2,h3,h4⟩:=bE h;exact QA (by omega) (by omega) h2 h3 (Int.dvd_trans (lA h0 (by omega) (by omega)) (Int.dvd_of_emod_eq_zero h4))
theorem xT(h:rt a l=true)(h16:l<16):rt (a+sp (l+1)) (l+1)=true:=by
 obtain⟨h0,h1,h2,h3,h4⟩:=bE h;have:=X0 h;have:=D6 h0 h16;have:=cJ (l+1);exact QA (by omega) (by omega) (by omega) (by omega) (Int.dvd_add (Int.dvd_trans (lA h0 (by omega) (by omega)) (Int.dvd_of_emod_eq_zero h4)) (Int.dvd_refl _))
theorem jL:mtsAny a l ps=true↔∃u∈ps,kL a l u.1 u.2=true:=by
 unfold mtsAny anyAt;rw[List.any_eq_true];constructor
 ·rintro⟨i,hi,h⟩;rw[List.mem_range]at hi;refine⟨ps[i],List.getElem_mem hi,?_⟩;simpa[cM,eF,List.getD_eq_getElem?_getD,List.getElem?_eq_getElem hi]using h
 ·rintro⟨u,hu,h⟩;obtain⟨i,hi,rfl⟩:=List.getElem_of_mem hu;refine⟨i,List.mem_range.2 hi,?_⟩;simpa[cM,eF,List.getD_eq_getElem?_getD,List.getElem?_eq_getElem hi]using h
theorem qT:nK a l ps=true↔∃u∈ps,iH a l u.1 u.2=true:=by
 unfold nK anyAt;rw[List.any_eq_true];constructor
 ·rintro⟨i,hi,h⟩;rw[List.mem_range]at hi;refine⟨ps[i],List.getElem_mem hi,?_⟩;simpa[cM,eF,List.getD_eq_getElem?_getD,List.getElem?_eq_getElem hi]using h
 ·rintro⟨u,hu,h⟩;obtain⟨i,hi,rfl⟩:=List.getElem_of_mem hu;refine⟨i,List.mem_range.2 hi,?_⟩;simpa[cM,eF,List.getD_eq_getElem?_getD,List.getElem?_eq_getElem hi]using h
theorem yH{b:Bool}(h:¬b=true):b=false:=by cases b<;>simp_all
structure F4(ps:List (Int×Int))(a l:Int)(H:List (Int×Int)):Prop where
 free:∀h∈H,iH h.1 h.2 a l=true/\mtsAny h.1 h.2 ps=false
 all:∀x k,iH x k a l=true->mtsAny x k ps=false->∃h∈H,iH x k h.1 h.2=true
 rise:H.Pairwise fun h g=>h.1+sp h.2<=g.1
theorem UY{x k:Int}(h:iH x k a l=true)(hf:mtsAny a l ps=false):mtsAny x k ps=false:=by
 refine yH fun hm=>?_;obtain⟨u,hu,h1⟩:=jL.1 hm;have h2:=yG h1;have h3:=bF h;have:mtsAny a l ps=true:=jL.2 ⟨u,hu,D4 h3.2.1 h2.2.1 (by omega) (by omega)⟩;rw[this]at hf;cases hf
theorem QB{x k:Int}(h:iH x k a l=true)(hk:l<k)(h16:l<16):iH x k a (l+1)=true\/iH x k (a+sp (l+1)) (l+1)=true:=by
 obtain⟨h1,h2,h3,h4,h5⟩:=bF h;obtain⟨k0,k1,x0,x1,xd⟩:=bE h1;obtain⟨l0,l1,a0,a1,ad⟩:=bE h2;have hs:=D6 l0 h16;by_cases hx:x<a+sp (l+1)
 ·left;refine nN h1 (D8 h2 h16) h4 ?_;have d1:sp k∣sp (l+1):=lA (by omega) (by omega) k1;have d2:sp (l+1)∣a:=Int.dvd_trans (lA l0 (by omega) (by omega)) (Int.dvd_of_emod_eq_zero ad);exact rZ (cJ k) (Int.dvd_of_emod_eq_zero xd) (Int.dvd_add (Int.dvd_trans d1 d2) d1) hx
 ·right;exact nN h1 (xT h2 h16) (by omega) (by omega)
theorem EA(ps:List (Int×Int)):∀(f:Nat) (a l:Int),rt a l=true->(f:Int)=16- l->F4 ps a l (hol ps f a l)
 |0,a,l,hr,hf=>by
  have hl:l=16:=by omega
  cases hm:mtsAny a l ps
  ·simp only[hol,hm];exact⟨by simp[F3 hr,hm],fun x k hx _=>⟨(a,l),by simp,hx⟩,by simp⟩
  ·simp only[hol,hm];refine⟨by simp,fun x k hx hfr=>?_,by simp⟩;exfalso;obtain⟨g1,g2,g3,g4,g5⟩:=bF hx;have hxe:k=l:=by have:=bE g1;omega
   subst hxe;have:x=a:=by omega
   subst this;rw[hm]at hfr;cases hfr
 |f+1,a,l,hr,hf=>by
  have h16:l<16:=by omega
  have l0:=(bE hr).1
  cases hm:mtsAny a l ps
  ·simp only[hol,hm];exact⟨by simp[F3 hr,hm],fun x k hx _=>⟨(a,l),by simp,hx⟩,by simp⟩
  ·cases hi:nK a l ps
   ·simp only[hol,hm,hi];have A:=EA ps f a (l+1) (D8 hr h16) (by omega);have B:=EA ps f (a+sp (l+1)) (l+1) (xT hr h16) (by omega);have hs:=D6 l0 h16;have pl:=cJ (l+1);have iA:iH a (l+1) a l=true:=nN (D8 hr h16) hr (by omega) (by omega);have iB:iH (a+sp (l+1)) (l+1) a l=true:=nN (xT hr h16) hr (by omega) (by omega);refine⟨?_,?_,?_⟩
    ·intro h hh;simp only[if_true,Bool.false_eq_true,if_false,List.mem_append]at hh;rcases hh with hh|hh
     ·exact⟨pF (A.free h hh).1 iA,(A.free h hh).2⟩
     ·exact⟨pF (B.free h hh).1 iB,(B.free h hh).2⟩
    ·intro x k hx hfr;have hk:l<k:=by
      obtain⟨g1,g2,g3,g4,g5⟩:=bF hx;by_cases hk:l<k
      ·exact hk
      ·have hkl:k=l:=by omega
       subst hkl;have:x=a:=by omega
       subst this;rw[hm]at hfr;cases hfr
     simp only[if_true,Bool.false_eq_true,if_false,List.mem_append];rcases QB hx hk h16 with h1|h1
     ·obtain⟨h,hh,h2⟩:=A.all x k h1 hfr;exact⟨h, .inl hh,h2⟩
     ·obtain⟨h,hh,h2⟩:=B.all x k h1 hfr;exact⟨h, .inr hh,h2⟩
    ·simp only[if_true,Bool.false_eq_true,if_false];rw[List.pairwise_append];refine⟨A.rise,B.rise,fun h hh g hg=>?_⟩;have h1:=bF (A.free h hh).1;have h2:=bF (B.free g hg).1;omega
   ·simp only[hol,hm,hi];refine⟨by simp,fun x k hx hfr=>?_,by simp⟩;exfalso;obtain⟨u,hu,h1⟩:=qT.1 hi;have:mtsAny x k ps=true:=jL.2 ⟨u,hu,UX (pF hx h1)⟩;rw[this]at hfr;cases hfr
structure nP(ps:List (Int×Int))(a l:Int):Prop where
 inn:∀u∈ps,iH u.1 u.2 a l=true
 rise:ps.Pairwise fun h g=>h.1+sp h.2<=g.1
theorem iT(h:i<ps.length):cM ps i=ps[i].1:=by
 simp[cM,List.getD_eq_getElem?_getD,List.getElem?_eq_getElem h]
theorem mE(h:i<ps.length):eF ps i=ps[i].2:=by
 simp[eF,List.getD_eq_getElem?_getD,List.getElem?_eq_getElem h]
theorem LJ(h:eP a l ps=true):nP ps a l:=by
 unfold eP at h;rw[List.all_eq_true]at h;have ok:∀i (hi:i<ps.length),iH ps[i].1 ps[i].2 a l=true:=fun i hi=>by
  have:=h i (List.mem_range.2 hi);unfold MY at this;rw[zH,iT hi,mE hi]at this;exact this.1
 have nx:∀i (hi:i+1<ps.length),ps[i].1+sp ps[i].2<=ps[i+1].1:=fun i hi=>by
  have:=h (i+1) (List.mem_range.2 hi);unfold MY at this;rw[zH]at this;have h2:=this.2;simp only[Nat.add_sub_cancel,Nat.add_eq_zero_iff,Nat.one_ne_zero,and_false,Bool.or_eq_true,zH,decide_eq_true_eq,Bool.not_eq_true',beq_iff_eq,false_or]at h2;rw[iT hi,mE hi,iT (by omega),mE (by omega)]at h2;obtain⟨h3,h4⟩:=h2;have h5:=(bF (ok i (by omega))).1;have h6:=(bF (ok (i+1) hi)).1;have p:=cJ ps[i+1].2;by_cases h7:ps[i].1+sp ps[i].2<=ps[i+1].1
  ·exact h7
  ·have:=D4 h5 h6 (by omega) (by omega);rw[this]at h4;cases h4
 refine⟨fun u hu=>?_,?_⟩
 ·obtain⟨i,hi,rfl⟩:=List.getElem_of_mem hu;exact ok i hi
 ·rw[List.pairwise_iff_getElem];intro i j hi hj hij;induction j with
  |zero=>omega
  |succ j ih=>
   by_cases he:i=j
   ·subst he;exact nx i hj
   ·have h1:=ih (by omega) (by omega);have h2:=nx j hj;have h3:=cJ ps[j].2;omega
def F5(ps:List (Int×Int))(a l z x:Int):Prop:=iH x z a l=true/\mtsAny x z ps=false
def aAs(ps:List (Int×Int))(a l z:Int):Option Int->Prop
 |some x=>F5 ps a l z x/\∀y,F5 ps a l z y->x<=y
 |none=>∀y,¬F5 ps a l z y
theorem UZ{x k:Int}(h:rt x k=true)(hz:k<=z)(h16:z<=16):rt x z=true:=by
 obtain⟨h0,h1,h2,h3,h4⟩:=bE h;exact QA (by omega) h16 h2 h3 (Int.dvd_trans (lA h0 hz h16) (Int.dvd_of_emod_eq_zero h4))
theorem QC{x k:Int}(h:rt x k=true)(hz:k<=z)(h16:z<=16):iH x z x k=true:=
 nN (UZ h hz h16) h (by omega) (by have:=DY (bE h).1 hz h16;omega)
theorem I5(hr:H.Pairwise fun h g=>h.1+sp h.2<=g.1){p:(Int×Int)->Bool}{h g:Int×Int}(hf:H.find? p=some h)(hg:g∈H)(hp:p g=true):h.1<=g.1:=by
 induction H with
 |nil=>cases hg
 |cons e t ih=>
  rw[List.pairwise_cons]at hr
  rw[List.find?_cons]at hf
  cases he:p e
  ·rw[he]at hf;rcases List.mem_cons.1 hg with rfl|hg
   ·rw[hp]at he;cases he
   ·exact ih hr.2 hf hg
  ·rw[he]at hf;simp only[Option.some.injEq]at hf;subst hf;rcases List.mem_cons.1 hg with rfl|hg
   ·exact Int.le_refl _
   ·have:=hr.1 g hg;have:=cJ e.2;omega
theorem U0(hH:F4 ps a l H)(h16:z<=16):
  aAs ps a l z ((H.find? fun h=>decide (h.2<=z)).map (·.1)):=by
 cases hf:H.find? fun h=>decide (h.2<=z)with
 |none=>
  intro y hy
  obtain⟨g,hg,h1⟩:=hH.all y z hy.1 hy.2
  have:=List.find?_eq_none.1 hf g hg
  have h2:=bF h1
  simp at this
  omega
 |some h=>
  have hm:=List.mem_of_find?_eq_some hf
  have hz:h.2<=z:=by have:=List.find?_some hf;simpa using this
  obtain⟨h1,h2⟩:=hH.free h hm
  have hi:=QC (bF h1).1 hz h16
  refine⟨⟨pF hi h1,UY hi h2⟩,fun y hy=>?_⟩
  obtain⟨g,hg,h3⟩:=hH.all y z hy.1 hy.2
  have h4:=bF h3
  have:=I5 hH.rise hf hg (by simpa using h4.2.2.1)
  show h.1<=y
  omega
attribute [local go_sem] Oper.semAt_some
theorem PS.keeps{n n₀:Nat}{ps:List (Int×Int)}(h:PS w x n ps)(hk:∀k o,k<n₀->w.heap[k]?=some o->w'.heap[k]?=some o)(hx:0<n->∀q,x=some q->q.block<n₀):PS w' x n ps where
 len:=h.len
 cells:=fun i hi=>by
  obtain⟨b,o,hb,c0,c1⟩:=h.cells i hi;have hlt:b<n₀:=hx (by omega) _ hb;have hs:b<w.heap.size:=block_lt_of_cell c0;have e:w'.heap[b]?=w.heap[b]?:=by
   have e:w.heap[b]?=some w.heap[b]:=Array.getElem?_eq_some_iff.2 ⟨hs,rfl⟩;rw[hk b _ hlt e,e]
  exact⟨b,o,hb,by rw[<-c0];simp[World.cell?,e],by rw[<-c1];simp[World.cell?,e]⟩
theorem jE{β:Type}{B D:Nat}{o:Obj}(h:D<B):OwnFrom B (fun(_:β) W=>W.heap[D]?=some o):=
 fun _ _ _ _ hs hg hr=>lN hg hr h hs
theorem CF{k' l':Nat}{fn:FuncId}{assign body:Code}{R:Ending->World->Prop}(h:RoundIn Fence.wide k P yl fn tmps assign body V R):RoundIn (Fence.wide.inRound l') k' P yl fn tmps assign body V R:=
 ⟨h.1,fun c cs _=>h.2 c cs (fun d h=>by cases h)⟩
theorem U1(p q r s:Value)(W:World):Sem.run Tryz.prog (Instr.index 353 (.agg #[p,q,r,s]) (.int .i64 0)) W= .ok (.agg #[p,q]) W:=by kernel_rfl
theorem U2(p q r s:Value)(W:World):Sem.run Tryz.prog (Instr.index 353 (.agg #[p,q,r,s]) (.int .i64 1)) W= .ok (.agg #[r,s]) W:=by kernel_rfl
theorem wC(W:World)(o:Obj)(a l:Int)(x:Option Addr)(n c:Nat):∃V,V=((W.alloc o).alloc (.cells #[.int .i64 a, .int .i64 l] 26)).alloc (.cells #[.slice x n c] 203)/\Below W.heap.size W V/\
  V.cell? ⟨W.heap.size+1,0,none⟩=some (.int .i64 a)/\V.cell? ⟨W.heap.size+1,1,none⟩=some (.int .i64 l)/\V.heap[W.heap.size+1+1]?=some (.cells #[.slice x n c] 203)/\V.heap.size=W.heap.size+3:=by
 refine⟨_,rfl,(bO W _ _).alloc (by simp;omega) _,?_,?_,?_,by simp⟩
 ·have h1:((W.alloc o).alloc (.cells #[.int .i64 a, .int .i64 l] 26)).cell? ⟨(W.alloc o).heap.size,0,none⟩=some (.int .i64 a):=by simp
  rw[World.size_alloc]at h1;exact cell_later (bl1 _ _) h1
 ·have h1:((W.alloc o).alloc (.cells #[.int .i64 a, .int .i64 l] 26)).cell? ⟨(W.alloc o).heap.size,1,none⟩=some (.int .i64 l):=by simp
  rw[World.size_alloc]at h1;exact cell_later (bl1 _ _) h1
 ·have h1:=World.alloc_heap_new ((W.alloc o).alloc (.cells #[.int .i64 a, .int .i64 l] 26)) (.cells #[.slice x n c] 203);rwa[World.size_alloc,World.size_alloc]at h1
def QD(n₀:Nat)(x:Option Addr)(n c:Nat)(ps:List (Int×Int))(f:Nat):Prop:=
 ∀(a l:Int),rt a l=true->(f:Int)=16- l->∀(m:Nat) (w:World) (pb ub:Nat),
  w.cell? ⟨pb,0,none⟩=some (.int .i64 a)->w.cell? ⟨pb,1,none⟩=some (.int .i64 l)->w.heap[ub]?=some (.cells #[.slice x n c] 203)->ub≠n₀->n₀<w.heap.size->PS w x n ps->
  M0 (TH n₀) n₀ ub Fence.wide m Tryz.prog 276 #[.pointer (some ⟨pb,0,none⟩), .pointer (some ⟨ub,0,none⟩)] (fun x=>#[lO x]) (fun xs=>xs=hol ps f a l) (fun pre=>pre<+:hol ps f a l) w
theorem EB(n₀:Nat)(x:Option Addr)(n c:Nat)(ps:List (Int×Int))(hn:n<=64)(hx:0<n->∀q,x=some q->q.block<n₀)(f:Nat)(ih:QD n₀ x n c ps f)(a l:Int)(hm:mtsAny a l ps=true)(hi:nK a l ps=false)(hr:rt a l=true)(hf:((f+1:Nat):Int)=16- l)(m:Nat)(w:World)(pb ub:Nat)
 (p0:w.cell? ⟨pb,0,none⟩=some (.int .i64 a))(p1:w.cell? ⟨pb,1,none⟩=some (.int .i64 l))(u0:w.heap[ub]?=some (.cells #[.slice x n c] 203))(hub:ub≠n₀)(hn₀:n₀<w.heap.size)(hp:PS w x n ps):
  M0 (TH n₀) n₀ ub Fence.wide m Tryz.prog 276 #[.pointer (some ⟨pb,0,none⟩), .pointer (some ⟨ub,0,none⟩)] (fun x=>#[lO x]) (fun xs=>xs=hol ps (f+1) a l) (fun pre=>pre<+:hol ps (f+1) a l) w:=by
 have hh:hol ps (f+1) a l=hol ps f a (l+1)++hol ps f (a+sp (l+1)) (l+1):=by simp[hol,hm,hi]
 have h16:l<16:=by omega
 rw[hh];clear hh;intro yl L J Jx W hW hJ hJx hL hY h0;have HY:Hid (∀pre x W1,pre++[x]<+:hol ps f a (l+1)++hol ps f (a+sp (l+1)) (l+1)->J pre W1->YieldAt Fence.wide (m- 1) Tryz.prog yl #[lO x] W1 fun e W'=>Kl (TH n₀) n₀ L W1 W'/\((e= .returned (.bool true)/\J (pre++[x]) W')\/(e= .returned (.bool false)/\Jx (pre++[x]) W'))):=hY;have q0:=cell_later hW p0;have q1:=cell_later hW p1;have hub':ub<w.heap.size:=(zG u0);have v0:W.heap[ub]?=some (.cells #[.slice x n c] 203):=(hW.block ub hub').trans u0;have vc:W.cell? ⟨ub,0,none⟩=some (.slice x n c):=by simp[World.cell?,v0]
 have hnW:n₀<W.heap.size:=Nat.lt_of_lt_of_le hn₀ hW.size;have hp':=hp.later hW;clear hY p0 p1 u0 hp;have k0:∀q,(W.alloc q).cell? ⟨pb,0,none⟩=some (.int .i64 a):=fun q=>cell_later (bl1 W q) q0;have k1:∀q,(W.alloc q).cell? ⟨pb,1,none⟩=some (.int .i64 l):=fun q=>cell_later (bl1 W q) q1;have k2:∀q,(W.alloc q).cell? ⟨ub,0,none⟩=some (.slice x n c):=fun q=>cell_later (bl1 W q) vc;refine callsIn_of_wp_marks Tryz.func276 rfl trivial ?_ rfl;simp only[Tryz.ntmps276,List.size_toArray,List.length_cons,List.length_nil,Nat.reduceAdd,Nat.reduceSub,Array.replicate_succ,Array.replicate_zero,List.push_toArray,List.append_toArray,List.nil_append,List.cons_append];gi_wp2_with fail;refine⟨trivial,(fun h=>(by cases h)),?_⟩;refine(callsIn_wide.2 (qS a l x n c ps _ (hp'.later (bl1 W _)) hn)).mono ?_;rintro e w1 ⟨rfl,hb1⟩;have hB:Below W.heap.size W w1:=(bl1 W _).trans (hb1.mono (by simp));have y0:w1.heap[W.heap.size]?=some (.cells #[.func (.yield yl) #[] #[]] 316):=(hb1.block _ (by simp)).trans (World.alloc_heap_new W _);have r0:=cell_later hB q0;have r1:=cell_later hB q1;have v1:=cell_later hB vc;have hl:=hp'.len;clear k0 k1 k2;rw[hm];gi_wp2_with fail;refine⟨trivial,(fun h=>(by cases h)),?_⟩;refine(callsIn_wide.2 (gJ 279 _ x n c ps _ _ (hp'.later hB) hn (CD a l pb n ps _ r0 r1) F2)).mono ?_;rintro e w2 ⟨rfl,hb2⟩;have hC:Below W.heap.size W w2:=hB.trans (hb2.mono hB.size);have y2:w2.heap[W.heap.size]?=_:=(hb2.block _ (zG y0)).trans y0;have hi':anyAt n (fun i=>iH a l (cM ps i) (eF ps i))=false:=by rw[<-hl];exact hi
 rw[hi'];have z0:=cell_later hC q0;have z1:=cell_later hC q1;gi_wp2_with fail;refine⟨trivial,(fun h=>(by cases h)),?_⟩;refine(callsIn_wide.2 (MX a l _ hr h16)).mono ?_;rintro e w3 ⟨rfl,hb3⟩;have y3:w3.heap[W.heap.size]?=_:=(hb3.block _ (zG y2)).trans y2;have hD:Below W.heap.size W w3:=hC.trans (hb3.mono hC.size);clear hb1 hb2 hb3 y0 y2 r0 r1 z0 z1 v1;gi_wp2_with fail;have hE:Below W.heap.size W ((w3.alloc (.cells #[.int .i64 a, .int .i64 (l+1)] 26)).alloc (.cells #[.int .i64 (a+sp (l+1)), .int .i64 (l+1)] 26)):=hD.trans ((bO w3 _ _).mono hD.size);have y4:((w3.alloc (.cells #[.int .i64 a, .int .i64 (l+1)] 26)).alloc (.cells #[.int .i64 (a+sp (l+1)), .int .i64 (l+1)] 26)).heap[W.heap.size]?=_:=((bO w3 _ _).block _ (zG y3)).trans y3;generalize((w3.alloc (.cells #[.int .i64 a, .int .i64 (l+1)] 26)).alloc (.cells #[.int .i64 (a+sp (l+1)), .int .i64 (l+1)] 26))=W4 at hE y4⊢;clear hD y3 hB hC;have v4:=cell_later hE vc;have kv:∀q,(W4.alloc q).cell? ⟨ub,0,none⟩=some (.slice x n c):=fun q=>cell_later (bl1 W4 q) v4;refine xC ?_;gi_wp2_with fail;rw[U1];gi_wp2_with fail;refine⟨trivial,(fun h=>(by cases h)),?_⟩;refine(yF a (l+1) x n c _ _).mono ?_;rintro e w5 ⟨rfl,hw5⟩;obtain⟨W5,hW5,b5,c50,c51,u5,s5⟩:=wC W4 (.cells #[.int .i64 a, .int .i64 (l+1)] 26) a (l+1) x n c;rw[<-hW5]at hw5;subst hw5;clear hW5;gi_wp2_with fail;have hz4:=hE.size;have hKW:Kl (TH n₀) n₀ L W W4:=Kl.of_below hE;have hTy:∀{V:World},Kl (TH n₀) n₀ L W4 V->V.heap[W.heap.size]?=some (.cells #[.func (.yield yl) #[] #[]] 316):=fun hk=>
  hk.same _ _ (fun hm=>by have:=(hL _ hm).2.1;omega) y4 (.inr (.inr ⟨hnW,_, .inr rfl⟩))
 have v4b:W4.heap[ub]?=some (.cells #[.slice x n c] 203):=(hE.block ub (Nat.lt_of_lt_of_le hub' hW.size)).trans v0;have hTu:∀{V:World},Kl (TH n₀) n₀ L W4 V->V.heap[ub]?=some (.cells #[.slice x n c] 203):=fun hk=>
  hk.same _ _ (fun hm=>(hL _ hm).2.2 rfl) v4b (by rcases Nat.lt_or_gt_of_ne hub with h|h;exact .inl h;exact .inr (.inr ⟨h,_, .inl rfl⟩))
 have hTp:∀{V:World},Kl (TH n₀) n₀ L W4 V->PS V x n ps:=fun hk=>(hp'.later hE).keeps (fun k o hkn ho=>hk.same k o (fun hm=>by have:=(hL _ hm).1;omega) ho (.inl hkn)) hx;refine gI (h:=9) (T:=TH n₀) (n₀:=n₀) (L:=L) rfl rfl (gf:=276) (lb:=#[.pointer (some ⟨W4.heap.size+1,0,none⟩), .pointer (some ⟨W4.heap.size+1+1,0,none⟩)]) rfl trivial nM
  (ih a (l+1) (D8 hr h16) (by omega) _ w5 _ _ c50 c51 u5 (by omega) (by omega) ((hp'.later hE).later b5)) (by omega) (by omega) (fun k hk=>⟨(hL k hk).1,by have:=(hL k hk).2;omega,by have:=(hL k hk).2;omega⟩)
  (fun pre V=>J (pre) V/\Kl (TH n₀) n₀ L W4 V) (fun pre V=>Jx (pre) V/\Kl (TH n₀) n₀ L W4 V)
  (eY (sA hJ (by omega)) (DZ (by omega))) (eY (sA hJx (by omega)) (DZ (by omega)))
  ⟨OwnFrom.later hJ (OwnFrom.later hJ h0 hE) b5,Kl.of_below b5⟩ ?assign ?body ?done ?stop
 case assign=>
  intro l' x' V K hK
  simp only[lO,List.setIfInBounds_toArray,List.set_cons_succ,List.set_cons_zero]at hK⊢
  gi_wp2_with fail
  exact hK _ _ (bl1 V _) (zE) (by simp) (by simp)
 case body=>
  rintro l' pre x' Bx V hl' hsp ⟨hj,hk⟩ c0 c1
  have hy:=hTy hk
  have hyc:V.cell? ⟨W.heap.size,0,none⟩=some (.func (.yield yl) #[] #[]):=by simp[World.cell?,hy]
  obtain⟨fn,tmps,assign,body,hyy,hR⟩:=HY.out _ x' V (hsp.trans (List.prefix_append _ _)) hj
  simp only[lO,List.setIfInBounds_toArray,List.set_cons_succ,List.set_cons_zero]at hyy⊢
  gi_wp2_with fail
  refine⟨(fun h=>(by cases h)),?_⟩
  refine(CF hR).mono ?_
  rintro e V2 ⟨hk2,(⟨rfl,hj2⟩|⟨rfl,hj2⟩)⟩
  ·gi_wp2_with fail;exact⟨hk2,hj2,hk.trans hk2⟩
  ·gi_wp2_with fail;exact⟨hk2,hj2,hk.trans hk2⟩
 case stop=>
  rintro D pre V hD hpre ⟨hj,hk⟩ hkl hdef
  gi_wp2_with fail
  refine⟨by simp, .inl ⟨_,_,rfl,run_takeDeferred hdef,?_⟩⟩
  refine⟨_,results_none rfl _ _ _,?_⟩
  exact⟨⟨_,rfl⟩,(hKW.trans hk).putNew _ _ (by omega), .inr ⟨pre,hpre.trans (List.prefix_append _ _),hJx.putObj _ hj (by omega) hdef rfl⟩⟩
 case done=>
  rintro D xs V hD rfl ⟨hj,hk⟩ hkl hdef
  have vV:V.cell? ⟨ub,0,none⟩=some (.slice x n c):=by simp[World.cell?,hTu hk]
  have kv:∀q,(V.alloc q).cell? ⟨ub,0,none⟩=some (.slice x n c):=fun q=>cell_later (bl1 V q) vV
  have hV:=hkl.size
  clear c50 c51 u5 hkl
  gi_wp2_with fail
  rw[U2]
  gi_wp2_with fail
  refine⟨trivial,(fun h=>(by cases h)),?_⟩
  refine(yF (a+sp (l+1)) (l+1) x n c _ _).mono ?_
  rintro e w6 ⟨rfl,hw6⟩
  obtain⟨W6,hW6,b6,c60,c61,u6,s6⟩:=wC V (.cells #[.int .i64 (a+sp (l+1)), .int .i64 (l+1)] 26) (a+sp (l+1)) (l+1) x n c
  rw[<-hW6]at hw6
  subst hw6
  clear hW6
  have hdef6:w6.heap[D]?=some (.deferred (some [])):=(b6.block D (zG hdef)).trans hdef
  have hk6:Kl (TH n₀) n₀ L W4 w6:=hk.trans (Kl.of_below b6)
  gi_wp2_with fail
  have hDlt:D<w6.heap.size:=(zG hdef6)
  refine gI (h:=9) (T:=TH n₀) (n₀:=n₀) (L:=L) rfl rfl (gf:=276) (lb:=#[.pointer (some ⟨V.heap.size+1,0,none⟩), .pointer (some ⟨V.heap.size+1+1,0,none⟩)]) rfl trivial nM
   (ih (a+sp (l+1)) (l+1) (xT hr h16) (by omega) _ w6 _ _ c60 c61 u6 (by omega) (by omega) ((hTp hk).later b6)) (by omega) (by omega) (fun k hk=>⟨(hL k hk).1,by have:=(hL k hk).2;omega,by have:=(hL k hk).2;omega⟩)
   (fun pre V=>J (hol ps f a (l+1)++pre) V/\Kl (TH n₀) n₀ L W4 V/\V.heap[D]?=some (.deferred (some []))) (fun pre V=>Jx (hol ps f a (l+1)++pre) V/\Kl (TH n₀) n₀ L W4 V/\V.heap[D]?=some (.deferred (some [])))
   (eY (LI (sA hJ (by omega)) _) (eY (DZ (by omega)) (jE hDlt))) (eY (LI (sA hJx (by omega)) _) (eY (DZ (by omega)) (jE hDlt)))
   ⟨by rw[List.append_nil];exact OwnFrom.later hJ hj b6,hk6,hdef6⟩ ?assign ?body ?done ?stop
  case assign=>
   intro l' x' V3 K hK
   simp only[lO,List.setIfInBounds_toArray,List.set_cons_succ,List.set_cons_zero]at hK⊢
   gi_wp2_with fail
   exact hK _ _ (bl1 V3 _) (zE) (by simp) (by simp)
  case body=>
   rintro l' pre x' Bx V3 hl' hsp ⟨hj,hk,hD2⟩ c0 c1
   have hy:=hTy hk
   have hyc:V3.cell? ⟨W.heap.size,0,none⟩=some (.func (.yield yl) #[] #[]):=by simp[World.cell?,hy]
   obtain⟨fn,tmps,assign,body,hyy,hR⟩:=HY.out _ x' V3 (by rw[List.append_assoc];exact(List.prefix_append_right_inj _).2 hsp) hj
   simp only[lO,List.setIfInBounds_toArray,List.set_cons_succ,List.set_cons_zero]at hyy⊢
   gi_wp2_with fail
   refine⟨(fun h=>(by cases h)),?_⟩
   refine(CF hR).mono ?_
   rintro e V2 ⟨hk2,(⟨rfl,hj2⟩|⟨rfl,hj2⟩)⟩
   ·gi_wp2_with fail;exact⟨hk2,by rw[<-List.append_assoc];exact hj2,hk.trans hk2,hk2.same _ _ (fun hm=>by have:=(hL _ hm).2.1;omega) hD2 (.inr (.inl rfl))⟩
   ·gi_wp2_with fail;exact⟨hk2,by rw[<-List.append_assoc];exact hj2,hk.trans hk2,hk2.same _ _ (fun hm=>by have:=(hL _ hm).2.1;omega) hD2 (.inr (.inl rfl))⟩
  case stop=>
   rintro D2 pre V3 hD2 hpre ⟨hj3,hk3,hD3⟩ hkl hdef2
   gi_wp2_with fail
   have hDne:D2≠D:=by omega
   refine⟨by simp, .inl ⟨_,_,rfl,run_takeDeferred hdef2,?_⟩⟩
   refine⟨by simp, .inl ⟨_,_,rfl,run_takeDeferred ((World.putObj_heap_other hDne.symm).trans hD3),?_⟩⟩
   refine⟨_,results_none rfl _ _ _,?_⟩
   exact⟨⟨_,rfl⟩,((hKW.trans hk3).putNew _ _ (by omega)).putNew _ _ (by omega), .inr ⟨_,(List.prefix_append_right_inj _).2 hpre,hJx.putObj _ (hJx.putObj _ hj3 (by omega) hdef2 rfl) (by omega) ((World.putObj_heap_other hDne.symm).trans hD3) rfl⟩⟩
  case done=>
   rintro D2 xs V3 hD2 rfl ⟨hj3,hk3,hD3⟩ hkl hdef2
   have hDne:D2≠D:=by omega
   gi_wp2_with fail
   refine⟨by simp, .inl ⟨_,_,rfl,run_takeDeferred hdef2,?_⟩⟩
   refine⟨by simp, .inl ⟨_,_,rfl,run_takeDeferred ((World.putObj_heap_other hDne.symm).trans hD3),?_⟩⟩
   refine⟨_,results_none rfl _ _ _,?_⟩
   exact⟨⟨_,rfl⟩,((hKW.trans hk3).putNew _ _ (by omega)).putNew _ _ (by omega), .inl ⟨_,rfl,hJ.putObj _ (hJ.putObj _ hj3 (by omega) hdef2 rfl) (by omega) ((World.putObj_heap_other hDne.symm).trans hD3) rfl⟩⟩
theorem M2(h:mtsAny a 16 ps=true):nK a 16 ps=true:=by
 obtain⟨u,hu,hm⟩:=jL.1 h;have n:=yG hm;rcases UW hm with h1|h1
 ·exact qT.2 ⟨u,hu,h1⟩
 ·have n1:=bF h1;have:=(bE n.2.1).2.1;refine qT.2 ⟨u,hu,nN n.1 n.2.1 ?_ ?_⟩
  ·have e:u.2=16:=by omega
   rw[e]at n1;omega
  ·have e:u.2=16:=by omega
   rw[e]at n1⊢;omega
theorem LK(n₀:Nat)(x:Option Addr)(n c:Nat)(ps:List (Int×Int))(hn:n<=64)(hx:0<n->∀q,x=some q->q.block<n₀):∀f,QD n₀ x n c ps f
 |0=>fun a l hr hf m w pb ub p0 p1 u0 hub hn₀ hp=>by
  have u1:w.cell? ⟨ub,0,none⟩=some (.slice x n c):=by simp[World.cell?,u0]
  cases hm:mtsAny a l ps
  ·exact wB n₀ x n c ps hn 0 a l hm m w pb ub p0 p1 u1 hp
  ·have hl:l=16:=by omega
   subst hl;exact CE n₀ x n c ps hn 0 a 16 hm (M2 hm) m w pb ub p0 p1 u1 hp
 |f+1=>fun a l hr hf m w pb ub p0 p1 u0 hub hn₀ hp=>by
  have u1:w.cell? ⟨ub,0,none⟩=some (.slice x n c):=by simp[World.cell?,u0]
  cases hm:mtsAny a l ps
  ·exact wB n₀ x n c ps hn (f+1) a l hm m w pb ub p0 p1 u1 hp
  ·cases hi:nK a l ps
   ·exact EB n₀ x n c ps hn hx f (LK n₀ x n c ps hn hx f) a l hm hi hr hf m w pb ub p0 p1 u0 hub hn₀ hp
   ·exact CE n₀ x n c ps hn (f+1) a l hm hi m w pb ub p0 p1 u1 hp
attribute [local go_sem] Oper.semAt_some
theorem CG{β:Type}{B:Nat}{w:World}(h:w.heap.size<=B):OwnFrom B (fun(_:β) V=>Below w.heap.size w V):=
 fun _ X Y row hs hg hr=>⟨hg.os.trans hs.os,hg.tape.trans hs.tape,hg.output.trans hs.output,Nat.le_trans hs.size hg.size,fun k hk=>
  (hg.block k (Nat.lt_of_lt_of_le hk hs.size) (fun e=>by have:=(hr k e.symm).1;omega)).trans (hs.block k hk)⟩
theorem M3{β:Type}{B:Nat}{p:β->Prop}:OwnFrom B (fun s (_:World)=>p s):=fun _ _ _ _ hs _ _=>hs
theorem aG{v:Obj}(o:Obj)(h:W.heap[k]?=some v):(W.alloc o).heap[k]?=some v:=(Below.heap_alloc _ _ _ (zG h)).trans h
theorem aB(o:Obj)(h:k=W.heap.size):(W.alloc o).heap[k]?=some o:=by subst h;exact World.alloc_heap_new W o
theorem CH(h:Below n w V){l:Nat}(hl:n<=l)(o:Obj):Below n w (V.putObj l o):=
 ⟨h.os,h.tape,h.output,by simpa using h.size,fun k hk=>(World.putObj_heap_other (by omega)).trans (h.block k hk)⟩
theorem QE(h:V.heap[b]?=some (.cells #[p] t)):V.cell? ⟨b,0,none⟩=some p/\V.frozen? ⟨b,0,none⟩=false:=by
 simp[World.cell?,World.frozen?,h]
theorem nQ(h:V.heap[b]?=some (.cells #[p,q] t)):V.cell? ⟨b,0,none⟩=some p/\V.cell? ⟨b,1,none⟩=some q/\V.frozen? ⟨b,0,none⟩=false/\V.frozen? ⟨b,1,none⟩=false:=by
 simp[World.cell?,World.frozen?,h]
theorem F6(p' q':Value)(h:V.heap[b]?=some (.cells #[p,q] t)):((V.setCell ⟨b,0,none⟩ p').setCell ⟨b,1,none⟩ q').heap[b]?=some (.cells #[p',q'] t):=by
 have h1:=heap_setCell_same V b 0 _ t p' h;have h2:=heap_setCell_same (V.setCell ⟨b,0,none⟩ p') b 1 _ t q' h1;simpa using h2
def CI(sb:Nat):Value:= .func (.func 243) #[] #[.pointer (some ⟨sb,0,none⟩)]
def qU:Option (Int×Int)->Value
 |some h=> .tuple #[.agg #[.int .i64 h.1, .int .i64 h.2], .bool true]
 |none=> .tuple #[.agg #[.int .i64 0, .int .i64 0], .bool false]
theorem M4(w:World)(a l:Int)(x:Option Addr)(n c:Nat)(f:Value):∃V,V=(((((w.alloc (.cells #[.int .i64 a, .int .i64 l, .slice x n c] 205)).alloc (.cells #[f] 316)).alloc (.cells #[.int .i64 0, .int .i64 0] 26)).alloc (.cells #[.bool false] 4)).alloc (.cells #[.int .i64 a, .int .i64 l] 26)).alloc (.cells #[.slice x n c] 203)/\
  Below w.heap.size w V/\V.heap[w.heap.size+1]?=some (.cells #[f] 316)/\V.heap[w.heap.size+1+1]?=some (.cells #[.int .i64 0, .int .i64 0] 26)/\V.heap[w.heap.size+1+1+1]?=some (.cells #[.bool false] 4)/\
  V.cell? ⟨w.heap.size+4,0,none⟩=some (.int .i64 a)/\V.cell? ⟨w.heap.size+4,1,none⟩=some (.int .i64 l)/\V.heap[w.heap.size+5]?=some (.cells #[.slice x n c] 203)/\V.heap.size=w.heap.size+6:=by
 refine⟨_,rfl,?_,?_,?_,?_,?_,?_,?_,?_⟩
 ·exact((((bO w _ _).alloc (by simp;omega) _).alloc (by simp;omega) _).alloc (by simp;omega) _).alloc (by simp;omega) _
 ·exact aG _ (aG _ (aG _ (aG _ (aB _ (by simp)))))
 ·exact aG _ (aG _ (aG _ (aB _ (by simp))))
 ·exact aG _ (aG _ (aB _ (by simp)))
 ·have h:=aG (.cells #[.slice x n c] 203) (aB (k:=w.heap.size+4) (W:=((((w.alloc (.cells #[.int .i64 a, .int .i64 l, .slice x n c] 205)).alloc (.cells #[f] 316)).alloc (.cells #[.int .i64 0, .int .i64 0] 26)).alloc (.cells #[.bool false] 4))) (.cells #[.int .i64 a, .int .i64 l] 26) (by simp));simp only[World.cell?,h];rfl
 ·have h:=aG (.cells #[.slice x n c] 203) (aB (k:=w.heap.size+4) (W:=((((w.alloc (.cells #[.int .i64 a, .int .i64 l, .slice x n c] 205)).alloc (.cells #[f] 316)).alloc (.cells #[.int .i64 0, .int .i64 0] 26)).alloc (.cells #[.bool false] 4))) (.cells #[.int .i64 a, .int .i64 l] 26) (by simp));simp only[World.cell?,h];rfl
 ·exact aB _ (by simp)
 ·simp
theorem M6(a l z:Int)(x:Option Addr)(n c:Nat)(ps:List (Int×Int))(hr:rt a l=true)(hn:n<=64)(sb m:Nat)(w:World)(hp:PS w x n ps)(hs:w.cell? ⟨sb,0,none⟩=some (.int .i64 z)):
  CallsIn Fence.wide m Tryz.prog 242 #[.agg #[.int .i64 a, .int .i64 l, .slice x n c],CI sb] w fun e w'=>
   e= .returned (qU ((hol ps (16- l).toNat a l).find? fun h=>decide (h.2<=z)))/\Below w.heap.size w w':=by
 refine callsIn_of_wp_marks Tryz.func242 rfl trivial ?_ rfl;simp only[Tryz.ntmps242,List.size_toArray,List.length_cons,List.length_nil,Nat.reduceAdd,Nat.reduceSub,Array.replicate_succ,Array.replicate_zero,List.push_toArray,List.append_toArray,List.nil_append,List.cons_append];gi_wp2_with fail;refine⟨trivial,(fun h=>(by cases h)),?_⟩;refine(yF a l x n c _ _).mono ?_;rintro e w5 ⟨rfl,hw5⟩;obtain⟨W6,hW6,hB,y1,y2,y3,c0,c1,u5,s6⟩:=M4 w a l x n c (CI sb);rw[<-hW6]at hw5;subst hw5;clear hW6;obtain⟨l0,l1, -, -, -⟩:=bE hr;gi_wp2_with fail;have hx:0<n->∀q,x=some q->q.block<w.heap.size:=fun h0 q hq=>by
  obtain⟨b,o,hb,c0,_⟩:=hp.cells 0 h0;rw[hb]at hq
  cases hq;exact block_lt_of_cell c0
 refine gI (h:=6) (T:=TH w.heap.size) (n₀:=w.heap.size) (L:=[]) rfl rfl (gf:=276) (lb:=#[.pointer (some ⟨w.heap.size+4,0,none⟩), .pointer (some ⟨w.heap.size+5,0,none⟩)]) rfl trivial nM
  (LK w.heap.size x n c ps hn hx (16- l).toNat a l hr (by omega) _ w5 _ _ c0 c1 u5 (by omega) (by omega) (hp.later hB)) (by omega) (by omega) (fun k hk=>(by cases hk))
  (fun pre V=>(∀h∈pre,decide (h.2<=z)=false)/\Below w.heap.size w V/\V.heap[w.heap.size+1]?=some (.cells #[CI sb] 316)/\V.heap[w.heap.size+1+1]?=some (.cells #[.int .i64 0, .int .i64 0] 26)/\V.heap[w.heap.size+1+1+1]?=some (.cells #[.bool false] 4))
  (fun pre V=>(∃pre' h,pre=pre'++[h]/\(∀g∈pre',decide (g.2<=z)=false)/\decide (h.2<=z)=true/\V.heap[w.heap.size+1+1]?=some (.cells #[.int .i64 h.1, .int .i64 h.2] 26))/\Below w.heap.size w V/\V.heap[w.heap.size+1+1+1]?=some (.cells #[.bool true] 4))
  (eY M3 (eY (CG (by omega)) (eY (jE (by omega)) (eY (jE (by omega)) (jE (by omega))))))
  (eY (fun s X Y row hs hg hr=>by
   obtain⟨p,h,e1,e2,e3,e4⟩:=hs;exact⟨p,h,e1,e2,e3,lN hg hr (by omega) e4⟩) (eY (CG (by omega)) (jE (by omega))))
  ⟨(fun h hh=>(by cases hh)),hB,y1,y2,y3⟩ ?assign ?body ?done ?stop
 case assign=>
  intro l' x' V K hK
  simp only[lO,List.setIfInBounds_toArray,List.set_cons_succ,List.set_cons_zero]at hK⊢
  gi_wp2_with fail
  exact hK _ _ (bl1 V _) (zE) (by simp) (by simp)
 case body=>
  rintro l' pre x' Bx V hl' hsp ⟨hno,hb,g1,g2,g3⟩ d0 d1
  simp only[lO,List.setIfInBounds_toArray,List.set_cons_succ,List.set_cons_zero]
  have hw:V.cell? ⟨w.heap.size+1,0,none⟩=some (CI sb):=by simp[World.cell?,g1]
  unfold CI at hw⊢
  have hcall:=M1
  obtain⟨f0,f1,z0,z1⟩:=nQ g2
  obtain⟨f2,z2⟩:=QE g3
  gi_wp2_with fail
  refine⟨trivial,(fun h=>(by cases h)),?_⟩
  have hsb:V.cell? ⟨sb,0,none⟩=some (.int .i64 z):=(hb.cell (p:=⟨sb,0,none⟩) (block_lt_of_cell hs)).trans hs
  refine(CallsIn.inRound l' (callsIn_wide.2 (P8 z x'.1 x'.2 sb V hsb))).mono ?_
  rintro e V2 ⟨rfl,hb2⟩
  have hV:=hb.size
  have e1:=(hb2.block _ (zG g1)).trans g1
  have e2:=(hb2.block _ (zG g2)).trans g2
  have e3:=(hb2.block _ (zG g3)).trans g3
  have d0':=cell_later hb2 d0
  have d1':=cell_later hb2 d1
  have hbb:Below w.heap.size w V2:=hb.trans (hb2.mono hV)
  clear f0 f1 f2 z0 z1 z2 hw d0 d1 hsb
  obtain⟨f0,f1,z0,z1⟩:=nQ e2
  obtain⟨f2,z2⟩:=QE e3
  cases hd:decide (x'.2<=z)
  ·gi_wp2_with fail;refine⟨Kl.of_below hb2,?_,hbb,e1,e2,e3⟩;intro h hh;rcases List.mem_append.1 hh with hh|hh
   ·exact hno h hh
   ·rw[List.mem_singleton.1 hh];exact hd
  ·gi_wp2_with fail;refine⟨?_,⟨pre,x',rfl,hno,hd,?_⟩,?_,?_⟩
   ·refine(Kl.of_below hb2).trans ⟨rfl,rfl,rfl,by simp,fun k o _ ho hq=>?_⟩;have n2:k≠w.heap.size+1+1:=by
     rintro rfl;rw[e2]at ho
     cases ho;rcases hq with h|h|⟨_,v,h|h⟩
     ·omega
     ·cases h
     ·cases h
     ·cases h
    have n3:k≠w.heap.size+1+1+1:=by
     rintro rfl;rw[e3]at ho
     cases ho;rcases hq with h|h|⟨_,v,h|h⟩
     ·omega
     ·cases h
     ·cases h
     ·cases h
    rw[zB n3,zB n2,zB n2];exact ho
   ·rw[zB (by simp)];exact F6 _ _ e2
   ·exact((hbb.setCell (by simp;omega) _).setCell (by simp;omega) _).setCell (by simp;omega) _
   ·refine one_setCell (v:= .bool false) ?_;exact((zB (by simp)).trans (zB (by simp))).trans e3
 case done=>
  rintro D xs V hD rfl ⟨hno,hb,g1,g2,g3⟩ hkl hdef
  obtain⟨f0,f1,z0,z1⟩:=nQ g2
  obtain⟨f2,z2⟩:=QE g3
  have hV:=hb.size
  have hfind:(hol ps (16- l).toNat a l).find? (fun h=>decide (h.2<=z))=none:=List.find?_eq_none.2 (fun h hh=>by rw[hno h hh];simp)
  gi_wp2_with fail
  have nD:∀{k:Nat},k<=w.heap.size+5->k≠D:=fun h=>by omega
  have hD':(((V.setCell ⟨w.heap.size+1+1,0,none⟩ (.int .i64 0)).setCell ⟨w.heap.size+1+1,1,none⟩ (.int .i64 0)).setCell ⟨w.heap.size+1+1+1,0,none⟩ (.bool false)).heap[D]?=some (.deferred (some [])):=by
   rw[zB (by simp;omega),zB (by simp;omega),zB (by simp;omega)];exact hdef
  have h2':(((V.setCell ⟨w.heap.size+1+1,0,none⟩ (.int .i64 0)).setCell ⟨w.heap.size+1+1,1,none⟩ (.int .i64 0)).setCell ⟨w.heap.size+1+1+1,0,none⟩ (.bool false)).heap[w.heap.size+1+1]?=some (.cells #[.int .i64 0, .int .i64 0] 26):=by
   rw[zB (by simp)];exact F6 _ _ g2
  have h3':(((V.setCell ⟨w.heap.size+1+1,0,none⟩ (.int .i64 0)).setCell ⟨w.heap.size+1+1,1,none⟩ (.int .i64 0)).setCell ⟨w.heap.size+1+1+1,0,none⟩ (.bool false)).heap[w.heap.size+1+1+1]?=some (.cells #[.bool false] 4):=
   one_setCell (((zB (by simp)).trans (zB (by simp))).trans g3)
  have hb':Below w.heap.size w (((V.setCell ⟨w.heap.size+1+1,0,none⟩ (.int .i64 0)).setCell ⟨w.heap.size+1+1,1,none⟩ (.int .i64 0)).setCell ⟨w.heap.size+1+1+1,0,none⟩ (.bool false)):=((hb.setCell (by simp;omega) _).setCell (by simp;omega) _).setCell (by simp;omega) _
  generalize(((V.setCell ⟨w.heap.size+1+1,0,none⟩ (.int .i64 0)).setCell ⟨w.heap.size+1+1,1,none⟩ (.int .i64 0)).setCell ⟨w.heap.size+1+1+1,0,none⟩ (.bool false))=V2 at hD' h2' h3' hb'⊢
  refine⟨by simp, .inl ⟨_,_,rfl,run_takeDeferred hD',?_⟩⟩
  obtain⟨e0,e1, -, -⟩:=nQ ((World.putObj_heap_other (o:= .deferred none) (nD (by omega))).trans h2')
  obtain⟨e2, -⟩:=QE ((World.putObj_heap_other (o:= .deferred none) (nD (by omega))).trans h3')
  refine⟨qU none,by simp[results,Tryz.results242,go_sem,e0,e1,e2,qU],by rw[hfind],CH hb' (by omega) _⟩
 case stop=>
  rintro D pre V hD hpre ⟨⟨pre',h,rfl,hno,hyes,g2⟩,hb,g3⟩ hkl hdef
  have hV:=hb.size
  have hfind:(hol ps (16- l).toNat a l).find? (fun h=>decide (h.2<=z))=some h:=by
   obtain⟨rest,hrest⟩:=hpre;rw[<-hrest,List.append_assoc,List.find?_append,List.find?_eq_none.2 (fun g hg=>by rw[hno g hg];simp)];simp only[Option.none_or,List.cons_append,List.nil_append,List.find?_cons,hyes]
  gi_wp2_with fail
  have nD:∀{k:Nat},k<=w.heap.size+5->k≠D:=fun h=>by omega
  refine⟨by simp, .inl ⟨_,_,rfl,run_takeDeferred hdef,?_⟩⟩
  obtain⟨e0,e1, -, -⟩:=nQ ((World.putObj_heap_other (o:= .deferred none) (nD (by omega))).trans g2)
  obtain⟨e2, -⟩:=QE ((World.putObj_heap_other (o:= .deferred none) (nD (by omega))).trans g3)
  refine⟨qU (some h),by simp[results,Tryz.results242,go_sem,e0,e1,e2,qU],by rw[hfind],CH hb (by omega) _⟩
end Go.Proofs.YtjphnaccgfjnjaaGreatDoor
