/- A part of the proof. -/
import Derived.Test.YtndpilfpejfloaaGreatMC12
set_option maxRecDepth 100000
set_option maxHeartbeats 20000000
namespace Go.Proofs.YtndpilfpejfloaaGreat
variable {vid p sub y i0 a l up t ow t' a0 l0 E : Int} {rn sn m q b i k o c' n c vc ln base base' g bs : Nat} {rs rs1 : List Rg} {ss ss' ss1 : List Sb} {s : Sb} {xs : List Fc} {e : Po} {L M : List ((Int × Int × Int) × Int)} {ls ms : List (Int × Int)} {ps qs : List Po} {x : (Int × Int × Int) × Int} {ops : Array Oper} {C : World → Prop} {A : Act} {rest : List Oper} {us vs : List (Int × List (Int × Int × Int))} {ls' : List Le} {x' vx lx : Option Addr} {ks : List (Int × Int × Int)} {w w' : World} {v V vB vV vK : Value} {u : Vn} {cs : Array Value} {ty : TypeId}
open Go.RowKit Go.Shelf
theorem B9 (h : aZ vid rn rs sn ss = 0) (hl : ss.length = sn) (hl' : ss'.length = sn) (hn : ∀ k, k < sn → (sbAt ss' k).id = (sbAt ss k).id ∧ (sbAt ss' k).a = (sbAt ss k).a ∧ (sbAt ss' k).l = (sbAt ss k).l)
  (hf : ∀ k, k < sn → (sbAt ss' k).n ≤ 8 ∧ (∀ j, j < (sbAt ss' k).n → (fcAt (sbAt ss' k).fs j).n ≤ 4) ∧ eE (sbAt ss k).a (sbAt ss k).l (sbAt ss' k).n (sbAt ss' k).fs = true) : aZ vid rn rs sn ss' = 0 := by
 obtain ⟨g1, g2, -, -⟩ := cN h
 obtain ⟨r1, r2, r3⟩ := kJ h
 have hm : cT rn sn ss' = false := by
  unfold cT
  have e : aL sn (fun i => eD (sbAt ss' i)) = false := cG.2 (fun k hk => by
   obtain ⟨h1, h2, -⟩ := hf k hk
   unfold eD
   have e2 : aL (sbAt ss' k).n (fun j => decide (4 < (fcAt (sbAt ss' k).fs j).n)) = false := cG.2 (fun j hj => by have := h2 j hj; simp; omega)
   rw [e2]
   simp
   omega)
  rw [e]
  simp
  omega
 have hs : mQ rn rs sn ss' = true := by
  unfold mQ
  rw [zH, List.all_eq_true]
  refine ⟨fun k hk => ?_, ?_⟩
  ·have hk' := List.mem_range.1 hk
   obtain ⟨h1, h2, h3⟩ := hn k hk'
   obtain ⟨c1, c2, -⟩ := qA h k hk'
   unfold lW
   rw [h1, h2, h3, c1, (hf k hk').2.2]
   have e : aL k (xB ss' (sbAt ss k).a (sbAt ss k).l) = false := cG.2 (fun j hj => by
    have h4 := c2 j hj
    obtain ⟨-, h5, h6⟩ := hn j (by omega)
    unfold xB at h4 ⊢
    rw [h5, h6]
    exact h4)
   rw [e]
   rfl
  ·unfold mQ at r3
   rw [zH] at r3
   have r4 := r3.2
   unfold mP at r4 ⊢
   rw [List.all_eq_true] at r4 ⊢
   intro k hk
   have hk' := List.mem_range.1 hk
   have h5 := r4 k (List.mem_range.2 (by omega))
   unfold pY at h5 ⊢
   rw [(hn k (by omega)).1, (hn (k - 1) (by omega)).1]
   exact h5
 unfold aZ
 rw [hm, r1, r2, hs]
 rfl
theorem F9 {id : Int} (h : lH s id = 0) : dE id 1 65536 = true ∧ (∀ j, j < s.n → (fcAt s.fs j).id ≠ id) ∧ s.n ≠ 8 := by
 unfold lH at h
 by_cases c1 : dE id 1 65536 = false
 ·rw [if_pos c1] at h; omega
 ·rw [if_neg c1] at h
  by_cases c2 : 0 ≤ fstAt s.n (fun i => (fcAt s.fs i).id == id)
  ·rw [if_pos c2] at h; omega
  ·rw [if_neg c2] at h
   by_cases c3 : s.n = 8
   ·rw [if_pos c3] at h; omega
   ·refine ⟨by simpa using c1, fun j hj => ?_, c3⟩
    rcases fstAt_cases s.n (fun i => (fcAt s.fs i).id == id) with ⟨q, -, -, -, hq⟩ | ⟨hno, -⟩
    ·rw [hq] at c2; omega
    ·simpa using hno j hj
theorem PY {e : Fc} {p : Nat} (hp : p ≤ xs.length) : (xs.take p ++ [e] ++ xs.drop p).take p ++ (xs.take p ++ [e] ++ xs.drop p).drop (p + 1) = xs := by
 have hl : (xs.take p).length = p := by rw [List.length_take]; omega
 have h1 : (xs.take p ++ [e] ++ xs.drop p).take p = xs.take p := by
  rw [List.append_assoc]
  exact List.take_left' hl
 have h2 : (xs.take p ++ [e] ++ xs.drop p).drop (p + 1) = xs.drop p := List.drop_left' (by simp [hl])
 rw [h1, h2, List.take_append_drop]
theorem xH.right {id : Int} (hv : PT sn ss) (hK : xH vid rn rs sn ss sub id 0 y i0 rs1 ss1) :
  i0 = vid ∧ rs1 = rs ∧ ss1.length = sn ∧ aZ vid rn rs sn ss = 0 ∧ (eM ss).count y = 0 ∧ (eM ss1).count y = 1 ∧ aZ vid rn rs sn ss1 = 0 ∧
   ∃ i p, iE sn ss1 sub id i p ∧ ∀ us x n c, bN ss1 us → n = ((sbAt us i).fs.take p ++ (sbAt us i).fs.drop (p + 1)).length → bN (us.set i (bQ (sbAt us i) x n c ((sbAt us i).fs.take p ++ (sbAt us i).fs.drop (p + 1)))) ss := by
 obtain ⟨hA, -, hR⟩ := hK
 obtain ⟨rfl, rfl, ts, i, x, n, c, fx, gs, hSA, hit, hss, hput, rfl, rfl⟩ := hR rfl
 have hcz : aZ i0 rn rs1 sn ss = 0 := by
  unfold nH at hA
  by_cases c : aZ i0 rn rs1 sn ss ≠ 0
  ·rw [if_pos c] at hA; exact absurd hA.1.symm c
  ·exact Classical.not_not.1 c
 have hrel : nG (sbAt ss i) id 0 y := by
  unfold nH at hA
  rw [if_neg (by simp [hcz])] at hA
  rcases hA with ⟨-, h, -⟩ | ⟨k, hk, h⟩
  ·exact absurd h (by decide)
  ·obtain rfl := hk.one hSA
   exact h
 obtain ⟨hE, hL⟩ := hrel.ok
 obtain ⟨hwid, hno, hn8⟩ := F9 hE
 have hi := hSA.isn
 obtain ⟨-, -, f3, f4⟩ := cN hcz
 have hsi := hss.2 i (by rw [hv.subs]; exact hi)
 have hFl : (sbAt ts i).fs.length = (sbAt ss i).n := by rw [← hsi.2.2.2.2.1, hv.fcs i hi]
 have hnob := PV hcz hv hi hL
 have htl : ts.length = sn := by rw [← hss.1, hv.subs]
 have hfts : ∀ k, k < sn → eE (sbAt ss k).a (sbAt ss k).l (sbAt ss k).n (sbAt ts k).fs = true := fun k hk => B8 (hss.2 k (by rw [hv.subs]; exact hk)).2.2.2.2 (hv.fcs k hk) (qA hcz k hk).2.2
 have hyi : y ∉ aN (sbAt ts i).fs := by rw [← hsi.2.2.2.2.nss]; exact hL.free
 obtain ⟨p, hp1, hp2, hp3, hgs⟩ := hput
 have hgl : gs.length = (sbAt ss i).n + 1 := by rw [hgs]; simp; omega
 have hperm : (aN gs).Perm (y :: aN (sbAt ts i).fs) := by rw [hgs]; exact F8 rfl
 have hc0 : (eM ss).count y = 0 := List.count_eq_zero.2 hnob
 have hids : ∀ j, j < (sbAt ss i).n → (fcAt (sbAt ts i).fs j).id = (fcAt (sbAt ss i).fs j).id := fun j hj => (hsi.2.2.2.2.2 j (by rw [hv.fcs i hi]; exact hj)).1.symm
 refine ⟨rfl, rfl, by rw [List.length_set]; exact htl, hcz, hc0, ?_, ?_, i, p, ?_, ?_⟩
 ·have h1 := B6 (ts := ts) (i := i) (s := bQ (sbAt ts i) x gs.length c gs) (a := y) hit
  have h2 : (aN (sbAt ts i).fs).count y = 0 := List.count_eq_zero.2 hyi
  have h3 : (eM ts).count y = 0 := by rw [← hss.ads]; exact hc0
  have h4 : (aN (bQ (sbAt ts i) x gs.length c gs).fs).count y = 1 := by
   show (aN gs).count y = 1
   rw [hperm.count_eq, List.count_cons_self, h2]
  omega
 ·refine B9 hcz hv.subs (by rw [List.length_set]; exact htl) (fun k hk => ?_) (fun k hk => ?_)
  ·rw [dA hit]
   have h1 := hss.2 k (by rw [hv.subs]; exact hk)
   split
   ·rename_i e; subst e; exact ⟨h1.1.symm, h1.2.1.symm, h1.2.2.1.symm⟩
   ·exact ⟨h1.1.symm, h1.2.1.symm, h1.2.2.1.symm⟩
  ·rw [dA hit]
   have h1 := hss.2 k (by rw [hv.subs]; exact hk)
   split
   ·rename_i e
    subst e
    refine ⟨by show gs.length ≤ 8; have := f3 i hk; omega, fun j hj => ?_, ?_⟩
    ·show (fcAt gs j).n ≤ 4
     have hj' : j < gs.length := hj
     rw [hgs, mA hp1]
     split
     ·rw [← (hsi.2.2.2.2.2 j (by rw [hv.fcs i hk]; omega)).2.1]; exact f4 i hk j (by omega)
     ·split
      ·show 1 ≤ 4; omega
      ·rw [← (hsi.2.2.2.2.2 (j - 1) (by rw [hv.fcs i hk]; omega)).2.1]; exact f4 i hk (j - 1) (by omega)
    ·exact PW (hfts i hk) hFl ⟨p, hp1, hp2, hp3, hgs⟩ hwid (fun j hj => by rw [hids j hj]; exact hno j hj) hL.use hyi
   ·refine ⟨by rw [← h1.2.2.2.1]; exact f3 k hk, fun j hj => ?_, by rw [← h1.2.2.2.1]; exact hfts k hk⟩
    rw [← h1.2.2.2.1] at hj
    rw [← (h1.2.2.2.2.2 j (by rw [hv.fcs k hk]; exact hj)).2.1]
    exact f4 k hk j hj
 ·have hat : ∀ k, (sbAt (ts.set i (bQ (sbAt ts i) x gs.length c gs)) k).id = (sbAt ts k).id := fun k => by
   rw [dA hit]
   split
   ·rename_i e; subst e; rfl
   ·rfl
  have hid : ∀ k, k < sn → (sbAt ts k).id = (sbAt ss k).id := fun k hk => (hss.2 k (by rw [hv.subs]; exact hk)).1.symm
  have hsi' : sbAt (ts.set i (bQ (sbAt ts i) x gs.length c gs)) i = bQ (sbAt ts i) x gs.length c gs := by rw [dA hit, if_pos rfl]
  refine ⟨hi, by rw [hat, hid i hi]; exact hSA.sid, fun k hk => by rw [hat, hid k (by omega)]; exact hSA.sno k hk, ?_, ?_, ?_⟩
  ·rw [hsi']; show p < gs.length; omega
  ·rw [hsi']; show (fcAt gs p).id = id; rw [hgs, mA hp1, if_neg (Nat.lt_irrefl _), if_pos rfl]
  ·intro k hk
   rw [hsi']
   show (fcAt gs k).id ≠ id
   rw [hgs, mA hp1, if_pos hk, hids k (by omega)]
   exact hno k (by omega)
 ·intro us x' n' c' hus hn'
  have hil : i < (ts.set i (bQ (sbAt ts i) x gs.length c gs)).length := by rw [List.length_set]; exact hit
  have hui := hus.2 i hil
  rw [dA hit, if_pos rfl] at hui
  have hgu : bV gs (sbAt us i).fs := hui.2.2.2.2
  have hpg : p < gs.length := by omega
  have hcut : bV (gs.take p ++ gs.drop (p + 1)) ((sbAt us i).fs.take p ++ (sbAt us i).fs.drop (p + 1)) := hgu.del hpg
  have hcg : gs.take p ++ gs.drop (p + 1) = (sbAt ts i).fs := by rw [hgs]; exact PY hp1
  rw [hcg] at hcut
  have hul : i < us.length := by rw [← hus.1, List.length_set]; exact hit
  refine ⟨by rw [List.length_set, ← hus.1, List.length_set, htl, hv.subs], fun k hk => ?_⟩
  rw [List.length_set, ← hus.1, List.length_set] at hk
  have hk' : k < sn := by omega
  have h1 := hss.2 k (by rw [hv.subs]; exact hk')
  rw [dA hul]
  by_cases e : i = k
  ·subst e
   rw [if_pos rfl]
   refine ⟨hui.1.symm.trans h1.1.symm, hui.2.1.symm.trans h1.2.1.symm, hui.2.2.1.symm.trans h1.2.2.1.symm, ?_, ?_⟩
   ·show n' = (sbAt ss i).n
    rw [hn', ← hcut.1, hFl]
   ·exact (hcut.symm.trans h1.2.2.2.2.symm)
  ·rw [if_neg e]
   have h2 := hus.2 k (by rw [List.length_set]; exact hk)
   rw [dA hit, if_neg e] at h2
   exact ⟨h2.1.symm.trans h1.1.symm, h2.2.1.symm.trans h1.2.1.symm, h2.2.2.1.symm.trans h1.2.2.1.symm, h2.2.2.2.1.symm.trans h1.2.2.2.1.symm, h2.2.2.2.2.symm.trans h1.2.2.2.2.symm⟩
theorem xI.right {id : Int} (hv : PT sn ss) (hK : xI vid rn rs sn ss sub id 0 y i0 rs1 ss1) (hcz0 : aZ vid rn rs sn ss = 0) :
  i0 = vid ∧ rs1 = rs ∧ ss1.length = sn ∧ (eM ss).count y = 0 ∧ (eM ss1).count y = 1 ∧ aZ vid rn rs sn ss1 = 0 := by
 obtain ⟨hA, -, hR⟩ := hK
 obtain ⟨rfl, rfl, ts, i, q, x, c, ns, hFA, hit, hqt, hss, hput, rfl⟩ := hR rfl
 have hcz := hcz0
 have hrel : qT (sbAt ss i) (fcAt (sbAt ss i).fs q) 0 y := by
  by_cases c : wT i0 rn rs1 sn ss sub id = 0
  ·obtain ⟨k, l, h1, h2⟩ := hA.2 c
   obtain ⟨rfl, rfl⟩ := h1.one hFA
   exact h2
  ·exact absurd (hA.1 c).1.symm c
 unfold qT at hrel
 by_cases h4 : (fcAt (sbAt ss i).fs q).n = 4
 ·rw [if_pos h4] at hrel; exact absurd hrel.1 (by decide)
 rw [if_neg h4] at hrel
 have hL : nF (sbAt ss i) y := by
  rcases hrel with ⟨-, h⟩ | ⟨h, -⟩
  ·exact h
  ·exact absurd h (by decide)
 have hi := hFA.isn
 obtain ⟨-, -, f3, f4⟩ := cN hcz
 have hsi := hss.2 i (by rw [hv.subs]; exact hi)
 have hFl : (sbAt ts i).fs.length = (sbAt ss i).n := by rw [← hsi.2.2.2.2.1, hv.fcs i hi]
 have hnob := PV hcz hv hi hL
 have htl : ts.length = sn := by rw [← hss.1, hv.subs]
 have hfts : ∀ k, k < sn → eE (sbAt ss k).a (sbAt ss k).l (sbAt ss k).n (sbAt ts k).fs = true := fun k hk => B8 (hss.2 k (by rw [hv.subs]; exact hk)).2.2.2.2 (hv.fcs k hk) (qA hcz k hk).2.2
 have hyi : y ∉ aN (sbAt ts i).fs := by rw [← hsi.2.2.2.2.nss]; exact hL.free
 have hqn : q < (sbAt ss i).n := hFA.jn
 have hfq := hsi.2.2.2.2.2 q (by rw [hv.fcs i hi]; exact hqn)
 have hnsl : (fcAt (sbAt ts i).fs q).ns.length = (fcAt (sbAt ts i).fs q).n := by rw [← hfq.2.2, ← hfq.2.1]; exact hv.ads i hi q hqn
 have hnl : ns.length = (fcAt (sbAt ss i).fs q).n + 1 := by
  obtain ⟨p, hp, -, -, rfl⟩ := hput
  rw [hnsl, ← hfq.2.1] at hp
  simp
  rw [hnsl, ← hfq.2.1]
  omega
 have hperm := B7 (x := x) (n := ns.length) (c := c) hqt hput
 have hc0 : (eM ss).count y = 0 := List.count_eq_zero.2 hnob
 refine ⟨rfl, rfl, by rw [List.length_set]; exact htl, hc0, ?_, ?_⟩
 ·have h1 := B6 (ts := ts) (i := i) (s := bQ (sbAt ts i) (sbAt ts i).x (sbAt ts i).n (sbAt ts i).c ((sbAt ts i).fs.set q (withA (fcAt (sbAt ts i).fs q) x ns.length c ns))) (a := y) hit
  have h2 : (aN (sbAt ts i).fs).count y = 0 := List.count_eq_zero.2 hyi
  have h3 : (eM ts).count y = 0 := by rw [← hss.ads]; exact hc0
  have h5 : (aN (bQ (sbAt ts i) (sbAt ts i).x (sbAt ts i).n (sbAt ts i).c ((sbAt ts i).fs.set q (withA (fcAt (sbAt ts i).fs q) x ns.length c ns))).fs).count y = 1 := by
   show (aN ((sbAt ts i).fs.set q (withA (fcAt (sbAt ts i).fs q) x ns.length c ns))).count y = 1
   rw [hperm.count_eq, List.count_cons_self, h2]
  omega
 ·refine B9 hcz hv.subs (by rw [List.length_set]; exact htl) (fun k hk => ?_) (fun k hk => ?_)
  ·rw [dA hit]
   have h1 := hss.2 k (by rw [hv.subs]; exact hk)
   split
   ·rename_i e; subst e; exact ⟨h1.1.symm, h1.2.1.symm, h1.2.2.1.symm⟩
   ·exact ⟨h1.1.symm, h1.2.1.symm, h1.2.2.1.symm⟩
  ·rw [dA hit]
   have h1 := hss.2 k (by rw [hv.subs]; exact hk)
   split
   ·rename_i e
    subst e
    refine ⟨by show (sbAt ts i).n ≤ 8; rw [← h1.2.2.2.1]; exact f3 i hk, fun j hj => ?_, ?_⟩
    ·show (fcAt ((sbAt ts i).fs.set q (withA (fcAt (sbAt ts i).fs q) x ns.length c ns)) j).n ≤ 4
     have hj' : j < (sbAt ss i).n := by rw [h1.2.2.2.1]; exact hj
     rw [kH hqt]
     split
     ·show ns.length ≤ 4
      have := f4 i hk q hqn
      omega
     ·rw [← (hsi.2.2.2.2.2 j (by rw [hv.fcs i hk]; exact hj')).2.1]; exact f4 i hk j hj'
    ·show eE (sbAt ss i).a (sbAt ss i).l (sbAt ts i).n ((sbAt ts i).fs.set q (withA (fcAt (sbAt ts i).fs q) x ns.length c ns)) = true
     rw [← h1.2.2.2.1]
     exact L5 (hfts i hk) hFl hqn hnsl hput hL.use hyi
   ·refine ⟨by rw [← h1.2.2.2.1]; exact f3 k hk, fun j hj => ?_, by rw [← h1.2.2.2.1]; exact hfts k hk⟩
    rw [← h1.2.2.2.1] at hj
    rw [← (h1.2.2.2.2.2 j (by rw [hv.fcs k hk]; exact hj)).2.1]
    exact f4 k hk j hj
open Go.RowKit Go.Maps
abbrev JP (p a l : Int) : Value := .agg #[.int .i64 p, .int .i64 a, .int .i64 l]
def dY (p a l : Int) : Lit := .string (keyBytes [.int .i64 p, .int .i64 a, .int .i64 l])
theorem L6 : laidOutB Tryz.prog = true := by kernel_rfl
theorem L7 : (match Tryz.prog.underlying 102 with | some (.array _ _) | some (.struct _) => true | _ => false) = true := by kernel_rfl
theorem PZ : (102 : TypeId) < Tryz.prog.types.size := of_decide_eq_true (by kernel_rfl)
theorem L8 : Tryz.prog.keyTypeAt 3 102 = true := by kernel_rfl
theorem mB : Keyed Tryz.prog 102 := Keyed.of_law (deep_law_laid L6 (m := 3) (by omega) PZ L8 L7)
theorem L9 : ∃ m, Tryz.prog.types.size = m + 3 := ⟨Tryz.prog.types.size - 3, by kernel_rfl⟩
theorem AD : Tryz.prog.cellsOf 102 = 3 := by kernel_rfl
theorem wA : Tryz.prog.cellsOf 49 = 2 := by kernel_rfl
theorem wB : Tryz.prog.cellsOf 3 = 1 := by kernel_rfl
theorem MA : Tryz.prog.keyType 102 = true := by kernel_rfl
theorem P0 (ha : (Lit.int .i64 a).wf = true) (hl : (Lit.int .i64 l).wf = true) : Tryz.prog.keyLits (m + 2) 49 [.int .i64 a, .int .i64 l] = some [.int .i64 a, .int .i64 l] := by
 unfold Program.keyLits
 simp only [Tryz.underlying49]
 rw [if_pos ⟨by rw [wA]; rfl, by kernel_rfl⟩]
 simp [wB, Program.keyLits, Tryz.underlying3, ha, hl]
theorem MB (hp : (Lit.int .i64 p).wf = true) (ha : (Lit.int .i64 a).wf = true) (hl : (Lit.int .i64 l).wf = true) : Tryz.prog.keyLits (m + 3) 102 [.int .i64 p, .int .i64 a, .int .i64 l] = some [.int .i64 p, .int .i64 a, .int .i64 l] := by
 unfold Program.keyLits
 simp only [Tryz.underlying102]
 rw [if_pos ⟨by rw [AD]; rfl, by kernel_rfl⟩]
 have h1 : Tryz.prog.keyLits (m + 2) 3 [.int .i64 p] = some [.int .i64 p] := by simp [Program.keyLits, Tryz.underlying3, hp]
 have h2 := P0 (m := m) ha hl
 simp [wB, wA, h1, h2]
theorem oY (hp : (Lit.int .i64 p).wf = true) (ha : (Lit.int .i64 a).wf = true) (hl : (Lit.int .i64 l).wf = true) : keyOf Tryz.prog 102 (JP p a l) = some (dY p a l) := by
 obtain ⟨m, hm⟩ := L9
 have h1 := MB (m := m + 1) hp ha hl
 have h2 : (JP p a l).formed Tryz.prog 102 = true := by simp [Value.formed, Tryz.underlying102, AD]
 unfold keyOf dY
 simp only [Tryz.underlying102]
 rw [if_pos (by rw [MA, h2]; rfl), hm]
 show Option.map _ (Tryz.prog.keyLits (m + 1 + 3) 102 [.int .i64 p, .int .i64 a, .int .i64 l]) = _
 rw [h1]
 rfl
theorem oZ {q b m : Int} (hp : (Lit.int .i64 p).wf = true) (ha : (Lit.int .i64 a).wf = true) (hl : (Lit.int .i64 l).wf = true) (hq : (Lit.int .i64 q).wf = true) (hb : (Lit.int .i64 b).wf = true) (hm : (Lit.int .i64 m).wf = true) (h : dY p a l = dY q b m) : p = q ∧ a = b ∧ l = m := by
 have h1 := oY hp ha hl
 have h2 := oY hq hb hm
 rw [← h] at h2
 have := mB.inj h1 h2
 simpa using this
open Go.RowKit Go.Shelf Go.Maps
def keyB (p a l : Int) (x : (Int × Int × Int) × Int) : Bool := decide (x.1 = (p, a, l))
def nP (L : List ((Int × Int × Int) × Int)) (p a l : Int) : Int := match L.find? (keyB p a l) with | some x => x.2 | none => 0
def CA (p a l : Int) : Prop := (Lit.int .i64 p).wf = true ∧ (Lit.int .i64 a).wf = true ∧ (Lit.int .i64 l).wf = true
structure GT (D : DataW Unit) (L : List ((Int × Int × Int) × Int)) : Prop where
 isMap : IsMap D
 at_ : ∀ p a l, CA p a l → D.atKey (dY p a l) (.lit (.int .i64 0)) = .lit (.int .i64 (nP L p a l))
 has_ : ∀ p a l, CA p a l → has D (dY p a l) = L.any (keyB p a l)
 only : ∀ kl, has D kl = true → ∃ x ∈ L, kl = dY x.1.1 x.1.2.1 x.1.2.2
 wfs : ∀ x ∈ L, CA x.1.1 x.1.2.1 x.1.2.2
theorem GT.empty : GT (.map []) [] := ⟨isMap_empty, fun _ _ _ _ => rfl, fun _ _ _ _ => rfl, (fun _ h => by cases h), (fun _ h => by cases h)⟩
theorem GT.put {D : DataW Unit} (h : GT D L) {p a l : Int} (o : Int) (hw : CA p a l) : GT (D.put (dY p a l) (.lit (.int .i64 o))) (((p, a, l), o) :: L) where
 isMap := h.isMap.put _ _
 at_ := fun q b m hq => by
  by_cases e : p = q ∧ a = b ∧ l = m
  ·obtain ⟨rfl, rfl, rfl⟩ := e
   rw [atKey_put_same h.isMap (by trivial)]
   simp [nP, keyB]
  ·have hne : dY q b m ≠ dY p a l := fun e2 => by
    obtain ⟨h1, h2, h3⟩ := oZ hq.1 hq.2.1 hq.2.2 hw.1 hw.2.1 hw.2.2 e2
    exact e ⟨h1.symm, h2.symm, h3.symm⟩
   rw [atKey_put_other hne, h.at_ q b m hq]
   have hk : keyB q b m ((p, a, l), o) = false := by
    unfold keyB
    rw [decide_eq_false]
    intro e3
    simp only [Prod.mk.injEq] at e3
    exact e e3
   simp [nP, hk]
 has_ := fun q b m hq => by
  by_cases e : p = q ∧ a = b ∧ l = m
  ·obtain ⟨rfl, rfl, rfl⟩ := e
   rw [has_put_same h.isMap (by trivial)]
   simp [keyB]
  ·have hne : dY q b m ≠ dY p a l := fun e2 => by
    obtain ⟨h1, h2, h3⟩ := oZ hq.1 hq.2.1 hq.2.2 hw.1 hw.2.1 hw.2.2 e2
    exact e ⟨h1.symm, h2.symm, h3.symm⟩
   rw [has_put_other hne, h.has_ q b m hq]
   have hk : keyB q b m ((p, a, l), o) = false := by
    unfold keyB
    rw [decide_eq_false]
    intro e3
    simp only [Prod.mk.injEq] at e3
    exact e e3
   simp [hk]
 only := fun kl h1 => by
  by_cases e : kl = dY p a l
  ·exact ⟨_, List.mem_cons_self, e⟩
  ·rw [has_put_other e] at h1
   obtain ⟨x, hx, h2⟩ := h.only kl h1
   exact ⟨x, List.mem_cons_of_mem _ hx, h2⟩
 wfs := fun x hx => by
  rcases List.mem_cons.1 hx with rfl | hx
  ·exact hw
  ·exact h.wfs x hx
def gP (id : Int) (ls : List Le) : List ((Int × Int × Int) × Int) := ((ls.filter fun e => e.kd == 1).map fun e => ((id, e.a, e.l), e.ow)).reverse
def bY (ps : List Po) : List ((Int × Int × Int) × Int) := ps.reverse.flatMap fun p => gP p.id p.ls
theorem MC {ls : List Le} (h : i < ls.length) : aO ls i = ls[i] := by unfold aO; rw [zF, List.getElem?_eq_getElem h]; rfl
theorem IT {id : Int} {ls : List Le} (h : q < ls.length) : gP id (ls.take (q + 1)) = if (aO ls q).kd = 1 then ((id, (aO ls q).a, (aO ls q).l), (aO ls q).ow) :: gP id (ls.take q) else gP id (ls.take q) := by
 unfold gP
 rw [List.take_add_one, List.getElem?_eq_getElem h, MC h, Option.toList_some, List.filter_append]
 by_cases c : ls[q].kd = 1
 ·rw [if_pos c]
  simp [c]
 ·rw [if_neg c]
  simp [c]
theorem IU (h : k < ps.length) : bY (ps.take (k + 1)) = gP (poAt ps k).id (poAt ps k).ls ++ bY (ps.take k) := by
 unfold bY
 rw [List.take_add_one, List.getElem?_eq_getElem h, bI h, Option.toList_some, List.reverse_append]
 simp
theorem CB {id : Int} {ls : List Le} : (gP id ls).length ≤ ls.length := by
 unfold gP
 rw [List.length_reverse, List.length_map]
 exact List.length_filter_le _ _
theorem mW : Tryz.prog.underlying 99 = some (.map 102 3) := by kernel_rfl
theorem lJ (t : Int) (x : Option Addr) (n c : Nat) (ps : List Po) (w : World) (hp : nW w x n ps) (hn : n ≤ 64) (hm : ∀ k, k < n → (poAt ps k).n ≤ 64)
  (hW : ∀ k, k < n → ∀ q, q < (poAt ps k).n → CA (poAt ps k).id (aO (poAt ps k).ls q).a (aO (poAt ps k).ls q).l ∧ (Lit.int .i64 (aO (poAt ps k).ls q).ow).wf = true) :
  Calls Tryz.prog 39 #[.agg #[.int .i64 t, .slice x n c]] w fun e w' => ∃ bm D, e = .returned (.map (some bm)) ∧ w.heap.size ≤ bm ∧ w'.ownsMap Tryz.prog 102 (plainElem Tryz.prog 3) bm (bY ps).length D ∧ GT D (bY ps) ∧ Below w.heap.size w w' := by
 have hmm := @run_makeMap Tryz.prog
 have hpl : Hid (ps.length = n) := hp.len
 go_enter Tryz.func39, Tryz.ntmps39
 go_wp2
 go_loopw [12] (fun i wr => ∃ (k : Nat) (D : DataW Unit), k ≤ n ∧ i = .int .i64 k ∧ Below w.heap.size w wr ∧ wr.ownsMap Tryz.prog 102 (plainElem Tryz.prog 3) (w.heap.size + 1) (bY (ps.take k)).length D ∧ GT D (bY (ps.take k)) ∧ (bY (ps.take k)).length ≤ k * 64) (fun i _ => n - (intOf i).toNat)
 case atStart =>
  refine ⟨0, .map [], by omega, rfl, ?_, ?_, ?_, ?_⟩
  ·exact cC w _ _
  ·have := World.ownsMap_made (H := Unit) (w.alloc (Q1 t x n c)) Tryz.prog 102 (plainElem Tryz.prog 3)
   simpa [bY] using this
  ·exact GT.empty
  ·simp [bY]
 case round =>
  obtain ⟨k, D, hk, rfl, hB, hO, hC, hL⟩ := hrel
  by_cases hlt : k < n
  ·have hlt' : Hid (k < n) := hlt
   have hpr := hp.later hB
   obtain ⟨b, o, rfl, c0, c1, c2, c3, c4, c5, c6, c7, c8⟩ := hpr.cells k hlt
   have hI := (hp.leases k hlt).2.2
   have hm1 := hm k hlt
   have hW1 := hW k hlt
   have hsz := hB.size
   have hst : Hid (bY (ps.take (k + 1)) = gP (poAt ps k).id (poAt ps k).ls ++ bY (ps.take k)) := IU (by rw [hpl.out]; exact hlt)
   generalize hf : poAt ps k = f at *
   clear hf
   go_wp2
   obtain ⟨wo, rfl⟩ : ∃ wo, wo = wr := ⟨_, rfl⟩
   clear c0 c1 c2 c3 c4 c5 c6 c7 c8
   have hol : Hid (w.heap.size + 1 < wo.heap.size) := hO.lt
   go_loopw [19] (fun i wr => ∃ (q : Nat) (D : DataW Unit), q ≤ f.n ∧ i = .int .i64 q ∧ Below w.heap.size w wr ∧ wr.heap[wo.heap.size]? = some (G6 f) ∧ wr.ownsMap Tryz.prog 102 (plainElem Tryz.prog 3) (w.heap.size + 1) (gP f.id (f.ls.take q) ++ bY (ps.take k)).length D ∧ GT D (gP f.id (f.ls.take q) ++ bY (ps.take k))) (fun i _ => f.n - (intOf i).toNat)
   case atStart => exact ⟨0, D, by omega, rfl, hB.trans ((bl1 wo _).mono hsz), aB _ rfl, by simpa [gP] using hO.alloc _, by simpa [gP] using hC⟩
   case round =>
    obtain ⟨q, D2, hq, rfl, hB2, hbx, hO2, hC2⟩ := hrel
    by_cases hq2 : q < f.n
    ·have hq' : Hid (q < f.n) := hq2
     obtain ⟨b2, o2, hx2, d0, d1, d2, d3, d4⟩ := (hI.later hB2).cells q hq2
     have hst2 := IT (id := f.id) (ls := f.ls) (q := q) (by rw [hI.len]; exact hq2)
     have hL2 : Hid ((gP f.id (f.ls.take q) ++ bY (ps.take k)).length ≤ k * 64 + 64) := by
      show _ ≤ _
      rw [List.length_append]
      have := CB (id := f.id) (ls := f.ls.take q)
      rw [List.length_take] at this
      omega
     obtain ⟨hw3, hwo⟩ := hW1 q hq2
     have hkey : keyOf Tryz.prog 102 (JP f.id (aO f.ls q).a (aO f.ls q).l) = some (dY f.id (aO f.ls q).a (aO f.ls q).l) := oY hw3.1 hw3.2.1 hw3.2.2
     generalize hLd : gP f.id (f.ls.take q) ++ bY (ps.take k) = L at *
     have hmx : L.length < maxLen := by have := hL2.out; unfold maxLen; omega
     rw [hx2]
     generalize aO f.ls q = e at *
     obtain ⟨ea, el, ek, eo, eu⟩ := e
     simp only at *
     have hbx2 := aF (SK ⟨ea, el, ek, eo, eu⟩) hbx
     have hO3 := hO2.alloc (SK ⟨ea, el, ek, eo, eu⟩)
     have hB3 := hB2.alloc hB2.size (SK ⟨ea, el, ek, eo, eu⟩)
     obtain ⟨kb, -⟩ := aE hbx2
     have kb0 := kb 0
     by_cases hkd : ek = 1
     ·subst hkd
      rw [if_pos rfl] at hst2
      go_wp2_with (first
       | (at_mapUpdate; refine wpList_mapUpdate_own _ rfl _ _ _ 99 rfl 102 3 mB mW _ (w.heap.size + 1) _ _ rfl hO3 hmx _ _ _ rfl rfl hkey _ [] (plainElem_int under_int hwo) ?_; intro w1 hown1 hgrow1)
       | go_in)
      have hP := hC2.put eo hw3
      go_roundw
      case rel =>
       refine ⟨q + 1, D2.put (dY f.id ea el) (.lit (.int .i64 eo)), hq'.out, by go_num, hB3.grown hgrow1 hB3.size (fun j hj => by cases hj; omega), fU hgrow1 hbx2 (by have := hol.out; omega), ?_, ?_⟩
       ·rw [hst2, List.cons_append, hLd]
        exact hown1
       ·rw [hst2, List.cons_append, hLd]
        exact hP
      case measure => simp [intOf]; have := hq'.out; omega
     ·rw [if_neg hkd] at hst2
      have hkd' : (ek == 1) = false := by simpa using hkd
      go_wp2
      go_roundw
      case rel => exact ⟨q + 1, D2, hq'.out, by go_num, hB3, hbx2, by rw [hst2, hLd]; exact hO3, by rw [hst2, hLd]; exact hC2⟩
      case measure => simp [intOf]; have := hq'.out; omega
    ·obtain rfl : q = f.n := by omega
     have e : f.ls.take f.n = f.ls := by rw [← hI.len, List.take_length]
     rw [e, ← hst.out] at hO2 hC2
     go_wp2
     go_roundw
     case rel =>
      refine ⟨k + 1, D2, hlt'.out, by go_num, hB2, hO2, hC2, ?_⟩
      rw [hst.out, List.length_append]
      have := CB (id := f.id) (ls := f.ls)
      rw [hI.len] at this
      omega
     case measure => simp [intOf]; have := hlt'.out; omega
  ·obtain rfl : k = n := by omega
   have e : ps.take k = ps := by rw [← hpl.out, List.take_length]
   rw [e] at hO hC
   go_wp2
   go_ret
   exact ⟨_, D, rfl, by omega, hO, hC, hB⟩
def uZ (L : List ((Int × Int × Int) × Int)) (id : Int) : Bool := L.any fun x => decide (nP L x.1.1 x.1.2.1 x.1.2.2 = id)
theorem CC (bm m : Nat) (D : DataW Unit) (L : List ((Int × Int × Int) × Int)) (id : Int) (w : World) (hO : w.ownsMap Tryz.prog 102 (plainElem Tryz.prog 3) bm m D) (hC : GT D L) :
  Calls Tryz.prog 40 #[.map (some bm), .int .i64 id] w fun e w' => e = .returned (.bool (uZ L id)) ∧ Below w.heap.size w w' := by
 have hDb : Hid (GT D L) := hC
 go_enter Tryz.func40, Tryz.ntmps40
 go_wp2_with (first | (at_range; refine wpList_range_own _ rfl _ 99 rfl 102 3 mB mW _ bm m D rfl hO ?_; intro w0 hrg0 hg0 hs0) | go_in)
 go_frame
 go_loopw [] (fun wr => ∃ left cnt, wr.ranges Tryz.prog 102 (plainElem Tryz.prog 3) bm w.heap.size m D left cnt ∧ Below w.heap.size w wr ∧ (∀ x ∈ L, left (dY x.1.1 x.1.2.1 x.1.2.2) = true ∨ nP L x.1.1 x.1.2.1 x.1.2.2 ≠ id)) (fun wr => wr.rangeLeft bm w.heap.size)
 case atStart => exact ⟨_, _, hrg0, (zD).grown hg0 (zE) (fun j hj => by cases hj), fun x hx => .inl (by rw [hDb.out.has_ _ _ _ (hDb.out.wfs x hx)]; exact List.any_eq_true.2 ⟨x, hx, by unfold keyB; simp⟩)⟩
 case round =>
  obtain ⟨left, cnt, hrg, hB, hall⟩ := hrel
  go_wp2_with (first
   | (at_next; refine wpList_next_ranges (α := Value) (β := Int) _ rfl _ rfl 102 mB (plainElem Tryz.prog 3) (fun x => x) (fun c => .int .i64 c) (fun key _ _ => ⟨key, rfl⟩) (fun v y h => (plainElem_int_inv under_int h).imp fun _ h => h.1) bm w.heap.size m _ _ _ rfl hrg ?_ ?_)
   | go_in)
  ·intro hc0 hl0
   go_wp2
   go_ret
   refine ⟨aM ?_, hB⟩
   symm
   unfold uZ
   rw [List.any_eq_false]
   intro x hx
   rcases hall x hx with h | h
   ·rw [hl0] at h; cases h
   ·simpa using h
  ·intro x c kl y yp w1 cnt1 hkx hlx hvc hat hrg1 hlt hg1 hs1 hen
   have hB1 : Below w.heap.size w w1 := hB.grown hg1 hB.size (fun j hj => by cases hj; omega)
   obtain ⟨z, hz, hkl⟩ := hDb.out.only kl (has_true_of_atKey hat)
   have hcx : nP L z.1.1 z.1.2.1 z.1.2.2 = c := by
    have h1 := hat (.lit (.int .i64 0))
    rw [hkl, hDb.out.at_ _ _ _ (hDb.out.wfs z hz)] at h1
    obtain ⟨c', e1, e2, -⟩ := plainElem_int_inv under_int hvc
    cases e1
    cases e2
    cases h1
    rfl
   by_cases hgt : c = id
   ·go_wp2
    go_ret
    exact ⟨aM (List.any_eq_true.2 ⟨z, hz, by rw [hcx, hgt]; simp⟩).symm, hB1⟩
   ·go_wp2
    go_roundw
    case rel => exact ⟨_, cnt1, hrg1, hB1, fun u hu => by
     by_cases e : dY u.1.1 u.1.2.1 u.1.2.2 = kl
     ·refine .inr ?_
      obtain ⟨e1, e2, e3⟩ := oZ (hDb.out.wfs u hu).1 (hDb.out.wfs u hu).2.1 (hDb.out.wfs u hu).2.2 (hDb.out.wfs z hz).1 (hDb.out.wfs z hz).2.1 (hDb.out.wfs z hz).2.2 (e.trans hkl)
      rw [e1, e2, e3, hcx]
      exact hgt
     ·rcases hall u hu with h | h
      ·refine .inl ?_
       rw [h, sameKey_ne e]
       rfl
      ·exact .inr h⟩
    case measure => rw [hrg1.left_eq, hrg.left_eq]; omega
theorem fG : keyB p a l x = true ↔ x.1 = (p, a, l) := by unfold keyB; simp
def IV (id : Int) : List ((Int × Int × Int) × Int) → List (Int × Int × Int) → Option (List ((Int × Int × Int) × Int))
 | L, [] => some L
 | L, k :: ks => if nP L k.1 k.2.1 k.2.2 = id then IV id (L.filter fun x => !keyB k.1 k.2.1 k.2.2 x) ks else none
def GA : List ((Int × Int × Int) × Int) → List (Int × List (Int × Int × Int)) → Bool
 | _, [] => true
 | L, v :: vs => match IV v.1 L v.2 with
  | none => false
  | some M => !uZ M v.1 && GA M vs
structure AE (L : List ((Int × Int × Int) × Int)) : Prop where
 one : L.Pairwise fun x y => x.1 ≠ y.1
 pos : ∀ x ∈ L, x.2 ≠ 0
theorem AE.eq (h : AE L) {x y : (Int × Int × Int) × Int} (hx : x ∈ L) (hy : y ∈ L) (e : x.1 = y.1) : x = y := by
 obtain ⟨i, hi, rfl⟩ := List.mem_iff_getElem.1 hx
 obtain ⟨j, hj, rfl⟩ := List.mem_iff_getElem.1 hy
 have h1 := h.one
 rw [List.pairwise_iff_getElem] at h1
 rcases Nat.lt_trichotomy i j with c | c | c
 ·exact absurd e (h1 i j hi hj c)
 ·subst c; rfl
 ·exact absurd e.symm (h1 j i hj hi c)
theorem AE.filter (h : AE L) (f : (Int × Int × Int) × Int → Bool) : AE (L.filter f) := ⟨h.one.filter f, fun x hx => h.pos x (List.mem_filter.1 hx).1⟩
theorem tH (h : AE L) {k : Int × Int × Int} {o : Int} (ho : o ≠ 0) : nP L k.1 k.2.1 k.2.2 = o ↔ (k, o) ∈ L := by
 unfold nP
 constructor
 ·intro g
  cases hf : L.find? (keyB k.1 k.2.1 k.2.2) with
  | none => rw [hf] at g; exact absurd g.symm ho
  | some x =>
   rw [hf] at g
   have h1 := List.find?_some hf
   have h2 := List.mem_of_find?_eq_some hf
   rw [fG] at h1
   simp only at g
   have : x = (k, o) := by
    obtain ⟨x1, x2⟩ := x
    simp only at h1 g
    rw [h1, g]
   rw [← this]
   exact h2
 ·intro g
  cases hf : L.find? (keyB k.1 k.2.1 k.2.2) with
  | none =>
   have := List.find?_eq_none.1 hf (k, o) g
   exact absurd (fG.2 rfl) this
  | some x =>
   have h1 := List.find?_some hf
   have h2 := List.mem_of_find?_eq_some hf
   rw [fG] at h1
   rw [h.eq h2 g h1]
theorem GB (h : AE L) {id : Int} (hid : id ≠ 0) : uZ L id = true ↔ ∃ k, (k, id) ∈ L := by
 unfold uZ
 rw [List.any_eq_true]
 constructor
 ·rintro ⟨x, hx, h1⟩
  exact ⟨x.1, (tH h hid).1 (by simpa using h1)⟩
 ·rintro ⟨k, hk⟩
  exact ⟨(k, id), hk, by simpa using (tH h hid).2 hk⟩
theorem JQ {id : Int} (hid : id ≠ 0) : ∀ (ks : List (Int × Int × Int)) (L : List ((Int × Int × Int) × Int)), AE L → ks.Nodup → ((∃ M, IV id L ks = some M) ↔ ∀ k ∈ ks, (k, id) ∈ L) ∧ ∀ M, IV id L ks = some M → AE M ∧ ∀ x, x ∈ M ↔ x ∈ L ∧ x.1 ∉ ks
 | [], L, h, _ => ⟨⟨fun _ k hk => (by cases hk), fun _ => ⟨L, rfl⟩⟩, fun M e => by
  cases e
  exact ⟨h, fun x => by simp⟩⟩
 | k :: ks, L, h, hn => by
  obtain ⟨hk, hn'⟩ := List.nodup_cons.1 hn
  obtain ⟨g1, g2⟩ := JQ hid ks (L.filter fun x => !keyB k.1 k.2.1 k.2.2 x) (h.filter _) hn'
  have hmem : ∀ x, x ∈ (L.filter fun x => !keyB k.1 k.2.1 k.2.2 x) ↔ x ∈ L ∧ x.1 ≠ k := fun x => by
   rw [List.mem_filter]
   have : (!keyB k.1 k.2.1 k.2.2 x) = true ↔ x.1 ≠ k := by
    cases e : keyB k.1 k.2.1 k.2.2 x
    ·simp only [Bool.not_false, true_iff]
     intro e2
     rw [fG.2 e2] at e
     cases e
    ·simp [fG.1 e]
   rw [this]
  unfold IV
  by_cases c : nP L k.1 k.2.1 k.2.2 = id
  ·rw [if_pos c]
   have hkL := (tH h hid).1 c
   refine ⟨?_, fun M e => ?_⟩
   ·rw [g1]
    constructor
    ·intro a j hj
     rcases List.mem_cons.1 hj with rfl | hj
     ·exact hkL
     ·exact ((hmem _).1 (a j hj)).1
    ·intro a j hj
     exact (hmem _).2 ⟨a j (List.mem_cons_of_mem _ hj), fun e => hk (e ▸ hj)⟩
   ·obtain ⟨a1, a2⟩ := g2 M e
    refine ⟨a1, fun x => ?_⟩
    rw [a2, hmem, List.mem_cons, not_or]
    exact ⟨fun ⟨⟨b1, b2⟩, b3⟩ => ⟨b1, b2, b3⟩, fun ⟨b1, b2, b3⟩ => ⟨⟨b1, b2⟩, b3⟩⟩
  ·rw [if_neg c]
   refine ⟨⟨fun ⟨M, e⟩ => (by cases e), fun a => ?_⟩, fun M e => (by cases e)⟩
   exact absurd ((tH h hid).2 (a k List.mem_cons_self)) c
theorem JR : ∀ (vs : List (Int × List (Int × Int × Int))) (L : List ((Int × Int × Int) × Int)), AE L → (∀ v ∈ vs, v.1 ≠ 0 ∧ v.2.Nodup) → (vs.Pairwise fun u v => u.1 ≠ v.1) → (GA L vs = true ↔ ∀ v ∈ vs, ∀ k, (k, v.1) ∈ L ↔ k ∈ v.2)
 | [], L, _, _, _ => ⟨fun _ v hv => (by cases hv), fun _ => rfl⟩
 | v :: vs, L, h, hv, hp => by
  obtain ⟨p1, p2⟩ := List.pairwise_cons.1 hp
  obtain ⟨v0, vn⟩ := hv v List.mem_cons_self
  obtain ⟨g1, g2⟩ := JQ v0 v.2 L h vn
  unfold GA
  cases hr : IV v.1 L v.2 with
  | none =>
   refine ⟨fun a => (by cases a), fun a => ?_⟩
   obtain ⟨M, e⟩ := g1.2 (fun k hk => (a v List.mem_cons_self k).2 hk)
   rw [hr] at e
   cases e
  | some M =>
   obtain ⟨a1, a2⟩ := g2 M hr
   have a3 := g1.1 ⟨M, hr⟩
   have ih := JR vs M a1 (fun u hu => hv u (List.mem_cons_of_mem _ hu)) p2
   have hrest : ∀ u ∈ vs, ∀ k, (k, u.1) ∈ M ↔ (k, u.1) ∈ L := fun u hu k => by
    rw [a2]
    refine ⟨fun b => b.1, fun b => ⟨b, fun hk => ?_⟩⟩
    have := h.eq b (a3 k hk) rfl
    simp only [Prod.mk.injEq, true_and] at this
    exact p1 u hu this.symm
   simp only [zH, ih]
   have hany : (!uZ M v.1) = true ↔ ∀ k, (k, v.1) ∈ L → k ∈ v.2 := by
    have hA := GB a1 v0
    constructor
    ·intro b k hk
     refine Classical.byContradiction fun c => ?_
     rw [hA.2 ⟨k, (a2 _).2 ⟨hk, c⟩⟩] at b
     cases b
    ·intro b
     cases e : uZ M v.1
     ·rfl
     ·obtain ⟨k, hk⟩ := hA.1 e
      obtain ⟨c1, c2⟩ := (a2 _).1 hk
      exact absurd (b k c1) c2
   rw [hany]
   constructor
   ·rintro ⟨b1, b2⟩ u hu k
    rcases List.mem_cons.1 hu with rfl | hu
    ·exact ⟨b1 k, a3 k⟩
    ·rw [← hrest u hu]
     exact b2 u hu k
   ·intro b
    exact ⟨fun k hk => (b v List.mem_cons_self k).1 hk, fun u hu k => by rw [hrest u hu]; exact b u (List.mem_cons_of_mem _ hu) k⟩
theorem MD {q b m : Int} (e : ¬ (p = q ∧ a = b ∧ l = m)) : (L.filter fun x => !keyB p a l x).find? (keyB q b m) = L.find? (keyB q b m) :=
 find_filter_keep (fun x hx => by
  rw [fG] at hx
  cases c : keyB p a l x
  ·rfl
  ·rw [fG, hx] at c
   simp only [Prod.mk.injEq] at c
   exact absurd ⟨c.1.symm, c.2.1.symm, c.2.2.symm⟩ e) L
theorem ME : (L.filter fun x => !keyB p a l x).find? (keyB p a l) = none := by
 rw [List.find?_eq_none]
 intro x hx h
 have := (List.mem_filter.1 hx).2
 rw [h] at this
 cases this
theorem GT.del {D : DataW Unit} (h : GT D L) {p a l : Int} (hw : CA p a l) : GT (D.del (dY p a l)) (L.filter fun x => !keyB p a l x) where
 isMap := h.isMap.del _
 at_ := fun q b m hq => by
  by_cases e : p = q ∧ a = b ∧ l = m
  ·obtain ⟨rfl, rfl, rfl⟩ := e
   rw [atKey_del_same]
   unfold nP
   rw [ME]
  ·have hne : dY q b m ≠ dY p a l := fun e2 => by
    obtain ⟨h1, h2, h3⟩ := oZ hq.1 hq.2.1 hq.2.2 hw.1 hw.2.1 hw.2.2 e2
    exact e ⟨h1.symm, h2.symm, h3.symm⟩
   rw [atKey_del_other hne, h.at_ q b m hq]
   unfold nP
   rw [MD e]
 has_ := fun q b m hq => by
  by_cases e : p = q ∧ a = b ∧ l = m
  ·obtain ⟨rfl, rfl, rfl⟩ := e
   rw [has_del_same]
   symm
   rw [List.any_eq_false]
   intro x hx h2
   have := (List.mem_filter.1 hx).2
   rw [h2] at this
   cases this
  ·have hne : dY q b m ≠ dY p a l := fun e2 => by
    obtain ⟨h1, h2, h3⟩ := oZ hq.1 hq.2.1 hq.2.2 hw.1 hw.2.1 hw.2.2 e2
    exact e ⟨h1.symm, h2.symm, h3.symm⟩
   rw [has_del_other hne, h.has_ q b m hq]
   symm
   exact any_filter_keep (fun x hx => by
    rw [fG] at hx
    cases c : keyB p a l x
    ·rfl
    ·rw [fG, hx] at c
     simp only [Prod.mk.injEq] at c
     exact absurd ⟨c.1.symm, c.2.1.symm, c.2.2.symm⟩ e) L
 only := fun kl h1 => by
  by_cases e : kl = dY p a l
  ·rw [e, has_del_same] at h1
   cases h1
  ·rw [has_del_other e] at h1
   obtain ⟨x, hx, h2⟩ := h.only kl h1
   refine ⟨x, List.mem_filter.2 ⟨hx, ?_⟩, h2⟩
   cases c : keyB p a l x
   ·rfl
   ·rw [fG] at c
    rw [c] at h2
    exact absurd h2 e
 wfs := fun x hx => h.wfs x (List.mem_filter.1 hx).1
theorem P1 (w : World) : (zeroValue 3).run Tryz.prog w = .ok (.int .i64 0) w := by kernel_rfl
theorem mX {Q : Act → Prop} {o : Oper} (x y : Operand) (b n : Nat) (D : DataW Unit) (p a l c : Int) (hop : o.op = .lookup 99 x y false) (hg : Region.wanted o (yielded ops A.tmps) = true)
  (hx : A.eval x = .map (some b)) (hy : A.eval y = JP p a l) (hC : ∀ w, C w → w.ownsMap Tryz.prog 102 (plainElem Tryz.prog 3) b n D) (hw : CA p a l) (hat : D.atKey (dY p a l) (.lit (.int .i64 0)) = .lit (.int .i64 c))
  (h : wpQuiet Tryz.prog ops C Q rest (A.put o.dst (.int .i64 c))) : wpQuiet Tryz.prog ops C Q (o :: rest) A := by
 unfold wpQuiet
 rw [if_pos hg]
 refine ⟨_, fun w hw' => ?_, h⟩
 obtain ⟨c', hrun, hat', -⟩ := (hC w hw').lookup_int mB mW under_int (P1 w) (oY hw.1 hw.2.1 hw.2.2)
 have e : c' = c := by
  rw [hat] at hat'
  cases hat'
  rfl
 subst e
 unfold Oper.quietAt execOp
 rw [hop]
 simp only [hx, hy, Sem.run_bind, hrun, Result.andThen_ok, Sem.run_pure]
 exact ⟨rfl, rfl⟩
def UL (ps : List Po) (i a l o : Int) : Prop := ∃ p ∈ ps, p.id = i ∧ ∃ e ∈ p.ls, e.kd = 1 ∧ e.a = a ∧ e.l = l ∧ e.ow = o
theorem JS (h : eK ps qs) (hls : ∀ k, k < ps.length → ∀ e : Le, e.kd = 1 → (e ∈ (poAt qs k).ls ↔ e ∈ (poAt ps k).ls)) {i a l o : Int} : UL qs i a l o ↔ UL ps i a l o := by
 constructor
 ·rintro ⟨p, hp, h1, e, he, h2, h3⟩
  obtain ⟨k, hk, rfl⟩ := bJ hp
  have hk2 : k < ps.length := by rw [h.1]; exact hk
  exact ⟨_, poAt_mem hk2, (h.2 k hk2).1.trans h1, e, (hls k hk2 e h2).1 he, h2, h3⟩
 ·rintro ⟨p, hp, h1, e, he, h2, h3⟩
  obtain ⟨k, hk, rfl⟩ := bJ hp
  exact ⟨_, poAt_mem (by rw [← h.1]; exact hk), (h.2 k hk).1.symm.trans h1, e, (hls k hk e h2).2 he, h2, h3⟩
theorem DS (h : cD ps qs) {i a l o : Int} : UL qs i a l o ↔ UL ps i a l o :=
 JS ⟨h.1, fun k hk => (h.2 k hk).head⟩ (fun k hk e _ => by rw [(h.2 k hk).2.2.2.2.2.2.2.2.2])
theorem P2 {rs : List Po} (he : e.ls = []) (h : iN e qs rs) {i a l o : Int} : UL rs i a l o ↔ UL qs i a l o := by
 obtain ⟨k, hk, -, -, rfl⟩ := h
 constructor
 ·rintro ⟨p, hp, h1, g, hg, h2⟩
  rcases jK.1 hp with rfl | hp
  ·rw [he] at hg
   exact absurd hg (by simp)
  ·exact ⟨p, hp, h1, g, hg, h2⟩
 ·rintro ⟨p, hp, h1⟩
  exact ⟨p, jK.2 (.inr hp), h1⟩
theorem RM {rs : List Po} {id mn mx us co : Int} (hs : cD ps qs) (hp : iN ⟨id, 0, a, l, mn, mx, us, co, none, 0, 0, []⟩ qs rs) {i b m o : Int} : UL rs i b m o ↔ UL ps i b m o := by
 rw [P2 rfl hp, DS hs]
theorem jR {e x : Le} {ls : List Le} (h : gC e ls ls') : x ∈ ls' ↔ x = e ∨ x ∈ ls := by
 obtain ⟨k, hk, -, -, rfl⟩ := h
 exact jK
theorem RN {rs : List Po} (he : e.ls = []) (hup : ¬ aP ps up < 0) (hN : uD ps e up rs) {i b m o : Int} : UL rs i b m o ↔ UL ps i b m o := by
 obtain ⟨qs, ms, x', c', ls', hs, hput, hle, rfl⟩ := hN
 rw [← DS hs, ← P2 he hput]
 have hat : ¬ aP ms up < 0 := fun h => by
  obtain ⟨k, hk, -, hid⟩ := aQ hup
  have hk2 : k < qs.length := by rw [← hs.1]; exact hk
  obtain ⟨j, hj, -, -, hm⟩ := hput
  have hmem : poAt qs k ∈ ms := by rw [hm]; exact jK.2 (.inr (poAt_mem hk2))
  obtain ⟨q, hq, e⟩ := bJ hmem
  exact iC h q hq (by rw [e, ← (hs.2 k hk).1]; exact hid)
 obtain ⟨k, hk, hatk, -⟩ := aQ hat
 rw [hatk, Int.toNat_natCast] at hle ⊢
 have hset : ∀ j, poAt (ms.set k (aT (poAt ms k) x' ls'.length c' ls')) j = if k = j then aT (poAt ms k) x' ls'.length c' ls' else poAt ms j := fun j => cY hk
 refine JS ⟨by rw [List.length_set], fun j hj => ?_⟩ (fun j hj x hx => ?_)
 ·rw [hset]
  split
  ·rename_i e
   rw [← e]
   exact ⟨rfl, rfl, rfl, rfl, rfl, rfl, rfl, rfl⟩
  ·exact ⟨rfl, rfl, rfl, rfl, rfl, rfl, rfl, rfl⟩
 ·rw [hset]
  split
  ·rename_i e
   rw [← e]
   show x ∈ ls' ↔ _
   rw [jR hle]
   exact ⟨fun h => h.resolve_left (fun h => by rw [h] at hx; exact absurd (show (2 : Int) = 1 from hx) (by decide)), .inr⟩
  ·exact Iff.rfl
theorem RO {m : Int} {rs : List Po} (hc : aV t ps = 0) (hf : bX ps) (hm : 1 ≤ m) (hm1 : t + m ≤ 1073741824) (hs : cD ps qs) (hp : jY (t + m) qs qs.length rs) {i b k o : Int} : UL rs i b k o ↔ UL ps i b k o := by
 obtain ⟨-, hH, -, hls⟩ := rF hc hf hm hm1 hs hp
 refine JS hH (fun j hj e he => ?_)
 rw [hls j hj]
 unfold iQ lE
 rw [List.mem_filter]
 exact ⟨fun h => h.1, fun h => ⟨h, by rw [he]; rfl⟩⟩
theorem RP (hF : bX ps) (hi : i < ps.length) (hs : cD ps qs) (hput : gC ⟨a, l, 1, ow, 0⟩ (poAt ps i).ls ls') {j b m o : Int} :
  UL (qs.set i (aT (poAt qs i) x' ls'.length c' ls')) j b m o ↔ UL ps j b m o ∨ (j = (poAt ps i).id ∧ b = a ∧ m = l ∧ o = ow) := by
 obtain ⟨hH, -, hls⟩ := fE (x' := x') (c' := c') (ls' := ls') hs hF hi
 constructor
 ·rintro ⟨p, hp, h1, e, he, h2, h3⟩
  obtain ⟨k, hk, rfl⟩ := bJ hp
  have hk2 : k < ps.length := by rw [hH.1]; exact hk
  rw [hls k hk2] at he
  have hid := (hH.2 k hk2).1
  split at he
  ·rename_i e'
   subst e'
   rcases (jR hput).1 he with rfl | he
   ·exact .inr ⟨by rw [hid]; exact h1.symm, h3.1.symm, h3.2.1.symm, h3.2.2.symm⟩
   ·exact .inl ⟨_, poAt_mem hi, hid.trans h1, e, he, h2, h3⟩
  ·exact .inl ⟨_, poAt_mem hk2, hid.trans h1, e, he, h2, h3⟩
 ·rintro (⟨p, hp, h1, e, he, h2, h3⟩ | ⟨rfl, rfl, rfl, rfl⟩)
  ·obtain ⟨k, hk, rfl⟩ := bJ hp
   refine ⟨_, poAt_mem (i := k) (by rw [← hH.1]; exact hk), (hH.2 k hk).1.symm.trans h1, e, ?_, h2, h3⟩
   rw [hls k hk]
   split
   ·rename_i e'
    subst e'
    exact (jR hput).2 (.inr he)
   ·exact he
  ·refine ⟨_, poAt_mem (i := i) (by rw [← hH.1]; exact hi), (hH.2 i hi).1.symm, ⟨b, m, 1, o, 0⟩, ?_, rfl, rfl, rfl, rfl⟩
   rw [hls i hi, if_pos rfl]
   exact (jR hput).2 (.inl rfl)
theorem RQ {j : Nat} (hF : bX ps) (hi : i < ps.length) (hj : j < (poAt ps i).ls.length) (hk : (aO (poAt ps i).ls j).kd ≠ 1) (hs : cD ps qs) :
  eK ps (qs.set i (aT (poAt qs i) x' (bS (poAt ps i) j t).length c' (bS (poAt ps i) j t))) ∧ ∀ n, n < ps.length → ∀ e : Le, e.kd = 1 → (e ∈ (poAt (qs.set i (aT (poAt qs i) x' (bS (poAt ps i) j t).length c' (bS (poAt ps i) j t))) n).ls ↔ e ∈ (poAt ps n).ls) := by
 obtain ⟨hH, -, hls⟩ := fE (x' := x') (c' := c') (ls' := bS (poAt ps i) j t) hs hF hi
 refine ⟨hH, fun n hn e he => ?_⟩
 rw [hls n hn]
 split
 ·rename_i e'
  subst e'
  constructor
  ·intro h
   rcases cool_mem hj h with ⟨q, -, hq, rfl⟩ | ⟨-, rfl⟩
   ·exact fD hq
   ·exact absurd (show (3 : Int) = 1 from he) (by decide)
  ·intro h
   obtain ⟨q, hq, rfl⟩ := gG h
   exact oL hj hq (fun c => hk (by rw [← c]; exact he))
 ·exact Iff.rfl
theorem P3 {rs : List Po} {id : Int} (hF : bX ps) (hE : fO t ps id = 0) (hR : mL t ps id t' rs) {k b m o : Int} : UL rs k b m o ↔ UL ps k b m o := by
 obtain ⟨-, qs, hA, hC, hrs⟩ := hR
 unfold fO at hE
 by_cases c0' : aV t ps ≠ 0
 ·rw [if_pos c0'] at hE
  exact absurd hE c0'
 have c0 : aV t ps = 0 := Classical.not_not.1 c0'
 rw [if_neg c0'] at hE
 by_cases c1 : aP ps id < 0
 ·rw [if_pos c1] at hE; omega
 rw [if_neg c1] at hE
 obtain ⟨i, hi, hat, hid⟩ := aQ c1
 rw [hat, Int.toNat_natCast] at hE hrs hA hC
 by_cases c2 : aL (poAt ps i).n (qM (poAt ps i).ls) = true
 ·rw [if_pos c2] at hE; omega
 have hB := gH hF c0
 have hno : ∀ e ∈ (poAt ps i).ls, e.kd = 3 := fun e he => by
  obtain ⟨k, hk, rfl⟩ := gG he
  by_cases c : (aO (poAt ps i).ls k).kd = 3
  ·exact c
  ·exact absurd (bD (k := k) (by rw [← hF i hi]; exact hk) (by unfold qM; simp [c])) c2
 have hq : eK ps qs ∧ ∀ n, n < ps.length → ∀ e : Le, e.kd = 1 → (e ∈ (poAt qs n).ls ↔ e ∈ (poAt ps n).ls) := by
  by_cases c3 : aP ps (poAt ps i).up < 0
  ·have hs := hA c3
   exact ⟨⟨hs.1, fun n hn => (hs.2 n hn).head⟩, fun n hn e _ => by rw [(hs.2 n hn).2.2.2.2.2.2.2.2.2]⟩
  ·obtain ⟨k0, hk0, hat0, hid0⟩ := aQ c3
   obtain ⟨us, x', c', hs, hqs⟩ := hC k0 hat0
   have hup : (poAt ps i).up ≠ 0 := fun e => by
    have := hB.idw _ (poAt_mem hk0)
    rw [hid0, e] at this
    exact absurd this (by decide)
   have hany : aL (poAt ps k0).n (eX (poAt ps k0).ls (poAt ps i).id) = true := by
    obtain ⟨f, hf⟩ := hB.ups _ (poAt_mem hi)
    cases f with
    | zero => unfold lD at hf; cases hf
    | succ f =>
     rcases (up_step hF hB.rise).1 hf with h | ⟨q, hq, h1, h2, -⟩
     ·exact absurd h hup
     ·obtain rfl := uG hB.rise hq (poAt_mem hk0) (h1.trans hid0.symm)
      exact (jI (hF k0 hk0)).2 h2
   rcases firstAt_any (n := (poAt ps k0).n) (f := eX (poAt ps k0).ls (poAt ps i).id) with ⟨-, j, hj, hfj, -, hfa⟩ | ⟨h, -⟩
   ·rw [hfa, Int.toNat_natCast] at hqs
    unfold eX at hfj
    simp only [zH, beq_iff_eq] at hfj
    rw [hqs]
    exact RQ hF hk0 (by rw [hF k0 hk0]; exact hj) (by rw [hfj.1]; decide) hs
   ·rw [hany] at h
    cases h
 have hiq : i < qs.length := by rw [← hq.1.1]; exact hi
 rw [← JS hq.1 hq.2, hrs]
 constructor
 ·rintro ⟨p, hp, h1⟩
  exact ⟨p, pT.subset hp, h1⟩
 ·rintro ⟨p, hp, h1, e, he, h2, h3⟩
  obtain ⟨n, hn, rfl⟩ := bJ hp
  refine ⟨_, (xA hiq).2 ⟨n, hn, fun c => ?_, rfl⟩, h1, e, he, h2, h3⟩
  subst c
  have := hno e ((hq.2 n hi e h2).1 he)
  omega
theorem JT {rs : List Po} {id : Int} (hF : bX ps) (hE : fB t ps id a l = 0) (hR : sM t ps id a l t' rs) {k b m o : Int} : UL rs k b m o ↔ UL ps k b m o ∧ ¬ (k = id ∧ b = a ∧ m = l) := by
 obtain ⟨-, qs, x', c', hs, hrs⟩ := hR
 unfold fB at hE
 by_cases c0' : aV t ps ≠ 0
 ·rw [if_pos c0'] at hE
  exact absurd hE c0'
 have c0 : aV t ps = 0 := Classical.not_not.1 c0'
 rw [if_neg c0'] at hE
 by_cases c1 : aP ps id < 0
 ·rw [if_pos c1] at hE; omega
 rw [if_neg c1] at hE
 obtain ⟨i, hi, hat, hid⟩ := aQ c1
 rw [hat, Int.toNat_natCast] at hE hrs
 by_cases c2 : bM (poAt ps i).n (qF (poAt ps i).ls a l) < 0
 ·rw [if_pos c2] at hE; omega
 obtain ⟨j, hj, hfa, hu⟩ := fC c2
 rw [hfa, Int.toNat_natCast] at hrs
 have hjl : j < (poAt ps i).ls.length := by rw [hF i hi]; exact hj
 unfold qF at hu
 simp only [zH, beq_iff_eq, decide_eq_true_eq] at hu
 obtain ⟨hH, -, hls⟩ := fE (x' := x') (c' := c') (ls' := bS (poAt ps i) j t) hs hF hi
 rw [← hrs] at hH hls
 have hB := gH hF c0
 constructor
 ·rintro ⟨p, hp, h1, e, he, h2, h3⟩
  obtain ⟨n, hn, rfl⟩ := bJ hp
  have hn2 : n < ps.length := by rw [hH.1]; exact hn
  have hid2 := (hH.2 n hn2).1
  rw [hls n hn2] at he
  split at he
  ·rename_i e'
   subst e'
   rcases cool_mem hjl he with ⟨q, hqj, hq, rfl⟩ | ⟨-, rfl⟩
   ·refine ⟨⟨_, poAt_mem hi, hid2.trans h1, _, fD hq, h2, h3⟩, fun ⟨_, g2, _⟩ => hqj ?_⟩
    exact OF (hB.used _ (poAt_mem hi)) hq hjl (by rw [h3.1, g2, hu.2.1])
   ·exact absurd (show (3 : Int) = 1 from h2) (by decide)
  ·rename_i hne
   refine ⟨⟨_, poAt_mem hn2, hid2.trans h1, e, he, h2, h3⟩, fun ⟨g1, _⟩ => hne ?_⟩
   exact HM hB.rise hi hn2 (by rw [hid, hid2, h1, g1])
 ·rintro ⟨⟨p, hp, h1, e, he, h2, h3⟩, hno⟩
  obtain ⟨n, hn, rfl⟩ := bJ hp
  refine ⟨_, poAt_mem (i := n) (by rw [← hH.1]; exact hn), (hH.2 n hn).1.symm.trans h1, e, ?_, h2, h3⟩
  rw [hls n hn]
  split
  ·rename_i e'
   subst e'
   obtain ⟨q, hq, rfl⟩ := gG he
   refine oL hjl hq (fun c => hno ?_)
   rw [c] at h3
   exact ⟨h1.symm.trans hid, h3.1.symm.trans hu.2.1, h3.2.1.symm.trans hu.2.2⟩
  ·exact he
theorem mC {id : Int} {ls : List Le} : x ∈ gP id ls ↔ ∃ e ∈ ls, e.kd = 1 ∧ x = ((id, e.a, e.l), e.ow) := by
 unfold gP
 rw [List.mem_reverse, List.mem_map]
 constructor
 ·rintro ⟨e, he, rfl⟩
  obtain ⟨h1, h2⟩ := List.mem_filter.1 he
  exact ⟨e, h1, by simpa using h2, rfl⟩
 ·rintro ⟨e, he, h1, rfl⟩
  exact ⟨e, List.mem_filter.2 ⟨he, by simpa using h1⟩, rfl⟩
theorem iF {i o : Int} : ((i, a, l), o) ∈ bY ps ↔ UL ps i a l o := by
 unfold bY UL
 rw [List.mem_flatMap]
 constructor
 ·rintro ⟨p, hp, hx⟩
  obtain ⟨e, he, h1, h2⟩ := mC.1 hx
  simp only [Prod.mk.injEq] at h2
  exact ⟨p, List.mem_reverse.1 hp, h2.1.1.symm, e, he, h1, h2.1.2.1.symm, h2.1.2.2.symm, h2.2.symm⟩
 ·rintro ⟨p, hp, rfl, e, he, h1, rfl, rfl, rfl⟩
  exact ⟨p, List.mem_reverse.2 hp, mC.2 ⟨e, he, h1, rfl⟩⟩
theorem MF {id : Int} {ls : List Le} (h : nK (lp ls) a l) : (gP id ls).Pairwise fun x y => x.1 ≠ y.1 := by
 have hr := h.rise
 unfold lp at hr
 rw [List.pairwise_map] at hr
 unfold gP
 rw [List.pairwise_reverse, List.pairwise_map]
 refine (hr.filter _).imp fun {x y} hxy e => ?_
 simp only [Prod.mk.injEq] at e
 have := cO x.l
 simp only at hxy
 omega
theorem tI (h : RB t ps) : AE (bY ps) := by
 refine ⟨?_, fun x hx => ?_⟩
 ·unfold bY
  rw [List.pairwise_flatMap]
  refine ⟨fun p hp => MF (h.used p (List.mem_reverse.1 hp)), ?_⟩
  rw [List.pairwise_reverse]
  refine h.rise.imp fun {p q} hpq x hx y hy e => ?_
  obtain ⟨e1, -, -, rfl⟩ := mC.1 hx
  obtain ⟨e2, -, -, rfl⟩ := mC.1 hy
  simp only [Prod.mk.injEq] at e
  omega
 ·unfold bY at hx
  obtain ⟨p, hp, hx⟩ := List.mem_flatMap.1 hx
  obtain ⟨e, he, h1, rfl⟩ := mC.1 hx
  intro e0
  simp only at e0
  rcases h.les p (List.mem_reverse.1 hp) e he with g | g | g
  ·have := g.2.1
   rw [e0] at this
   exact absurd this (by decide)
  ·omega
  ·omega
def tM (ps : List Po) (vs : List (Int × List (Int × Int × Int))) : Prop := ∀ v ∈ vs, ∀ i a l, UL ps i a l v.1 ↔ (i, a, l) ∈ v.2
theorem RR (h : RB t ps) (hv : ∀ v ∈ vs, v.1 ≠ 0 ∧ v.2.Nodup) (hp : vs.Pairwise fun u v => u.1 ≠ v.1) : GA (bY ps) vs = true ↔ tM ps vs := by
 rw [JR vs _ (tI h) hv hp]
 constructor
 ·intro g v hv i a l
  rw [← iF]
  exact g v hv (i, a, l)
 ·rintro g v hv ⟨i, a, l⟩
  rw [iF]
  exact g v hv i a l
theorem tM.same (h : tM ps vs) (hu : ∀ i a l o, UL qs i a l o ↔ UL ps i a l o) : tM qs vs := fun v hv i a l => (hu i a l v.1).trans (h v hv i a l)
theorem tM.turn (h : tM ps vs) (hN : ∀ x ∈ us, ∃ v ∈ vs, v.1 = x.1 ∧ ∀ k, k ∈ x.2 ↔ k ∈ v.2) : tM ps us := fun x hx i a l => by
 obtain ⟨v, hv, e, hk⟩ := hN x hx
 rw [← e, h v hv, hk]
theorem tM.take (h : tM ps vs) (hu : ∀ i a l o, UL qs i a l o ↔ UL ps i a l o ∨ (i = i0 ∧ a = a0 ∧ l = l0 ∧ o = ow)) (hno : ∀ v ∈ vs, v.1 ≠ ow) : tM qs vs := fun v hv i a l => by
 rw [hu, ← h v hv]
 exact ⟨fun g => g.resolve_right fun g => hno v hv g.2.2.2, .inl⟩
theorem tM.give (h : tM ps vs) (hu : ∀ i a l o, UL qs i a l o ↔ UL ps i a l o ∧ ¬ (i = i0 ∧ a = a0 ∧ l = l0)) (hno : ∀ v ∈ vs, ¬ UL ps i0 a0 l0 v.1) : tM qs vs := fun v hv i a l => by
 rw [hu, ← h v hv]
 refine ⟨fun g => g.1, fun g => ⟨g, ?_⟩⟩
 rintro ⟨rfl, rfl, rfl⟩
 exact hno v hv g
theorem tM.make {id : Int} (h : tM ps vs) (hN : ∀ x, x ∈ us ↔ x = (id, []) ∨ x ∈ vs) (hno : ∀ i a l, ¬ UL ps i a l id) : tM ps us := fun x hx i a l => by
 rcases (hN x).1 hx with rfl | hx
 ·exact ⟨fun g => absurd g (hno i a l), fun g => absurd g (by simp)⟩
 ·exact h x hx i a l
theorem tM.grow {id : Int} (h : tM ps vs) (hu : ∀ i a l o, UL qs i a l o ↔ UL ps i a l o ∨ (i = i0 ∧ a = a0 ∧ l = l0 ∧ o = id))
  (hN : ∀ x ∈ us, ∃ v ∈ vs, v.1 = x.1 ∧ ∀ k, k ∈ x.2 ↔ k ∈ v.2 ∨ (x.1 = id ∧ k = (i0, a0, l0))) : tM qs us := fun x hx i a l => by
 obtain ⟨v, hv, e, hk⟩ := hN x hx
 rw [hu, hk, ← h v hv, e]
 simp only [Prod.mk.injEq]
 constructor
 ·rintro (g | ⟨g1, g2, g3, g4⟩)
  ·exact .inl g
  ·exact .inr ⟨g4, g1, g2, g3⟩
 ·rintro (g | ⟨g4, g1, g2, g3⟩)
  ·exact .inl g
  ·exact .inr ⟨g1, g2, g3, g4⟩
theorem UJ (h : RB t ps) {i a l o u : Int} (h1 : UL ps i a l o) (h2 : UL ps i a l u) : o = u := by
 have := (tI h).eq (iF.2 h1) (iF.2 h2) rfl
 simpa using this
theorem tM.drop {id : Int} (hB : RB t ps) (h : tM ps vs) (hh : UL ps i0 a0 l0 id) (hu : ∀ i a l o, UL qs i a l o ↔ UL ps i a l o ∧ ¬ (i = i0 ∧ a = a0 ∧ l = l0))
  (hN : ∀ x ∈ us, ∃ v ∈ vs, v.1 = x.1 ∧ ∀ k, k ∈ x.2 ↔ k ∈ v.2 ∧ ¬ (x.1 = id ∧ k = (i0, a0, l0))) : tM qs us := fun x hx i a l => by
 obtain ⟨v, hv, e, hk⟩ := hN x hx
 rw [hu, hk, ← h v hv, e]
 simp only [Prod.mk.injEq]
 constructor
 ·rintro ⟨g1, g2⟩
  exact ⟨g1, fun g => g2 g.2⟩
 ·rintro ⟨g1, g2⟩
  refine ⟨g1, ?_⟩
  rintro ⟨rfl, rfl, rfl⟩
  exact g2 ⟨UJ hB g1 hh, rfl, rfl, rfl⟩
def GC (r : Rg) : Int × Int × Int := (r.p, r.a, r.l)
def netR (vs : List Vn) : List (Int × List (Int × Int × Int)) := vs.map fun v => (v.id, v.rs.map GC)
theorem MG {vs : List Vn} (h : k < vs.length) : netR (vs.drop k) = ((aC vs k).id, (aC vs k).rs.map GC) :: netR (vs.drop (k + 1)) := by
 have e : aC vs k = vs[k] := by simp [aC, List.getD_eq_getElem?_getD, h]
 unfold netR
 rw [List.drop_eq_getElem_cons h, zK, e]
theorem P4 (h : q < rs.length) : (rs.drop q).map GC = GC (aJ rs q) :: (rs.drop (q + 1)).map GC := by
 have e : aJ rs q = rs[q] := by simp [aJ, List.getD_eq_getElem?_getD, h]
 rw [List.drop_eq_getElem_cons h, zK, e]
theorem GD {id : Int} : IV id L ((p, a, l) :: ks) = if nP L p a l = id then IV id (L.filter fun x => !keyB p a l x) ks else none := rfl
theorem P5 {id : Int} (h : IV id L ks = none) : GA L ((id, ks) :: vs) = false := by
 unfold GA
 simp only [h]
theorem GE {id : Int} (h : IV id L ks = some M) : GA L ((id, ks) :: vs) = (!uZ M id && GA M vs) := by
 conv => lhs; unfold GA
 simp only [h]
theorem jS {k : TypeId} {D : DataW Unit} {R : Value → Option (DataW Unit × List MemPlace)} (h : w.ownsMap Tryz.prog k R b n D) (hb : Below w.heap.size w w') : w'.ownsMap Tryz.prog k R b n D := by
 obtain ⟨es, clock, h1, h2⟩ := h
 exact ⟨es, clock, aA hb h1, h2⟩
theorem MH (t : Int) (x : Option Addr) (n c : Nat) (ps : List Po) (vx : Option Addr) (vn vc : Nat) (vs : List Vn) (lx : Option Addr) (ln lc : Nat) (w : World) (hp : nW w x n ps) (hn : n ≤ 64) (hm : ∀ k, k < n → (poAt ps k).n ≤ 64)
  (hW : ∀ k, k < n → ∀ q, q < (poAt ps k).n → CA (poAt ps k).id (aO (poAt ps k).ls q).a (aO (poAt ps k).ls q).l ∧ (Lit.int .i64 (aO (poAt ps k).ls q).ow).wf = true)
  (hv : VS w vx vn vs) (hvn : vn ≤ 64) (hrn : ∀ k, k < vn → (aC vs k).rn ≤ 64) (hR : ∀ k, k < vn → ∀ q, q < (aC vs k).rn → CA (aJ (aC vs k).rs q).p (aJ (aC vs k).rs q).a (aJ (aC vs k).rs q).l) :
  Calls Tryz.prog 25 #[.agg #[.int .i64 t, .slice x n c, .slice vx vn vc, .slice lx ln lc]] w fun e w' => e = .returned (.bool (GA (bY ps) (netR vs))) ∧ Below w.heap.size w w' := by
 have hvl : Hid (vs.length = vn) := hv.len
 go_enter Tryz.func25, Tryz.ntmps25
 go_upto_region 1 with fail
 obtain ⟨w0, hw0⟩ : ∃ w0, w0 = w.alloc (.cells #[.int .i64 t, .slice x n c, .slice vx vn vc, .slice lx ln lc] 31) := ⟨_, rfl⟩
 rw [← hw0]
 have hB0 : Below w.heap.size w w0 := by rw [hw0]; exact bl1 w _
 have hb0 : w0.heap[w.heap.size]? = some (.cells #[.int .i64 t, .slice x n c, .slice vx vn vc, .slice lx ln lc] 31) := by rw [hw0]; exact aB _ rfl
 clear hw0
 obtain ⟨kb, -⟩ := aE hb0
 go_wp2_with fail
 refine (lJ t x n c ps _ (hp.later hB0) hn hm hW).mono ?_
 rintro e w1 ⟨bm, D0, rfl, hbm, hO0, hH0, hb1⟩
 have hB1 := hB0.trans (hb1.mono hB0.size)
 have hb1b := aA hb1 hb0
 have hs0 := hB0.size
 clear hb1 hb0 kb
 obtain ⟨kb, -⟩ := aE hb1b
 go_wp2
 go_loopw [16] (fun i wr => ∃ (k : Nat) (L : List ((Int × Int × Int) × Int)) (D : DataW Unit), k ≤ vn ∧ i = .int .i64 k ∧ Below w.heap.size w wr ∧ wr.ownsMap Tryz.prog 102 (plainElem Tryz.prog 3) bm (bY ps).length D ∧ GT D L ∧ Hid (GA (bY ps) (netR vs) = GA L (netR (vs.drop k)))) (fun i _ => vn - (intOf i).toNat)
 case atStart => exact ⟨0, _, D0, by omega, rfl, hB1, hO0, hH0, rfl⟩
 case round =>
  obtain ⟨k, L, D, hk, rfl, hB, hO, hH, hag⟩ := hrel
  clear hb1b hO0 hH0 kb
  by_cases hlt : k < vn
  ·have hlt' : Hid (k < vn) := hlt
   have hvr := hv.later hB
   obtain ⟨b, o, rfl, c0, c1, c2⟩ := hvr.cells k hlt
   have hRS := (hv.vps k hlt).2.2.2.ranges
   have hR1 := hR k hlt
   have hr1 := hrn k hlt
   have hst : Hid (netR (vs.drop k) = ((aC vs k).id, (aC vs k).rs.map GC) :: netR (vs.drop (k + 1))) := MG (by rw [hvl.out]; exact hlt)
   have hsz := hB.size
   have hol : Hid (bm < wr.heap.size) := hO.lt
   generalize aC vs k = v at *
   obtain ⟨vid, rx, rn, rc, rs, sx, sn, sc, ss⟩ := v
   simp only at *
   go_wp2
   obtain ⟨wo, rfl⟩ : ∃ wo, wo = wr := ⟨_, rfl⟩
   clear c0 c1 c2
   go_loopw [23] (fun i wr => ∃ (q : Nat) (M : List ((Int × Int × Int) × Int)) (D : DataW Unit), q ≤ rn ∧ i = .int .i64 q ∧ Below w.heap.size w wr ∧ wr.heap[wo.heap.size]? = some (.cells #[.int .i64 vid, .slice rx rn rc, .slice sx sn sc] 41) ∧ wr.ownsMap Tryz.prog 102 (plainElem Tryz.prog 3) bm (bY ps).length D ∧ GT D M ∧ Hid (IV vid L (rs.map GC) = IV vid M ((rs.drop q).map GC))) (fun i _ => rn - (intOf i).toNat)
   case atStart => exact ⟨0, L, D, by omega, rfl, hB.trans ((bl1 wo _).mono hsz), aB _ rfl, hO.alloc _, hH, rfl⟩
   case round =>
    obtain ⟨q, M, D2, hq, rfl, hB2, hbx, hO2, hH2, har⟩ := hrel
    by_cases hq2 : q < rn
    ·have hq' : Hid (q < rn) := hq2
     obtain ⟨b2, o2, hx2, d0, d1, d2⟩ := (hRS.later hB2).cells q hq2
     have hw3 := hR1 q hq2
     have hst2 : Hid ((rs.drop q).map GC = GC (aJ rs q) :: (rs.drop (q + 1)).map GC) := P4 (by rw [hRS.len]; exact hq2)
     subst hx2
     generalize aJ rs q = e at *
     obtain ⟨ea, el, ep⟩ := e
     simp only at *
     go_upto_region 9 with fail
     obtain ⟨w3, hw3'⟩ : ∃ w3, w3 = (wr.alloc (.cells #[.int .i64 ea, .int .i64 el, .int .i64 ep] 51)).alloc (.cells #[.int .i64 ep, .int .i64 ea, .int .i64 el] 102) := ⟨_, rfl⟩
     rw [← hw3']
     have hb23 : Below wr.heap.size wr w3 := by rw [hw3']; exact cC wr _ _
     have hB3 : Below w.heap.size w w3 := hB2.trans (hb23.mono hB2.size)
     have hbx3 := aA hb23 hbx
     have hO3 := jS hO2 hb23
     have hpb : w3.heap[wr.heap.size + 1]? = some (.cells #[.int .i64 ep, .int .i64 ea, .int .i64 el] 102) := by rw [hw3']; exact aB _ (by simp)
     clear hw3' hb23 hbx hO2 hB2 d0 d1 d2
     obtain ⟨kv, -⟩ := aE hbx3
     obtain ⟨kp, -⟩ := aE hpb
     have e0 := Ws.here (kv 0)
     have e1 := Ws.here (kp 0)
     have e2 := Ws.here (kp 1)
     have e3 := Ws.here (kp 2)
     have hat := hH2.at_ ep ea el hw3
     by_cases hown : nP M ep ea el = vid
     ·rw [hown] at hat
      refine aK w3.heap.size (by kernel_rfl) (by kernel_rfl) ?_
      repeat (go_big_quiet_step (fail))
      refine mX _ _ bm _ D2 ep ea el vid rfl (by rfl) rfl rfl (fun u hu => by obtain ⟨u', rfl⟩ := hu; exact jS hO3 u'.property) hw3 hat ?_
      simp only [Act.put, List.setIfInBounds_toArray, List.set_cons_zero, List.set_cons_succ]
      repeat (go_big_quiet_step (fail))
      refine wpQuiet_nil ?_
      rintro _ ⟨u, rfl⟩
      have hBu := hB3.trans (u.property.mono hB3.size)
      have hOu := jS hO3 u.property
      have hbu := aA u.property hbx3
      have hpu := aA u.property hpb
      generalize u.val = wu at hBu hOu hbu hpu ⊢
      clear u e0 e1 e2 e3 kv kp
      obtain ⟨kp, -⟩ := aE hpu
      have hkey := oY hw3.1 hw3.2.1 hw3.2.2
      go_wp2_with (first
       | (at_delete; refine wpList_delete_own _ rfl _ _ 99 102 rfl 3 mB mW _ bm _ D2 rfl hOu _ _ rfl hkey ?_; intro w1' hown1 hturn1)
       | go_in)
      go_roundw
      case rel =>
       refine ⟨q + 1, M.filter fun x => !keyB ep ea el x, D2.del (dY ep ea el), hq'.out, by go_num, hBu.grown hturn1.grown hBu.size (fun j hj => by cases hj; omega), fU hturn1.grown hbu (by have := hol.out; omega), hown1, hH2.del hw3, ?_⟩
       show _ = _
       rw [har.out, hst2.out]
       show IV vid M ((ep, ea, el) :: _) = _
       rw [GD, if_pos hown]
      case measure => simp [intOf]; have := hq'.out; omega
     ·have hneb : (nP M ep ea el == vid) = false := by simpa using hown
      refine aK w3.heap.size (by kernel_rfl) (by kernel_rfl) ?_
      repeat (go_big_quiet_step (fail))
      refine mX _ _ bm _ D2 ep ea el _ rfl (by rfl) rfl rfl (fun u hu => by obtain ⟨u', rfl⟩ := hu; exact jS hO3 u'.property) hw3 hat ?_
      simp only [Act.put, List.setIfInBounds_toArray, List.set_cons_zero, List.set_cons_succ]
      repeat (go_big_quiet_step (fail))
      refine wpQuiet_nil ?_
      rintro _ ⟨u, rfl⟩
      have hBu := hB3.trans (u.property.mono hB3.size)
      generalize u.val = wu at hBu ⊢
      clear u e0 e1 e2 e3 kv kp
      go_wp2
      go_ret
      refine ⟨aM ?_, hBu⟩
      rw [hag.out, hst.out, P5]
      rw [har.out, hst2.out]
      show IV vid M ((ep, ea, el) :: _) = none
      rw [GD, if_neg hown]
    ·obtain rfl : q = rn := by omega
     have e : rs.drop q = [] := by rw [← hRS.len]; exact List.drop_length
     have hsome : IV vid L (rs.map GC) = some M := by
      rw [har.out, e]
      rfl
     obtain ⟨kv, -⟩ := aE hbx
     have e0 := kv 0
     go_wp2_with fail
     refine (CC bm _ D2 M vid _ hO2 hH2).mono ?_
     rintro r w4 ⟨rfl, hb4⟩
     have hB4 := hB2.trans (hb4.mono hB2.size)
     have hO4 := jS hO2 hb4
     clear kv e0 hbx
     cases hany : uZ M vid
     ·go_wp2
      go_roundw
      case rel => exact ⟨k + 1, M, D2, hlt'.out, by go_num, hB4, hO4, hH2, by show _ = _; rw [hag.out, hst.out, GE hsome, hany]; rfl⟩
      case measure => simp [intOf]; have := hlt'.out; omega
     ·go_wp2
      go_ret
      exact ⟨aM (by rw [hag.out, hst.out, GE hsome, hany]; rfl), hB4⟩
  ·obtain rfl : k = vn := by omega
   have e : vs.drop k = [] := by rw [← hvl.out]; exact List.drop_length
   go_wp2
   go_ret
   refine ⟨aM ?_, hB⟩
   rw [hag.out, e]
   rfl
structure Si (w : World) (x : Option Addr) (n c : Nat) (ps : List Po) (vx : Option Addr) (vn vc : Nat) (vs : List Vn) (lx : Option Addr) (ln : Nat) (ls : List (Int × Int)) : Prop where
 bk : Bk w x n c ps
 vps : VS w vx vn vs
 vnc : vn ≤ vc
 v63 : vn ≤ 9223372036854775807
 lk : PS w lx ln ls
 l63 : ln ≤ 9223372036854775807
theorem Si.later {x : Option Addr} {vn : Nat} {vs : List Vn} (h : Si w x n c ps vx vn vc vs lx ln ls) (hb : Below w.heap.size w w') : Si w' x n c ps vx vn vc vs lx ln ls :=
 ⟨h.bk.later hb, h.vps.later hb, h.vnc, h.v63, h.lk.later hb, h.l63⟩
def IW (t : Int) (ps : List Po) (vn : Nat) (vs : List Vn) (ln : Nat) (ls : List (Int × Int)) : Int := if aV t ps ≠ 0 then aV t ps else if bU vn vs ln ls ≠ 0 then bU vn vs ln ls else if GA (bY ps) (netR vs) = true then 0 else 1
theorem AF {v b : Int} (h : dE v a b = true) (ha : 0 ≤ a) (hb : b ≤ 1000000) : (Lit.int .i64 v).wf = true := by
 unfold dE at h
 simp only [zH, decide_eq_true_eq] at h
 exact gI (by omega) (by omega)
theorem P6 (h : rt a l = true) : (Lit.int .i64 a).wf = true ∧ (Lit.int .i64 l).wf = true := by
 obtain ⟨h0, h1, h2, h3, -⟩ := bO h
 exact ⟨gI h2 (by omega), gI h0 (by omega)⟩
theorem JU (h : RB t ps) {p : Po} (hp : p ∈ ps) {e : Le} (he : e ∈ p.ls) : CA p.id e.a e.l ∧ (Lit.int .i64 e.ow).wf = true := by
 have h1 := (h.used p hp).inn (e.a, e.l) (by unfold lp; exact List.mem_map.2 ⟨e, he, rfl⟩)
 obtain ⟨w1, w2⟩ := P6 (bH h1).1
 refine ⟨⟨AF (h.idw p hp) (by decide) (by decide), w1, w2⟩, ?_⟩
 rcases h.les p hp e he with g | ⟨-, -, q, hq, g, -⟩ | g
 ·exact AF g.2.1 (by decide) (by decide)
 ·rw [← g]
  exact AF (h.idw q hq) (by decide) (by decide)
 ·rw [g.2.1]
  rfl
theorem eT {vs : List Vn} (h : bU n vs ln ls = 0) : n ≤ 6 ∧ ln ≤ 12 ∧ dQ vs = true ∧ ∀ i, i < n → aZ (aC vs i).id (aC vs i).rn (aC vs i).rs (aC vs i).sn (aC vs i).ss = 0 := by
 unfold bU at h
 split at h
 ·omega
 ·rename_i hm
  simp only [Bool.or_eq_true, decide_eq_true_eq] at hm
  split at h
  ·rename_i hw
   simp only [zH] at hw
   have hv := hw.1.1
   unfold eL at hv
   rw [zH] at hv
   refine ⟨by omega, by omega, hv.1, fun i hi => ?_⟩
   have hb : kE (aC vs i) = false := by
    cases e : kE (aC vs i)
    ·rfl
    ·rw [bD (f := fun i => kE (aC vs i)) hi e] at hv
     exact absurd hv.2 (by simp)
   unfold kE at hb
   simpa using hb
  ·omega
theorem IX (h : aZ vid rn rs sn ss = 0) : rn ≤ 4 ∧ ∀ q, q < rn → CA (aJ rs q).p (aJ rs q).a (aJ rs q).l := by
 unfold aZ at h
 split at h
 ·omega
 ·rename_i hm
  split at h
  ·rename_i hw
   simp only [zH] at hw
   refine ⟨(few (by simpa using hm)).1, fun q hq => ?_⟩
   have hr := hw.1.2
   unfold nO at hr
   rw [zH, List.all_eq_true] at hr
   have h1 := hr.1 q (by simpa using hq)
   unfold sT at h1
   rw [zH] at h1
   have h2 := h1.1
   unfold BV at h2
   rw [zH] at h2
   exact ⟨AF h2.2 (by decide) (by decide), (P6 h2.1).1, (P6 h2.1).2⟩
  ·omega
theorem AG (t : Int) (x : Option Addr) (n c : Nat) (ps : List Po) (vx : Option Addr) (vn vc : Nat) (vs : List Vn) (lx : Option Addr) (ln lc : Nat) (ls : List (Int × Int)) (w : World) (hs : Si w x n c ps vx vn vc vs lx ln ls) :
  Calls Tryz.prog 12 #[.agg #[.int .i64 t, .slice x n c, .slice vx vn vc, .slice lx ln lc]] w fun e w' => e = .returned (.int .i64 (IW t ps vn vs ln ls)) ∧ Below w.heap.size w w' := by
 have hbd : Hid (IW t ps vn vs ln ls = if aV t ps ≠ 0 then aV t ps else if bU vn vs ln ls ≠ 0 then bU vn vs ln ls else if GA (bY ps) (netR vs) = true then 0 else 1) := rfl
 go_enter Tryz.func12, Tryz.ntmps12
 go_upto_region 1 with fail
 obtain ⟨w0, hw0⟩ : ∃ w0, w0 = w.alloc (.cells #[.int .i64 t, .slice x n c, .slice vx vn vc, .slice lx ln lc] 31) := ⟨_, rfl⟩
 rw [← hw0]
 have hB0 : Below w.heap.size w w0 := by rw [hw0]; exact bl1 w _
 have hb0 : w0.heap[w.heap.size]? = some (.cells #[.int .i64 t, .slice x n c, .slice vx vn vc, .slice lx ln lc] 31) := by rw [hw0]; exact aB _ rfl
 clear hw0
 obtain ⟨kb, -⟩ := aE hb0
 go_wp2_with fail
 refine (fN t x n c ps _ (hs.bk.later hB0)).mono ?_
 rintro e w1 ⟨rfl, hb1⟩
 have hB1 := hB0.trans (hb1.mono hB0.size)
 have hb1b := aA hb1 hb0
 clear hb1 hb0 hB0 kb
 by_cases c0 : aV t ps = 0
 ·obtain ⟨kb, -⟩ := aE hb1b
  have hbd2 : Hid (IW t ps vn vs ln ls = if bU vn vs ln ls ≠ 0 then bU vn vs ln ls else if GA (bY ps) (netR vs) = true then 0 else 1) := by
   show _ = _
   rw [hbd.out, if_neg (by simp [c0])]
  have hRB : Hid (RB t ps) := gH hs.bk.full c0
  rw [c0]
  clear hbd c0
  go_wp2_with fail
  refine (yY vx vn vc vs lx ln lc ls _ (hs.vps.later hB1) hs.v63 hs.vnc (hs.lk.later hB1) hs.l63).mono ?_
  rintro e w2 ⟨rfl, hb2⟩
  have hB2 := hB1.trans (hb2.mono hB1.size)
  have hb2b := aA hb2 hb1b
  clear hb2 hb1b hB1 kb
  by_cases c1 : bU vn vs ln ls = 0
  ·obtain ⟨kb, -⟩ := aE hb2b
   obtain ⟨n6, -, -, hcv⟩ := eT c1
   have hbd3 : Hid (IW t ps vn vs ln ls = if GA (bY ps) (netR vs) = true then 0 else 1) := by
    show _ = _
    rw [hbd2.out, if_neg (by simp [c1])]
   have hpl := hs.bk.ps.len
   have hn8 := hRB.out.few
   have hag := MH t x n c ps vx vn vc vs lx ln lc w2 (hs.bk.ps.later hB2) (by omega) (fun k hk => by
    have := hRB.out.n32 _ (poAt_mem (i := k) (by omega))
    rw [hs.bk.full k (by omega)] at this
    omega) (fun k hk q hq => JU hRB.out (poAt_mem (i := k) (by omega)) (fD (by rw [hs.bk.full k (by omega)]; exact hq))) (hs.vps.later hB2) (by omega) (fun k hk => by
    have := (IX (hcv k hk)).1
    omega) (fun k hk => (IX (hcv k hk)).2)
   rw [c1]
   clear hbd2 c1 hcv
   cases hab : GA (bY ps) (netR vs)
   ·rw [hab] at hag
    go_wp2_with fail
    refine hag.mono ?_
    rintro e w3 ⟨rfl, hb3⟩
    go_wp2
    go_ret
    exact ⟨cQ (by rw [hbd3.out, hab]; rfl), hB2.trans (hb3.mono hB2.size)⟩
   ·rw [hab] at hag
    go_wp2_with fail
    refine hag.mono ?_
    rintro e w3 ⟨rfl, hb3⟩
    go_wp2
    go_ret
    exact ⟨cQ (by rw [hbd3.out, hab]; rfl), hB2.trans (hb3.mono hB2.size)⟩
  ·have hne : (bU vn vs ln ls == 0) = false := by simpa using c1
   go_wp2
   go_ret
   exact ⟨cQ (by rw [hbd2.out, if_pos c1]), hB2⟩
 ·have hne : (aV t ps == 0) = false := by simpa using c0
  go_wp2
  go_ret
  exact ⟨cQ (by rw [hbd.out, if_pos c0]), hB1⟩
theorem GF (id : Int) (p : Vn) (b : Nat) (w : World) (h0 : w.cell? ⟨b, 0, none⟩ = some (.int .i64 id)) :
  Calls Tryz.prog 134 #[.agg #[.int .i64 p.id, .slice p.rx p.rn p.rc, .slice p.sx p.sn p.sc], .pointer (some ⟨b, 0, none⟩)] w fun e w' => e = .returned (.bool (p.id == id)) ∧ Below w.heap.size w w' := by
 have k0 : ∀ q, (w.alloc q).cell? ⟨b, 0, none⟩ = some (.int .i64 id) := fun q => cell_later (bl1 w q) h0
 go_enter Tryz.func134, Tryz.ntmps134
 go_wp2
 go_ret
 exact ⟨rfl, bl1 w _⟩
theorem DT (args : Array Value) (W : World) : (callFunc 134 args).run Tryz.prog W = .ok (.enter 134 args) W := by simp [go_sem]
theorem kN (id : Int) (x : Option Addr) (n c : Nat) (vs : List Vn) (lx : Option Addr) (ln lc : Nat) (w : World) (hp : VS w x n vs) (hn : n ≤ 1048576) :
  Calls Tryz.prog 94 #[.agg #[.slice x n c, .slice lx ln lc], .int .i64 id] w fun e w' => e = .returned (.int .i64 (aI n vs id)) ∧ Below w.heap.size w w' := by
 go_enter Tryz.func94, Tryz.ntmps94
 go_wp2_with fail
 refine (iY 134 #[.pointer (some ⟨w.heap.size + 1, 0, none⟩)] x n c vs (fun i => (aC vs i).id == id) _ (hp.later (cC w _ _)) hn (fun i _ W hW => GF id (aC vs i) (w.heap.size + 1) W (cell_later hW (by simp))) DT).mono ?_
 rintro e w1 ⟨⟨r, rfl, hr⟩, hb1⟩
 have hrv : r = aI n vs id := by
  rcases hr with ⟨i, hi, hf, hno, rfl⟩ | ⟨hno, rfl⟩
  ·exact (rM hi hf hno).symm
  ·exact (BX hno).symm
 subst hrv
 go_wp2
 go_ret
 exact ⟨rfl, (cC w _ _).trans (hb1.mono (by simp; omega))⟩
theorem vA (id : Int) (x : Option Addr) (n c : Nat) (vs : List Vn) (lx : Option Addr) (ln lc : Nat) (t : Int) (h : aI n vs id = t) (w : World) (hp : VS w x n vs) (hn : n ≤ 1048576) :
  Calls Tryz.prog 94 #[.agg #[.slice x n c, .slice lx ln lc], .int .i64 id] w fun e w' => e = .returned (.int .i64 t) ∧ Below w.heap.size w w' := by
 subst h
 exact kN id x n c vs lx ln lc w hp hn
abbrev kP (t : Int) (vB vV vK : Value) : Obj := .cells #[.int .i64 t, vB, vV, vK] 31
abbrev IY (t : Int) (vB vV vK : Value) : Value := .agg #[.int .i64 t, vB, vV, vK]
structure Cd where
 op : Int
 A : Int
 B : Int
 C : Int
 a : Int
 l : Int
 mn : Int
 mx : Int
 us : Int
 co : Int
abbrev VY (c : Cd) : Array Value := #[.int .i64 c.op, .int .i64 c.A, .int .i64 c.B, .int .i64 c.C, .int .i64 c.a, .int .i64 c.l, .int .i64 c.mn, .int .i64 c.mx, .int .i64 c.us, .int .i64 c.co]
abbrev A7 (c : Cd) : Obj := .cells (VY c) 65
abbrev QJ (c : Cd) : Value := .agg (VY c)
abbrev UK (a l : Int) : Obj := .cells #[.int .i64 a, .int .i64 l] 49
abbrev SW (u : Vn) : Value := .agg #[.int .i64 u.id, .slice u.rx u.rn u.rc, .slice u.sx u.sn u.sc]
def qB (w : World) (base : Nat) (u : Vn) : Prop := bR w base (.slice u.rx u.rn u.rc) u.rs ∧ cE w base (.slice u.sx u.sn u.sc) u.ss ∧ wS w base u.ss
theorem mD.vty (h : mD w base u) : qB w base u := ⟨h.1, h.2.row, h.2.ofa⟩
theorem qB.later (h : qB w base u) (hb : Below w.heap.size w w') : qB w' base u := ⟨bR.later h.1 hb, cE.later h.2.1 hb, fun s hs => (h.2.2 s hs).later hb⟩
theorem qB.low (h : qB w base u) (hb : base' ≤ base) : qB w base' u := ⟨h.1.low hb, h.2.1.low hb, h.2.2.low hb⟩
theorem qB.kept {t : TypeId} (h : qB w base u) (hg : w.grownBy w' (some g)) (hb : w.heap[g]? = some (.cells cs t)) (h0 : t ≠ 51) (h1 : t ≠ 78) (h2 : t ≠ 80) (h3 : t ≠ 3) : qB w' base u :=
 ⟨h.1.kept hg (fun _ hk e => by subst e; exact h.1.ne hb h0 hk), h.2.1.kept hg (fun _ hk e => by subst e; exact h.2.1.ne hb h1 hk), h.2.2.keptOf hg hb h2 h3⟩
theorem qB.ok (h : qB w base u) : lI w u := by
 obtain ⟨x1, c1, e1, h1, h2, h3⟩ := h.1.rs
 obtain ⟨x2, c2, e2, g1, g2, -, g4⟩ := h.2.1.mem
 simp only [Value.slice.injEq] at e1 e2
 obtain ⟨rfl, hrn, rfl⟩ := e1
 obtain ⟨rfl, hsn, rfl⟩ := e2
 unfold lI
 rw [hrn, hsn]
 exact ⟨by omega, by omega, h3, ⟨h2, g1, h1, ⟨rfl, g4, fun i hi => h.2.2.fcb _ (OX hi)⟩⟩⟩
theorem FU.vn (h : FU w base vid V rs ss) : ∃ u : Vn, V = SW u ∧ u.id = vid ∧ u.rs = rs ∧ u.rn = rs.length ∧ u.ss = ss ∧ u.sn = ss.length ∧ qB w base u := by
 obtain ⟨vR, vS, rfl, h1, h2, h3⟩ := h
 obtain ⟨x1, c1, rfl, -⟩ := h1.rs
 obtain ⟨x2, c2, rfl, -⟩ := h2.mem
 exact ⟨⟨vid, x1, rs.length, c1, rs, x2, ss.length, c2, ss⟩, rfl, rfl, rfl, rfl, rfl, rfl, h1, h2, h3⟩
structure SO (w : World) (base : Nat) (ps : List Po) (vs : List Vn) (ls : List (Int × Int)) (vB vV vK : Value) : Prop where
 bk : dR w base vB ps ps.length
 row : cB w base vV vs
 net : ∀ u ∈ vs, qB w base u
 lks : bZ w base vK ls
def kQ (w : World) (b : Nat) (ty : TypeId) : Prop := ∃ cs, w.heap[b]? = some (.cells cs ty)
def SX (ty : TypeId) : Bool := decide (ty ≠ 59 ∧ ty ≠ 138 ∧ ty ≠ 41 ∧ ty ≠ 51 ∧ ty ≠ 78 ∧ ty ≠ 80 ∧ ty ≠ 3 ∧ ty ≠ 93)
theorem kQ.put {b' : Nat} (h : kQ w b ty) : kQ (w.setCell ⟨b', o, none⟩ v) b ty := by
 obtain ⟨cs, h⟩ := h
 by_cases e : b = b'
 ·subst e
  exact ⟨_, heap_setCell_same w b _ _ _ _ h⟩
 ·exact ⟨cs, (zB e).trans h⟩
theorem SO.later {vs : List Vn} (h : SO w base ps vs ls vB vV vK) (hb : Below w.heap.size w w') : SO w' base ps vs ls vB vV vK :=
 ⟨h.bk.later hb, h.row.later hb, fun u hu => (h.net u hu).later hb, h.lks.later hb⟩
theorem SO.low {vs : List Vn} (h : SO w base ps vs ls vB vV vK) (hb : base' ≤ base) : SO w base' ps vs ls vB vV vK :=
 ⟨h.bk.low hb, h.row.low hb, fun u hu => (h.net u hu).low hb, h.lks.low hb⟩
theorem SO.put {vs : List Vn} (h : SO w base ps vs ls vB vV vK) (hb : kQ w b ty) (ha : SX ty = true) : SO (w.setCell ⟨b, o, none⟩ v) base ps vs ls vB vV vK := by
 obtain ⟨cs, hb⟩ := hb
 obtain ⟨h1, h2, h3, h4, h5, h6, h7, h8⟩ := of_decide_eq_true ha
 exact ⟨h.bk.putBox hb h1 h2, h.row.putBox hb h3, fun u hu => (h.net u hu).kept (aH _ _ _ _) hb h4 h5 h6 h7, h.lks.putBox hb h8⟩
structure kV (w : World) (base bs : Nat) (t : Int) (ps : List Po) (vs : List Vn) (ls : List (Int × Int)) (vB vV vK : Value) : Prop where
 box : w.heap[bs]? = some (kP t vB vV vK)
 low : base ≤ bs
 own : SO w base ps vs ls vB vV vK
theorem kV.later {vs : List Vn} (h : kV w base bs t ps vs ls vB vV vK) (hb : Below w.heap.size w w') : kV w' base bs t ps vs ls vB vV vK := ⟨aA hb h.box, h.low, h.own.later hb⟩
theorem kV.put {vs : List Vn} (h : kV w base bs t ps vs ls vB vV vK) (hb : kQ w b ty) (ha : SX ty = true) (hne : bs ≠ b) : kV (w.setCell ⟨b, o, none⟩ v) base bs t ps vs ls vB vV vK :=
 ⟨(zB hne).trans h.box, h.low, h.own.put hb ha⟩
theorem kV.putB {rs : List Po} {vs : List Vn} (h : kV w base bs t ps vs ls vB vV vK) (hv : dR w base v rs rs.length) : kV ((w.setCell ⟨bs, 0, none⟩ (.int .i64 t')).setCell ⟨bs, 1, none⟩ v) base bs t' rs vs ls v vV vK :=
 have hb : kQ w bs 31 := ⟨_, h.box⟩
 ⟨heap_setCell_same _ bs _ _ _ _ (heap_setCell_same w bs _ _ _ _ h.box), h.low, ((SO.mk hv h.own.row h.own.net h.own.lks).put hb (by decide)).put hb.put (by decide)⟩
theorem kV.putN {vs us : List Vn} {k : Value} (h : kV w base bs t ps vs ls vB vV vK) (hv : cB w base v us) (hu : ∀ u ∈ us, qB w base u) (hk : bZ w base k ms) : kV ((w.setCell ⟨bs, 2, none⟩ v).setCell ⟨bs, 3, none⟩ k) base bs t ps us ms vB v k :=
 have hb : kQ w bs 31 := ⟨_, h.box⟩
 ⟨heap_setCell_same _ bs _ _ _ _ (heap_setCell_same w bs _ _ _ _ h.box), h.low, ((SO.mk h.own.bk hv hu hk).put hb (by decide)).put hb.put (by decide)⟩
theorem kV.setV {cap : Nat} {vs : List Vn} (h : kV w base bs t ps vs ls vB (.slice (some ⟨g, 0, none⟩) n cap) vK) (hi : i < vs.length) (hu : qB w base u) : kV (jN w g i u) base bs t ps (vs.set i u) ls vB (.slice (some ⟨g, 0, none⟩) n cap) vK := by
 obtain ⟨hgb, cur, hcur⟩ := h.own.row.block
 have hne : bs ≠ g := fun e => by rw [← e, h.box] at hcur; simp at hcur
 have hV : ∀ v, qB w base v → qB (jN w g i u) base v := fun v hv => by
  have b1 : ∀ (W : World), kQ W g 41 → qB W base v → ∀ o x, qB (W.setCell ⟨g, o, none⟩ x) base v := fun W hW hv o x => by
   obtain ⟨cs, hW⟩ := hW
   exact hv.kept (aH _ _ _ _) hW (by decide) (by decide) (by decide) (by decide)
  have g0 : kQ w g 41 := ⟨_, hcur⟩
  exact b1 _ g0.put.put (b1 _ g0.put (b1 _ g0 hv _ _) _ _) _ _
 have hB : ∀ (W : World), kQ W g 41 → dR W base vB ps ps.length → ∀ o x, dR (W.setCell ⟨g, o, none⟩ x) base vB ps ps.length := fun W hW hv o x => by
  obtain ⟨cs, hW⟩ := hW
  exact hv.putBox hW (by decide) (by decide)
 have g0 : kQ w g 41 := ⟨_, hcur⟩
 refine ⟨(gN hne).trans h.box, h.low, hB _ g0.put.put (hB _ g0.put (hB _ g0 h.own.bk _ _) _ _) _ _, h.own.row.setE i hi u, fun v hv => ?_, h.own.lks.setN h.own.row⟩
 rcases List.mem_or_eq_of_mem_set hv with hv | rfl
 ·exact hV v (h.own.net v hv)
 ·exact hV _ hu
structure eZ (base bs : Nat) (w w' : World) : Prop where
 below : Below base w w'
 box : ∀ k cs ty, k ≠ bs → ty ≠ 41 → w.heap[k]? = some (.cells cs ty) → w'.heap[k]? = some (.cells cs ty)
theorem eZ.of (h : Below w.heap.size w w') (hb : base ≤ w.heap.size) : eZ base bs w w' := ⟨h.mono hb, fun _ _ _ _ _ g => aA h g⟩
theorem eZ.trans {w'' : World} (h : eZ base bs w w') (g : eZ base bs w' w'') : eZ base bs w w'' := ⟨h.below.trans g.below, fun k cs ty h1 h2 h3 => g.box k cs ty h1 h2 (h.box k cs ty h1 h2 h3)⟩
theorem eZ.set (h : eZ base bs w w') (hb : base ≤ bs) : eZ base bs w (w'.setCell ⟨bs, o, none⟩ v) :=
 ⟨h.below.setCell (p := ⟨bs, o, none⟩) hb _, fun k cs ty h1 h2 h3 => (zB h1).trans (h.box k cs ty h1 h2 h3)⟩
theorem eZ.put (h : eZ base bs w w') (hb : base ≤ b) (hw : w.heap.size ≤ b) : eZ base bs w (w'.setCell ⟨b, o, none⟩ v) :=
 ⟨h.below.setCell (p := ⟨b, o, none⟩) hb _, fun k cs ty h1 h2 h3 => (zB (fun e : k = b => by have := (zG h3); omega)).trans (h.box k cs ty h1 h2 h3)⟩
theorem kV.see {vs : List Vn} (h : kV w base bs t ps vs ls vB vV vK) (hB : aV t ps = 0) :
  ∃ x c X C Y D, vB = .slice x ps.length c ∧ vV = .slice X vs.length C ∧ vK = .slice Y ls.length D ∧ Bk w x ps.length c ps ∧ VS w X vs.length vs ∧ vs.length ≤ C ∧ vs.length ≤ 9223372036854775807 ∧ PS w Y ls.length ls ∧ ls.length ≤ 9223372036854775807 := by
 have hR := gH h.own.bk.full hB
 obtain ⟨x, c, rfl, h1⟩ := h.own.bk.bk (fun i hi => by
  have := hR.n32 _ (poAt_mem hi)
  rw [h.own.bk.full i hi] at this
  omega)
 obtain ⟨X, C, rfl, h2, h3, h4, -⟩ := h.own.row.vs (fun u hu => (h.own.net u hu).ok)
 obtain ⟨Y, D, rfl, h5, h6, h7, -⟩ := h.own.lks.ps
 exact ⟨x, c, X, C, Y, D, rfl, rfl, rfl, h1, h2, h3, Nat.le_trans h3 h4, h5, Nat.le_trans h6 h7⟩
def rR (ps : List Po) (id z ow a l : Int) (rs : List Po) : Prop := (a, l) = eH (poAt ps (aP ps id).toNat) (nB (poAt ps (aP ps id).toNat) z) ∧
 ∃ qs x' c' ls', cD ps qs ∧ gC ⟨a, l, 1, ow, 0⟩ (poAt ps (aP ps id).toNat).ls ls' ∧ rs = qs.set (aP ps id).toNat (aT (poAt qs (aP ps id).toNat) x' ls'.length c' ls')
def SY (t : Int) (ps : List Po) (vs : List Vn) (A B C : Int) : Int := if 0 ≤ aI vs.length vs C then 6 else cZ t ps A B C
def UM (base bs : Nat) (t : Int) (ps : List Po) (vs : List Vn) (ls : List (Int × Int)) (A B C : Int) (w : World) (e : Ending) (w' : World) : Prop :=
 ∃ a l, e = .returned (.tuple #[.agg #[.int .i64 a, .int .i64 l], .int .i64 (SY t ps vs A B C)]) ∧ eZ base bs w w' ∧
  (SY t ps vs A B C = 0 → ∃ rs vB vV vK, kV w' base bs t rs vs ls vB vV vK ∧ rR ps A B C a l rs)
theorem MI (base bs : Nat) (t : Int) (ps : List Po) (vs : List Vn) (ls : List (Int × Int)) (vB vV vK : Value) (cd : Cd) (w : World) (hS : kV w base bs t ps vs ls vB vV vK) (hB : aV t ps = 0) (hv6 : vs.length ≤ 6) :
  Calls Tryz.prog 47 #[.pointer (some ⟨bs, 0, none⟩), QJ cd] w (UM base bs t ps vs ls cd.A cd.B cd.C w) := by
 have hbl : bs < w.heap.size := (zG hS.box)
 have hlow := hS.low
 obtain ⟨x, c, X, C, Y, D, rfl, rfl, rfl, hk, hvs, hvc, hv63, hps, hl63⟩ := hS.see hB
 go_enter Tryz.func47, Tryz.ntmps47
 go_upto_region 1 with fail
 obtain ⟨w0, hw0⟩ : ∃ w0, w0 = (w.alloc (A7 cd)).alloc (UK 0 0) := ⟨_, rfl⟩
 rw [← hw0]
 have hB0 : Below w.heap.size w w0 := by rw [hw0]; exact cC w _ _
 have hq0 : w0.heap[w.heap.size]? = some (A7 cd) := by rw [hw0]; exact aF _ (aB _ rfl)
 have hq1 : w0.heap[w.heap.size + 1]? = some (UK 0 0) := by rw [hw0]; exact aB _ (by simp)
 have hS0 := hS.later hB0
 clear hw0
 have s2 := Ws.here (aX hS0.box 2 rfl)
 have s3 := Ws.here (aX hS0.box 3 rfl)
 have k3 := Ws.here (aX hq0 3 rfl)
 by_cases hpl : 0 ≤ aI vs.length vs cd.C
 ·have hE : SY t ps vs cd.A cd.B cd.C = 6 := if_pos hpl
  refine aK w0.heap.size (by kernel_rfl) (by kernel_rfl) ?_
  repeat (go_big_quiet_step (first | (go_at_call 94; exact Calls.in_ws (zE) (kN cd.C X vs.length C vs Y ls.length D _ (hvs.later (hB0.trans ((Ws.property _).mono hB0.size))) (by omega)))))
  refine wpQuiet_nil ?_
  rintro _ ⟨u, rfl⟩
  have hBu := hB0.trans (u.property.mono hB0.size)
  have hpu := aA u.property hq1
  generalize u.val = wu at hBu hpu ⊢
  clear u
  clear s2 s3 k3 hS0 hq0 hq1
  obtain ⟨q0, q1⟩ := aR hpu rfl rfl
  obtain ⟨qz0, qz1⟩ := cA hpu
  go_wp2
  refine bodyPost_ret (v := .tuple #[.agg #[.int .i64 0, .int .i64 0], .int .i64 6]) (by simp [results, Tryz.results47, go_sem, q0, q1]) rfl ?_
  exact ⟨0, 0, by rw [hE], ((eZ.of hBu (by omega)).put (by omega) (by omega)).put (by omega) (by omega), fun h => absurd (hE.symm.trans h) (by decide)⟩
 ·have hE : Hid (SY t ps vs cd.A cd.B cd.C = cZ t ps cd.A cd.B cd.C) := if_neg hpl
  refine aK w0.heap.size (by kernel_rfl) (by kernel_rfl) ?_
  repeat (go_big_quiet_step (first | (go_at_call 94; exact Calls.in_ws (zE) (kN cd.C X vs.length C vs Y ls.length D _ (hvs.later (hB0.trans ((Ws.property _).mono hB0.size))) (by omega)))))
  refine wpQuiet_nil ?_
  rintro _ ⟨u, rfl⟩
  have hBu := hB0.trans (u.property.mono hB0.size)
  have hpu := aA u.property hq1
  have hcu := aA u.property hq0
  have hSu := hS0.later u.property
  generalize u.val = wu at hBu hpu hcu hSu ⊢
  clear u
  clear s2 s3 k3 hS0 hq0 hq1 hpl
  go_upto_region 3 with fail
  have s0 := Ws.here (aX hSu.box 0 rfl)
  have s1 := Ws.here (aX hSu.box 1 rfl)
  have k1 := Ws.here (aX hcu 1 rfl)
  have k2 := Ws.here (aX hcu 2 rfl)
  have k3 := Ws.here (aX hcu 3 rfl)
  refine aW [0, 1, 2, 3, 4, 5, 6, 7, 8, 9, 10] 11 [12, 13, 14, 15, 16, 17] [18, 19, 20] (by kernel_rfl) (by kernel_rfl) (fun d _ _ _ _ h => by cases d <;> exact h) ?_
  simp only [zK, zM, zI, zJ]
  repeat (go_big_quiet_step (fail))
  refine wpQuiet_nil ?_
  clear s0 s1 k1 k2 k3
  intro K hK
  go_wp2_with fail
  refine (EV t x ps.length c ps cd.A cd.B cd.C wu.drew ((hk.later hBu).later (zD).drew)).mono ?_
  rintro e w1 ⟨v, rs, t', a', l', rfl, hb1, hO1, hE1, hE2⟩
  have hB1 : Below wu.heap.size wu w1 := ⟨hb1.os, hb1.tape, hb1.output, hb1.size, hb1.block⟩
  go_wp2_with fail
  refine aD (hK.out _ _ hB1 ?_)
  clear hK K
  repeat (go_big_quiet_step (fail))
  refine wpQuiet_nil ?_
  have hS1 := hSu.later hB1
  have hp1 := aA hB1 hpu
  have hT1 : eZ base bs w w1 := eZ.of (hBu.trans (hB1.mono hBu.size)) (by omega)
  have hO2 : dR w1 base v rs rs.length := hO1.low (Nat.le_trans (by omega) hBu.size)
  obtain ⟨x1, c1, hv1, -⟩ := hO1.row.mem
  subst hv1
  have hbx : kQ w1 (w.heap.size + 1) 49 := ⟨_, hp1⟩
  have ne1 : bs ≠ w.heap.size + 1 := by omega
  have ne4 : ¬ w.heap.size + 1 = bs := by omega
  clear hb1 hO1
  obtain ⟨g0, g1, g2, g3⟩ := dN hS1.box rfl rfl rfl rfl
  obtain ⟨gz0, gz1⟩ := cA hS1.box
  obtain ⟨q0, q1⟩ := aR hp1 rfl rfl
  obtain ⟨qz0, qz1⟩ := cA hp1
  go_upto_region 4 with fail
  obtain ⟨w2, hw2⟩ : ∃ w2, w2 = (((w1.setCell ⟨bs, 0, none⟩ (.int .i64 t')).setCell ⟨bs, 1, none⟩ (.slice x1 rs.length c1)).setCell ⟨w.heap.size + 1, 0, none⟩ (.int .i64 a')).setCell ⟨w.heap.size + 1, 1, none⟩ (.int .i64 l') := ⟨_, rfl⟩
  rw [← hw2]
  have hS2 : kV w2 base bs t' rs vs ls (.slice x1 rs.length c1) (.slice X vs.length C) (.slice Y ls.length D) := by rw [hw2]; exact ((hS1.putB hO2).put hbx.put.put (by decide) ne1).put hbx.put.put.put (by decide) ne1
  have hp2 : w2.heap[w.heap.size + 1]? = some (UK a' l') := by rw [hw2]; exact zC (zC ((zB ne4).trans ((zB ne4).trans hp1)))
  have hT2 : eZ base bs w w2 := by rw [hw2]; exact (((hT1.set hlow).set hlow).put (by omega) (by omega)).put (by omega) (by omega)
  have hbx2 : kQ w2 (w.heap.size + 1) 49 := ⟨_, hp2⟩
  clear hw2 hS1 hp1 hO2 hbx g0 g1 g2 g3 gz0 gz1 q0 q1 qz0 qz1
  obtain ⟨q0, q1⟩ := aR hp2 rfl rfl
  obtain ⟨qz0, qz1⟩ := cA hp2
  go_wp2
  refine bodyPost_ret (v := .tuple #[.agg #[.int .i64 a', .int .i64 l'], .int .i64 (cZ t ps cd.A cd.B cd.C)]) (by simp [results, Tryz.results47, go_sem, q0, q1]) rfl ?_
  refine ⟨a', l', by rw [hE.out], (hT2.put (by omega) (by omega)).put (by omega) (by omega), fun h => ?_⟩
  rw [hE.out] at h
  obtain ⟨rfl, hal, hq⟩ := hE2 h
  exact ⟨rs, _, _, _, (hS2.put hbx2 (by decide) ne1).put hbx2.put (by decide) ne1, hal, hq⟩
def SZ (ps : List Po) (vs : List Vn) (ls : List (Int × Int)) (A : Int) : Int := if uZ (bY ps) A = true then 6 else iT vs.length vs ls.length ls A
def UN (E : Int) (R : List Vn → List (Int × Int) → Prop) (base bs : Nat) (t : Int) (ps : List Po) (w : World) (e : Ending) (w' : World) : Prop :=
 e = .returned (.int .i64 E) ∧ eZ base bs w w' ∧ (E = 0 → ∃ us ms vB vV vK, kV w' base bs t ps us ms vB vV vK ∧ R us ms)
theorem qC {R : List Vn → List (Int × Int) → Prop} (h0 : E ≠ 0 → V = .agg #[.slice none 0 0, .slice none 0 0]) (h1 : E = 0 → ∃ us ms, NO w base V us ms ∧ R us ms) : ∃ x1 n1 c1 x2 n2 c2, V = .agg #[.slice x1 n1 c1, .slice x2 n2 c2] := by
 by_cases h : E = 0
 ·obtain ⟨us, ms, ⟨v, k, e, g1, -, g2⟩, -⟩ := h1 h
  obtain ⟨x1, c1, rfl, -⟩ := g1.mem
  obtain ⟨x2, c2, rfl, -⟩ := g2.mem
  exact ⟨_, _, _, _, _, _, e⟩
 ·exact ⟨_, _, _, _, _, _, h0 h⟩
theorem JV (hF : bX ps) (hB : aV t ps = 0) : ps.length ≤ 8 ∧ (∀ k, k < ps.length → (poAt ps k).n ≤ 64) ∧ ∀ k, k < ps.length → ∀ q, q < (poAt ps k).n → CA (poAt ps k).id (aO (poAt ps k).ls q).a (aO (poAt ps k).ls q).l ∧ (Lit.int .i64 (aO (poAt ps k).ls q).ow).wf = true := by
 have hR := gH hF hB
 refine ⟨hR.few, fun k hk => ?_, fun k hk q hq => JU hR (poAt_mem hk) (fD (by rw [hF k hk]; exact hq))⟩
 have := hR.n32 _ (poAt_mem hk)
 rw [hF k hk] at this
 omega
theorem IZ (base bs : Nat) (t : Int) (ps : List Po) (vs : List Vn) (ls : List (Int × Int)) (vB vV vK : Value) (cd : Cd) (w : World) (hS : kV w base bs t ps vs ls vB vV vK) (hB : aV t ps = 0) :
  Calls Tryz.prog 49 #[.pointer (some ⟨bs, 0, none⟩), QJ cd] w (UN (SZ ps vs ls cd.A) (F0 vs ls cd.A) base bs t ps w) := by
 have hbl : bs < w.heap.size := (zG hS.box)
 have hlow := hS.low
 obtain ⟨x, c, X, C, Y, D, rfl, rfl, rfl, hk, hvs, hvc, hv63, hps, hl63⟩ := hS.see hB
 obtain ⟨hn8, hn64, hwf⟩ := JV hS.own.bk.full hB
 go_enter Tryz.func49, Tryz.ntmps49
 go_upto_region 1 with fail
 obtain ⟨w0, hw0⟩ : ∃ w0, w0 = w.alloc (A7 cd) := ⟨_, rfl⟩
 rw [← hw0]
 have hB0 : Below w.heap.size w w0 := by rw [hw0]; exact bl1 w _
 have hq0 : w0.heap[w.heap.size]? = some (A7 cd) := by rw [hw0]; exact aB _ rfl
 have hS0 := hS.later hB0
 clear hw0
 have s0 := Ws.here (aX hS0.box 0 rfl)
 have s1 := Ws.here (aX hS0.box 1 rfl)
 have k1 := Ws.here (aX hq0 1 rfl)
 refine aW [0, 1, 2, 3, 5, 6] 4 [] [7] (by kernel_rfl) (by kernel_rfl) (fun d _ _ _ _ h => by cases d <;> exact h) ?_
 simp only [zK, zM, zI, zJ]
 repeat (go_big_quiet_step (fail))
 refine wpQuiet_nil ?_
 clear s0 s1 k1
 intro K hK
 go_wp2_with fail
 refine (lJ t x ps.length c ps w0.drew ((hk.later hB0).later (zD).drew).ps (by omega) hn64 hwf).mono ?_
 rintro e w1 ⟨bm, Dm, rfl, hbm, hOm, hHm, hb1⟩
 have hB1 : Below w0.heap.size w0 w1 := ⟨hb1.os, hb1.tape, hb1.output, hb1.size, hb1.block⟩
 go_wp2_with fail
 refine aD (hK.out _ _ hB1 ?_)
 clear hK K
 refine wpQuiet_nil ?_
 have hS1 := hS0.later hB1
 have hc1 := aA hB1 hq0
 have hBw1 := hB0.trans (hB1.mono hB0.size)
 clear hS0 hq0 hb1 hB1
 obtain ⟨ta, hta⟩ : ∃ b, uZ (bY ps) cd.A = b := ⟨_, rfl⟩
 have hany := CC bm _ Dm _ cd.A w1 hOm hHm
 rw [hta] at hany
 cases ta
 ·have hE : Hid (SZ ps vs ls cd.A = iT vs.length vs ls.length ls cd.A) := if_neg (by rw [hta]; decide)
  clear hta
  go_wp2_with fail
  refine hany.mono ?_
  rintro e w2 ⟨rfl, hb2⟩
  have hS2 := hS1.later hb2
  have hc2 := aA hb2 hc1
  have hBw2 := hBw1.trans (hb2.mono hBw1.size)
  clear hS1 hc1 hb2 hany
  go_upto_region 3 with fail
  have s2 := Ws.here (aX hS2.box 2 rfl)
  have s3 := Ws.here (aX hS2.box 3 rfl)
  have k1 := Ws.here (aX hc2 1 rfl)
  refine aW [0, 1, 2, 3, 4, 5, 6] 7 [8, 9, 10, 11, 12] [13, 14] (by kernel_rfl) (by kernel_rfl) (fun d _ _ _ _ h => by cases d <;> exact h) ?_
  simp only [zK, zM, zI, zJ]
  repeat (go_big_quiet_step (fail))
  refine wpQuiet_nil ?_
  clear s2 s3 k1
  intro K hK
  go_wp2_with fail
  refine (O9 X vs.length C vs Y ls.length D ls cd.A w2.drew ((hvs.later hBw2).later (zD).drew) hv63 hvc ((hps.later hBw2).later (zD).drew) hl63).mono ?_
  rintro e w3 ⟨V, rfl, hb3, hV0, hV1⟩
  have hB1 : Below w2.heap.size w2 w3 := ⟨hb3.os, hb3.tape, hb3.output, hb3.size, hb3.block⟩
  have hS3 := hS2.later hB1
  have hT3 : eZ base bs w w3 := eZ.of (hBw2.trans (hB1.mono hBw2.size)) (by omega)
  obtain ⟨y1, m1, d1, y2, m2, d2, rfl⟩ := qC hV0 hV1
  clear hV0
  go_wp2_with fail
  refine aD (hK.out _ _ hB1 ?_)
  clear hK K
  repeat (go_big_quiet_step (fail))
  refine wpQuiet_nil ?_
  have g0 := aX hS3.box 0 rfl
  have g1 := aX hS3.box 1 rfl
  have g2 := aX hS3.box 2 rfl
  have gz2 := (aE hS3.box).2 2
  have g3 := aX hS3.box 3 rfl
  have gz3 := (aE hS3.box).2 3
  go_wp2
  go_ret
  refine ⟨by rw [hE.out]; rfl, (hT3.set hlow).set hlow, fun h => ?_⟩
  rw [hE.out] at h
  obtain ⟨us, ms, ⟨v', k', e', hOV, hVo, hOK⟩, hR⟩ := hV1 h
  cases e'
  have hlo : base ≤ w2.drew.heap.size := Nat.le_trans (by omega) hBw2.size
  exact ⟨us, ms, _, _, _, hS3.putN (hOV.low hlo) (fun u hu => ((hVo u hu).low hlo).vty) (hOK.low hlo), hR⟩
 ·have hE : SZ ps vs ls cd.A = 6 := if_pos hta
  clear hta
  go_wp2_with fail
  refine hany.mono ?_
  rintro e w2 ⟨rfl, hb2⟩
  go_wp2
  go_ret
  exact ⟨by rw [hE]; rfl, eZ.of (hBw1.trans (hb2.mono hBw1.size)) (by omega), fun h => absurd (hE.symm.trans h) (by decide)⟩
end Go.Proofs.YtndpilfpejfloaaGreat
