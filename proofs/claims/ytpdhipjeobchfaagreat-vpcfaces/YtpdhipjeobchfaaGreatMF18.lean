/- What FaceVpc of the reference comes to. -/
import Derived.Test.YtpdhipjeobchfaaGreatMF16
import Derived.Test.YtpdhipjeobchfaaGreatMF17
import Derived.Maps.AppendAt
namespace Go.Proofs.YtpdhipjeobchfaaGreat
open Go.RowKit Go.Shelf

theorem wpList_append_Fat {w : World} {ops : Array Oper} {rest : List Oper} {o : Oper} {a : Act} {Q : Exit → Act → World → Prop} (hgd : o.guard = none) (s x : Operand)
    (ho : o.op = .call { callee := .builtin .append, args := #[s, x], argTypes := #[53, 53] }) (base : Nat) (v : Value) (es : List Fc) (hs : a.eval s = v) (hO : OwnF w base v es)
    (ad : Addr) (m c : Nat) (fs : List Fc) (hx : a.eval x = .slice (some ad) m c) (hm : fs.length = m) (hy : ∀ j u, (flatF fs)[j]? = some u → w.cell? (ad.add j) = some u)
    (hlen : es.length + m ≤ 1000000000) (hbase : base ≤ w.heap.size)
    (h : ∀ v' w', OwnF w' base v' (es ++ fs) → w.grownBy w' v.ownBlock → (v'.ownBlock = v.ownBlock ∨ v'.ownBlock = some w.heap.size) → wpList Tryz.prog ops Q rest (a.put o.dst v') w') : wpList Tryz.prog ops Q (o :: rest) a w := by
  obtain ⟨i0, hi, hz0, hz1, hz2⟩ := info_F'
  subst hm
  refine wpList_append_own_at w hgd s x 53 ho base 68 i0 _ 2 32 under_F hi hz0 hz1 hz2 rfl (by decide) v es.length (flatF es) hs hO ad fs.length c (flatF fs) hx (flatF_len fs) hy (flatF_one fs) (by unfold maxLen; omega) (by omega) hbase ?_
  intro v' w' h1 h2 _ hat
  refine h v' w' ?_ h2 hat
  unfold OwnF
  rw [flatF_app, List.length_append]
  exact h1
theorem flatF_setId (fs : List Fc) (i : Nat) (id : Int) (hi : i < fs.length) : (flatF fs).set (i * 2) (.int .i64 id) = flatF (fs.set i ⟨id, (fcAt fs i).x, (fcAt fs i).n, (fcAt fs i).c, (fcAt fs i).ns⟩) := by
  refine List.ext_getElem? fun j => ?_
  by_cases hj : j < fs.length * 2
  · have e : j = (j / 2) * 2 + j % 2 := by omega
    have hq : j / 2 < fs.length := by omega
    rw [e, flatF_at _ _ _ (by rw [List.length_set]; exact hq) (by omega), fcAt_set hi, List.getElem?_set]
    by_cases h1 : i = j / 2
    · rw [if_pos h1]
      by_cases h2 : j % 2 = 0
      · rw [if_pos (by omega), if_pos (by rw [flatF_len]; omega), h2]
        rfl
      · rw [if_neg (by omega), flatF_at _ _ _ hq (by omega), h1, show j % 2 = 1 by omega]
        rfl
    · rw [if_neg h1, if_neg (by omega), flatF_at _ _ _ hq (by omega)]
  · rw [List.getElem?_eq_none (by rw [List.length_set, flatF_len]; omega), List.getElem?_eq_none (by rw [flatF_len, List.length_set]; omega)]
theorem OwnF.setId {w : World} {base g n cap : Nat} {fs : List Fc} (h : OwnF w base (.slice (some ⟨g, 0, none⟩) n cap) fs) (i : Nat) (hi : i < fs.length) (id : Int) :
    OwnF (w.setCell ⟨g, i * 2, none⟩ (.int .i64 id)) base (.slice (some ⟨g, 0, none⟩) n cap) (fs.set i ⟨id, (fcAt fs i).x, (fcAt fs i).n, (fcAt fs i).c, (fcAt fs i).ns⟩) := by
  rcases h.2 with ⟨hv, -⟩ | ⟨g', cap', cur, hv, h1, h2, h3, h4, h5, h6⟩
  · simp at hv
  · simp only [Value.slice.injEq, Option.some.injEq, Addr.mk.injEq] at hv
    obtain ⟨⟨rfl, -⟩, rfl, rfl⟩ := hv
    refine ⟨flatF_len _, .inr ⟨g, cap, cur.setIfInBounds (i * 2) (.int .i64 id), by rw [List.length_set], h1, heap_setCell_same w g _ _ _ _ h2, by rw [List.length_set]; exact h3, h4, by simpa using h5, ?_⟩⟩
    rw [List.length_set, Array.toList_setIfInBounds, List.take_set, h6, flatF_setId fs i id hi]
theorem OwnF.setE {w : World} {base g n cap : Nat} {fs : List Fc} (h : OwnF w base (.slice (some ⟨g, 0, none⟩) n cap) fs) (i : Nat) (hi : i < fs.length) (e : Fc) :
    OwnF ((w.setCell ⟨g, i * 2, none⟩ (.int .i64 e.id)).setCell ⟨g, i * 2 + 1, none⟩ (.slice e.x e.n e.c)) base (.slice (some ⟨g, 0, none⟩) n cap) (fs.set i e) := by
  have h1 := (h.setId i hi e.id).set i (by rw [List.length_set]; exact hi) e.x e.n e.c e.ns
  rw [List.set_set, fcAt_set hi, if_pos rfl] at h1
  exact h1
theorem riseF_lt {fs : List Fc} (h : riseFB fs = true) : ∀ (i j : Nat), i < j → j < fs.length → (fcAt fs i).id < (fcAt fs j).id
  | i, 0, hij, _ => by omega
  | i, j + 1, hij, hj => by
    have h1 : riseFAt fs (j + 1) = true := by
      unfold riseFB at h
      exact List.all_eq_true.1 h (j + 1) (List.mem_range.2 hj)
    unfold riseFAt at h1
    simp only [Nat.add_sub_cancel, Bool.or_eq_true, decide_eq_true_eq, beq_iff_eq] at h1
    have h2 : (fcAt fs j).id < (fcAt fs (j + 1)).id := by
      rcases h1 with h1 | h1
      · omega
      · exact h1
    by_cases e : i < j
    · have := riseF_lt h i j e (by omega)
      omega
    · obtain rfl : i = j := by omega
      exact h2
theorem chkV_rise {vid : Int} {rn : Nat} {rs : List Rg} {sn : Nat} {ss : List Sb} (h : chkV vid rn rs sn ss = 0) (i : Nat) (hi : i < sn) : riseFB (sbAt ss i).fs = true := by
  obtain ⟨-, -, hs⟩ := chkV_right h
  unfold sbsB at hs
  rw [Bool.and_eq_true, List.all_eq_true] at hs
  have h1 := hs.1 i (by simpa using hi)
  unfold sbsAt fcsB at h1
  simp only [Bool.and_eq_true] at h1
  exact h1.2.1.2
/-- One step of the new face towards its place. -/
theorem swap_ins {xs : List Fc} {e : Fc} {q : Nat} (hq : q < xs.length) : ((xs.take (q + 1) ++ [e] ++ xs.drop (q + 1)).set q e).set (q + 1) (fcAt xs q) = xs.take q ++ [e] ++ xs.drop q := by
  refine List.ext_getElem? fun j => ?_
  have hx : xs[q]? = some (fcAt xs q) := by
    unfold fcAt
    rw [List.getD_eq_getElem?_getD, List.getElem?_eq_getElem hq]
    rfl
  have hl : (xs.take (q + 1) ++ [e] ++ xs.drop (q + 1)).length = xs.length + 1 := by simp; omega
  rw [List.getElem?_set, List.length_set, hl, List.getElem?_set, hl, get_ins xs (q + 1) (by omega), get_ins xs q (by omega)]
  by_cases h1 : q + 1 = j
  · subst h1
    rw [if_pos rfl, if_pos (by omega), if_neg (by omega), if_neg (by omega), Nat.add_sub_cancel, hx]
  · rw [if_neg h1]
    by_cases h2 : q = j
    · subst h2
      rw [if_pos rfl, if_pos (by omega), if_neg (by omega), if_pos rfl]
    · rw [if_neg h2]
      by_cases h3 : j < q
      · rw [if_pos (by omega), if_pos h3]
      · rw [if_neg (by omega), if_neg (by omega), if_neg h3, if_neg (by omega)]
theorem fcAt_ins {ts : List Fc} {p : Nat} (hp : p ≤ ts.length) (e : Fc) (j : Nat) : fcAt (ts.take p ++ [e] ++ ts.drop p) j = if j < p then fcAt ts j else if j = p then e else fcAt ts (j - 1) := by
  unfold fcAt
  rw [List.getD_eq_getElem?_getD, get_ins ts p hp]
  split
  · rw [List.getD_eq_getElem?_getD]
  · split
    · rfl
    · rw [List.getD_eq_getElem?_getD]
/-- The other subnets' faces. -/
def Oth (w : World) (base : Nat) (ts : List Sb) (i gf : Nat) : Prop := ∀ q, q < ts.length → q ≠ i → OFs w base (.slice (sbAt ts q).x (sbAt ts q).n (sbAt ts q).c) (sbAt ts q).fs (sbAt ts q).fs.length ∧ (Value.slice (sbAt ts q).x (sbAt ts q).n (sbAt ts q).c).ownBlock ≠ some gf
/-- A network that is being made, the faces of its subnet i in the block gf. -/
structure FcW (w W : World) (base bo g cap gf n cf i : Nat) (vid : Int) (vR : Value) (rs : List Rg) (ts : List Sb) (cur : List Fc) : Prop where
  ho : W.heap[bo]? = some (vpB vid vR (.slice (some ⟨g, 0, none⟩) ts.length cap))
  hs : W.heap[w.heap.size + 1]? = some (vpB 0 (.slice none 0 0) (.slice none 0 0))
  below : Below w.heap.size w W
  rgs : OwnR W base vR rs
  row : ∀ M, OwnS W base (.slice (some ⟨g, 0, none⟩) ts.length cap) (ts.set i (withF (sbAt ts i) (some ⟨gf, 0, none⟩) n cf M))
  fcs : OwnF W base (.slice (some ⟨gf, 0, none⟩) n cf) cur
  ads : ∀ f ∈ cur, OwnI W base (.slice f.x f.n f.c) f.ns
  oth : Oth W base ts i gf
theorem FcW.later {w W W' : World} {base bo g cap gf n cf i : Nat} {vid : Int} {vR : Value} {rs : List Rg} {ts : List Sb} {cur : List Fc} (h : FcW w W base bo g cap gf n cf i vid vR rs ts cur) (hb : Below W.heap.size W W') : FcW w W' base bo g cap gf n cf i vid vR rs ts cur :=
  ⟨heap_later hb h.ho, heap_later hb h.hs, h.below.trans (hb.mono h.below.size), OwnR.later h.rgs hb, fun M => (h.row M).later hb, h.fcs.later hb, fun f hf => (h.ads f hf).later hb, fun q h1 h2 => ⟨OFs.later (h.oth q h1 h2).1 hb, (h.oth q h1 h2).2⟩⟩
theorem FcW.set1 {w W W' : World} {base bo g cap gf n cf i : Nat} {vid : Int} {vR : Value} {rs : List Rg} {ts : List Sb} {cur cur' : List Fc} (h : FcW w W base bo g cap gf n cf i vid vR rs ts cur) (hg : W.grownBy W' (some gf)) (hw : w.heap.size + 1 < base) (hF : OwnF W' base (.slice (some ⟨gf, 0, none⟩) n cf) cur')
    (hm : ∀ f ∈ cur', OwnI W base (.slice f.x f.n f.c) f.ns) : FcW w W' base bo g cap gf n cf i vid vR rs ts cur' := by
  obtain ⟨hbg, c0, hc0⟩ := h.fcs.block
  have hkI : ∀ {v : Value} {es : List Int}, OwnI W base v es → OwnI W' base v es := fun {v es} hO => hO.kept hg (fun q hq e => by subst e; exact hO.ne hc0 (by decide) hq)
  refine ⟨grown_box hg (fun e => by subst e; have := h.ho; rw [hc0] at this; simp at this) h.ho, grown_box hg (by omega) h.hs, below_grownr h.below hg (fun q e => by cases e; omega), h.rgs.kept hg (fun q hq e => by subst e; exact h.rgs.ne hc0 (by decide) hq),
    fun M => (h.row M).kept hg (fun q hq e => by subst e; exact (h.row M).ne hc0 (by decide) hq), hF, fun f hf => hkI (hm f hf), fun q h1 h2 => ⟨?_, (h.oth q h1 h2).2⟩⟩
  obtain ⟨ho1, ho2⟩ := h.oth q h1 h2
  exact OFs.mk' (ho1.row.kept hg (fun k hk e => by subst e; exact ho2 hk)) (fun f hf => hkI (ho1.each f hf))
/-- A face of the row is written over by one of the row. -/
theorem FcW.put {w W : World} {base bo g cap gf n cf i : Nat} {vid : Int} {vR : Value} {rs : List Rg} {ts : List Sb} {cur : List Fc} (h : FcW w W base bo g cap gf n cf i vid vR rs ts cur) (hw : w.heap.size + 1 < base) (q : Nat) (hq : q < cur.length) (e : Fc) (he : OwnI W base (.slice e.x e.n e.c) e.ns) :
    FcW w ((W.setCell ⟨gf, q * 2, none⟩ (.int .i64 e.id)).setCell ⟨gf, q * 2 + 1, none⟩ (.slice e.x e.n e.c)) base bo g cap gf n cf i vid vR rs ts (cur.set q e) := by
  have hg : W.grownBy ((W.setCell ⟨gf, q * 2, none⟩ (.int .i64 e.id)).setCell ⟨gf, q * 2 + 1, none⟩ (.slice e.x e.n e.c)) (some gf) := by
    have g1 := set_grown W gf (q * 2) (.int .i64 e.id)
    have g2 := set_grown (W.setCell ⟨gf, q * 2, none⟩ (.int .i64 e.id)) gf (q * 2 + 1) (.slice e.x e.n e.c)
    exact ⟨g2.os.trans g1.os, g2.tape.trans g1.tape, g2.output.trans g1.output, Nat.le_trans g1.size g2.size, fun k hk hne => (g2.block k (Nat.lt_of_lt_of_le hk g1.size) hne).trans (g1.block k hk hne)⟩
  refine h.set1 hg hw (h.fcs.setE q hq e) (fun f hf => ?_)
  obtain ⟨k, hk, rfl⟩ := List.getElem_of_mem hf
  rw [List.getElem_set]
  split
  · exact he
  · exact h.ads _ (List.getElem_mem _)
theorem FcW.keepI {w W : World} {base bo g cap gf n cf i : Nat} {vid : Int} {vR : Value} {rs : List Rg} {ts : List Sb} {cur : List Fc} (h : FcW w W base bo g cap gf n cf i vid vR rs ts cur) {v a b : Value} {es : List Int} {q p : Nat} (hO : OwnI W base v es) : OwnI ((W.setCell ⟨gf, q, none⟩ a).setCell ⟨gf, p, none⟩ b) base v es := by
  obtain ⟨hbg, c0, hc0⟩ := h.fcs.block
  have h1 : OwnI (W.setCell ⟨gf, q, none⟩ a) base v es := hO.kept (set_grown _ _ _ _) (fun k hk e => by subst e; exact hO.ne hc0 (by decide) hk)
  exact h1.kept (set_grown _ _ _ _) (fun k hk e => by subst e; exact h1.ne (heap_setCell_same W _ q _ _ a hc0) (by decide) hk)
theorem FcW.cells {w W : World} {base bo g cap gf n cf i : Nat} {vid : Int} {vR : Value} {rs : List Rg} {ts : List Sb} {cur : List Fc} (h : FcW w W base bo g cap gf n cf i vid vR rs ts cur) (q : Nat) (hq : q < cur.length) :
    W.cell? ⟨gf, q * 2, none⟩ = some (.int .i64 (fcAt cur q).id) ∧ W.cell? ⟨gf, q * 2 + 1, none⟩ = some (.slice (fcAt cur q).x (fcAt cur q).n (fcAt cur q).c) ∧ W.frozen? ⟨gf, q * 2, none⟩ = false ∧ W.frozen? ⟨gf, q * 2 + 1, none⟩ = false := by
  obtain ⟨x2, c2, he2, -, -, -, hm'⟩ := h.fcs.mem
  simp only [Value.slice.injEq] at he2
  obtain ⟨b2, o2, he3, c7, c8⟩ := hm' q hq
  rw [← he2.1] at he3
  simp only [Option.some.injEq, Addr.mk.injEq] at he3
  obtain ⟨rfl, rfl, -⟩ := he3
  exact ⟨by simpa using c7, by simpa using c8, h.fcs.frozen _, h.fcs.frozen _⟩
theorem FcW.sub {w W : World} {base bo g cap gf n cf i : Nat} {vid : Int} {vR : Value} {rs : List Rg} {ts : List Sb} {cur : List Fc} (h : FcW w W base bo g cap gf n cf i vid vR rs ts cur) (hi : i < ts.length) : W.cell? ⟨g, i * 4 + 3, none⟩ = some (.slice (some ⟨gf, 0, none⟩) n cf) := by
  obtain ⟨x2, c2, he2, -, -, -, hm'⟩ := (h.row []).mem
  simp only [Value.slice.injEq] at he2
  obtain ⟨b2, o2, he3, -, -, -, c8⟩ := hm' i (by rw [List.length_set]; exact hi)
  rw [← he2.1] at he3
  simp only [Option.some.injEq, Addr.mk.injEq] at he3
  obtain ⟨rfl, rfl, -⟩ := he3
  rw [sbAt_set hi, if_pos rfl] at c8
  simpa [withF] using c8
theorem FcW.nv {w W : World} {base bo g cap gf n cf i : Nat} {vid : Int} {vR : Value} {rs : List Rg} {ts : List Sb} {cur : List Fc} (h : FcW w W base bo g cap gf n cf i vid vR rs ts cur) : NV W vid (.agg #[.int .i64 vid, vR, .slice (some ⟨g, 0, none⟩) ts.length cap]) rs (ts.set i (withF (sbAt ts i) (some ⟨gf, 0, none⟩) n cf cur)) := by
  have hfa : OFa W base (ts.set i (withF (sbAt ts i) (some ⟨gf, 0, none⟩) n cf cur)) := fun s hs => by
    obtain ⟨k, hk, rfl⟩ := List.getElem_of_mem hs
    have hk' : k < ts.length := by simpa using hk
    rw [List.getElem_set]
    by_cases e : i = k
    · rw [if_pos e]; exact OFs.mk' h.fcs h.ads
    · rw [if_neg e]
      have e2 : sbAt ts k = ts[k] := by unfold sbAt; rw [List.getD_eq_getElem?_getD, List.getElem?_eq_getElem hk']; rfl
      rw [← e2]
      exact (h.oth k hk' (fun h => e h.symm)).1
  exact NV.mk h.rgs (h.row cur) hfa.fcb
theorem FcW.res {w W : World} {base bo g cap gf n cf i : Nat} {vid : Int} {vR : Value} {rs : List Rg} {ts : List Sb} {cur : List Fc} {u0 u1 u2 : Value} (h : FcW w W base bo g cap gf n cf i vid vR rs ts cur) (hw : w.heap.size + 1 < base) : NV (((W.setCell ⟨w.heap.size + 1, 0, none⟩ u0).setCell ⟨w.heap.size + 1, 1, none⟩ u1).setCell ⟨w.heap.size + 1, 2, none⟩ u2) vid (.agg #[.int .i64 vid, vR, .slice (some ⟨g, 0, none⟩) ts.length cap]) rs (ts.set i (withF (sbAt ts i) (some ⟨gf, 0, none⟩) n cf cur)) := by
  have hfa : OFa W base (ts.set i (withF (sbAt ts i) (some ⟨gf, 0, none⟩) n cf cur)) := fun s hs => by
    obtain ⟨k, hk, rfl⟩ := List.getElem_of_mem hs
    have hk' : k < ts.length := by simpa using hk
    rw [List.getElem_set]
    by_cases e : i = k
    · rw [if_pos e]; exact OFs.mk' h.fcs h.ads
    · rw [if_neg e]
      have e2 : sbAt ts k = ts[k] := by unfold sbAt; rw [List.getD_eq_getElem?_getD, List.getElem?_eq_getElem hk']; rfl
      rw [← e2]
      exact (h.oth k hk' (fun h => e h.symm)).1
  exact NV.mk (((h.rgs.put hw).put hw).put hw) ((((h.row cur).put hw).put hw).put hw) (((hfa.put hw).put hw).put hw).fcb
/-- Behind the append of a face to the row of the subnet i, and the store of the new slice. -/
theorem FcW.start {w wB w9 : World} {base bo g cap gf n cf i : Nat} {vid : Int} {vR : Value} {rs : List Rg} {ts : List Sb} {c0 : Array Value} {f' : Fc} (hi : i < ts.length) (hwb : w.heap.size + 1 < base) (hOS : OSs wB base (.slice (some ⟨g, 0, none⟩) ts.length cap) ts ts.length)
    (hho : wB.heap[bo]? = some (vpB vid vR (.slice (some ⟨g, 0, none⟩) ts.length cap))) (hs : wB.heap[w.heap.size + 1]? = some (vpB 0 (.slice none 0 0) (.slice none 0 0))) (hB : Below w.heap.size w wB) (hOR : OwnR wB base vR rs) (hgB : wB.heap[g]? = some (.cells c0 55)) (hbog : bo ≠ g) (hbg : base ≤ g)
    (hI : OwnI wB base (.slice f'.x f'.n f'.c) f'.ns) (hF9 : OwnF w9 base (.slice (some ⟨gf, 0, none⟩) n cf) ((sbAt ts i).fs ++ [f'])) (hg9 : wB.grownBy w9 (Value.slice (sbAt ts i).x (sbAt ts i).n (sbAt ts i).c).ownBlock)
    (hat : (Value.slice (some ⟨gf, 0, none⟩) n cf).ownBlock = (Value.slice (sbAt ts i).x (sbAt ts i).n (sbAt ts i).c).ownBlock ∨ (Value.slice (some ⟨gf, 0, none⟩) n cf).ownBlock = some wB.heap.size) :
    FcW w (w9.setCell ⟨g, i * 4 + 3, none⟩ (.slice (some ⟨gf, 0, none⟩) n cf)) base bo g cap gf n cf i vid vR rs ts ((sbAt ts i).fs ++ [f']) := by
  have hO := (hOS.own i hi).row
  have hk : ∀ q, (Value.slice (sbAt ts i).x (sbAt ts i).n (sbAt ts i).c).ownBlock = some q → ∃ cur, wB.heap[q]? = some (.cells cur 68) := fun q e => hO.kind e
  have ho9 := grown_keep hg9 (hO.ne hho (by decide)) hho
  have hs9 := grown_keep hg9 (hO.ne hs (by decide)) hs
  have hgg9 := grown_keep hg9 (hO.ne hgB (by decide)) hgB
  have hB9 := below_grownr hB hg9 (fun q e => by have := (hO.lt q e).1; omega)
  have hR9 : OwnR w9 base vR rs := hOR.keptr hg9 (fun q hq e => by obtain ⟨c, hc⟩ := hk q e; exact hOR.ne hc (by decide) hq)
  have hS9 : OwnS w9 base (.slice (some ⟨g, 0, none⟩) ts.length cap) ts := hOS.row.keptr hg9 (fun q hq e => by obtain ⟨c, hc⟩ := hk q e; exact hOS.row.ne hc (by decide) hq)
  have hkI : ∀ {v : Value} {es : List Int}, OwnI wB base v es → OwnI (w9.setCell ⟨g, i * 4 + 3, none⟩ (.slice (some ⟨gf, 0, none⟩) n cf)) base v es := fun {v es} h1 => by
    have h2 : OwnI w9 base v es := h1.keptr hg9 (fun q hq e => by obtain ⟨c, hc⟩ := hk q e; exact h1.ne hc (by decide) hq)
    exact h2.kept (set_grown _ _ _ _) (fun q hq e => by subst e; exact h2.ne hgg9 (by decide) hq)
  refine ⟨(heap_setCell_other _ _ _ _ hbog).trans ho9, (heap_setCell_other _ _ _ _ (by show w.heap.size + 1 ≠ g; omega)).trans hs9, hB9.setCell (p := ⟨g, i * 4 + 3, none⟩) (by show w.heap.size ≤ g; omega) _, hR9.putBox hgg9 (by decide), fun M => hS9.set i hi _ _ _ M,
    hF9.kept (set_grown _ _ _ _) (fun q hq e => by subst e; exact hF9.ne hgg9 (by decide) hq), fun f hf => ?_, fun q h1 h2 => ⟨?_, fun e => ?_⟩⟩
  · rcases List.mem_append.1 hf with h | h
    · exact hkI ((hOS.own i hi).each f h)
    · obtain rfl : f = f' := by simpa using h
      exact hkI hI
  · have hq := hOS.own q h1
    have hrow : OwnF w9 base (.slice (sbAt ts q).x (sbAt ts q).n (sbAt ts q).c) (sbAt ts q).fs := hq.row.keptr hg9 (fun k hk e => hOS.apart i q hi h1 (fun h => h2 h.symm) k e hk)
    exact OFs.mk' (hrow.kept (set_grown _ _ _ _) (fun k hk e => by subst e; exact hrow.ne hgg9 (by decide) hk)) (fun f hf => hkI (hq.each f hf))
  · rcases hat with h | h
    · exact hOS.apart i q hi h1 (fun h => h2 h.symm) gf (h.symm.trans rfl) e
    · have h3 : gf = wB.heap.size := by simpa [Value.ownBlock] using h
      have := ((hOS.own q h1).row.lt gf e).2
      omega
end Go.Proofs.YtpdhipjeobchfaaGreat
/- What FaceVpc of the reference comes to: its walk. -/
namespace Go.Proofs.YtpdhipjeobchfaaGreat
open Go.RowKit Go.Shelf

theorem FaRel.of_err {s : Sb} {id E : Int} (h : faceE0 s id = E) (hE : E ≠ 0) : FaRel s id E 0 := ⟨fun _ => ⟨h.symm, rfl⟩, fun h0 => absurd (h.symm.trans h0) hE⟩
theorem fcAt_some {rs : List Fc} {k : Nat} (h : k < rs.length) : rs[k]? = some (fcAt rs k) := by
  unfold fcAt
  rw [List.getD_eq_getElem?_getD, List.getElem?_eq_getElem h]
  rfl
theorem FaRel.of_give {s : Sb} {id E y : Int} (h : faceE0 s id = 0) (g : GiveOr s E y) : FaRel s id E y := ⟨fun h0 => absurd h h0, fun _ => g⟩

set_option maxRecDepth 100000 in
set_option maxHeartbeats 6400000 in
theorem faceVpc_any (vid : Int) (rx : Option Addr) (rn rc : Nat) (rs : List Rg) (sx : Option Addr) (sn sc : Nat) (ss : List Sb) (sub id : Int) (w : World) (hv : Vp w rx rn rc rs sx sn sc ss) (hrn : rn ≤ 9223372036854775807) (hsn : sn ≤ 9223372036854775807) :
    Calls Tryz.prog 21 #[.agg #[.int .i64 vid, .slice rx rn rc, .slice sx sn sc], .int .i64 sub, .int .i64 id] w (VAPost (FaceA vid rn rs sn ss sub id) (FaceR vid rn rs sn ss sub id) w) := by
  have hsl : Hid (ss.length = sn) := hv.subs.len
  go_enter Tryz.func21, Tryz.ntmps21
  go_upto_region 1 with fail
  obtain ⟨w0, hw0⟩ : ∃ w0, w0 = (w.alloc (vpB vid (.slice rx rn rc) (.slice sx sn sc))).alloc (vpB 0 (.slice none 0 0) (.slice none 0 0)) := ⟨_, rfl⟩
  rw [← hw0]
  have hT0 : TN w w0 vid rx rn rc sx sn sc := by
    rw [hw0]
    exact ⟨heap_old _ (heap_new _ rfl), heap_new _ (by simp), bl2 w _ _⟩
  clear hw0
  have b0 : w0.cell? ⟨w.heap.size, 0, none⟩ = some (.int .i64 vid) := (box_cells hT0.hb).1 0
  have b1 : w0.cell? ⟨w.heap.size, 1, none⟩ = some (.slice rx rn rc) := (box_cells hT0.hb).1 1
  have b2 : w0.cell? ⟨w.heap.size, 2, none⟩ = some (.slice sx sn sc) := (box_cells hT0.hb).1 2
  have s0 : w0.cell? ⟨w.heap.size + 1, 0, none⟩ = some (.int .i64 0) := (box_cells hT0.hs).1 0
  have zs0 : w0.frozen? ⟨w.heap.size + 1, 0, none⟩ = false := (box_cells hT0.hs).2 0
  have s1 : w0.cell? ⟨w.heap.size + 1, 1, none⟩ = some (.slice none 0 0) := (box_cells hT0.hs).1 1
  have zs1 : w0.frozen? ⟨w.heap.size + 1, 1, none⟩ = false := (box_cells hT0.hs).2 1
  have s2 : w0.cell? ⟨w.heap.size + 1, 2, none⟩ = some (.slice none 0 0) := (box_cells hT0.hs).1 2
  have zs2 : w0.frozen? ⟨w.heap.size + 1, 2, none⟩ = false := (box_cells hT0.hs).2 2
  by_cases hc0 : chkV vid rn rs sn ss = 0
  · have hck := checkVpc_is vid rx rn rc rs sx sn sc ss 0 hc0 w0 (hv.later hT0.below) hrn hsn
    obtain ⟨f1, f2, f3, f4⟩ := chkV_few hc0
    have hcs := chkV_sub hc0
    have hris : Hid (∀ i, i < sn → riseFB (sbAt ss i).fs = true) := fun i hi => chkV_rise hc0 i hi
    have hA0 : Hid (∀ i y, SubAt sn ss sub i → ∀ {E}, FaRel (sbAt ss i) id E y → FaceA vid rn rs sn ss sub id E y) := fun i y h1 E h2 => by
      unfold FaceA
      rw [if_neg (by simp [hc0])]
      exact .inr ⟨i, h1, h2⟩
    have hA5 : Hid ((∀ i, i < sn → (sbAt ss i).id ≠ sub) → FaceA vid rn rs sn ss sub id 5 0) := fun h => by
      unfold FaceA
      rw [if_neg (by simp [hc0])]
      exact .inl ⟨h, rfl, rfl⟩
    have hcz : Hid (chkV vid rn rs sn ss = 0) := hc0
    clear hc0
    go_wp2_with fail
    refine (hck).mono ?_
    rintro e w1 ⟨rfl, hbw1⟩
    have hT1 := hT0.later hbw1
    clear b0 b1 b2 s0 zs0 s1 zs1 s2 zs2
    have b0 : w1.cell? ⟨w.heap.size, 0, none⟩ = some (.int .i64 vid) := (box_cells hT1.hb).1 0
    have b1 : w1.cell? ⟨w.heap.size, 1, none⟩ = some (.slice rx rn rc) := (box_cells hT1.hb).1 1
    have b2 : w1.cell? ⟨w.heap.size, 2, none⟩ = some (.slice sx sn sc) := (box_cells hT1.hb).1 2
    have s0 : w1.cell? ⟨w.heap.size + 1, 0, none⟩ = some (.int .i64 0) := (box_cells hT1.hs).1 0
    have zs0 : w1.frozen? ⟨w.heap.size + 1, 0, none⟩ = false := (box_cells hT1.hs).2 0
    have s1 : w1.cell? ⟨w.heap.size + 1, 1, none⟩ = some (.slice none 0 0) := (box_cells hT1.hs).1 1
    have zs1 : w1.frozen? ⟨w.heap.size + 1, 1, none⟩ = false := (box_cells hT1.hs).2 1
    have s2 : w1.cell? ⟨w.heap.size + 1, 2, none⟩ = some (.slice none 0 0) := (box_cells hT1.hs).1 2
    have zs2 : w1.frozen? ⟨w.heap.size + 1, 2, none⟩ = false := (box_cells hT1.hs).2 2
    have hsp := fun t h => subAt_is vid sub rx rn rc sx sn sc ss t h w1 (hv.later hT1.below).subs (by omega)
    rcases fstAt_cases sn (fun i => (sbAt ss i).id == sub) with ⟨i, hi, hf, hno, hfp⟩ | ⟨hno, hfp⟩
    · have hsp' := hsp _ hfp
      clear hsp hfp
      have hSA : Hid (SubAt sn ss sub i) := ⟨hi, by simpa using hf, fun j hj => by simpa using hno j hj⟩
      clear hf hno
      have hi' : Hid (i < sn) := hi
      have hn8 := f3 i hi
      obtain ⟨b, o, rfl, c0, c1, c2, c3⟩ := hv.subs.cells i hi
      go_wp2_with fail
      refine (hsp').mono ?_
      rintro e w2 ⟨rfl, hbw2⟩
      have hT2 := hT1.later hbw2
      clear b0 b1 b2 s0 zs0 s1 zs1 s2 zs2
      have b0 : w2.cell? ⟨w.heap.size, 0, none⟩ = some (.int .i64 vid) := (box_cells hT2.hb).1 0
      have b1 : w2.cell? ⟨w.heap.size, 1, none⟩ = some (.slice rx rn rc) := (box_cells hT2.hb).1 1
      have b2 : w2.cell? ⟨w.heap.size, 2, none⟩ = some (.slice (some ⟨b, o, none⟩) sn sc) := (box_cells hT2.hb).1 2
      have s0 : w2.cell? ⟨w.heap.size + 1, 0, none⟩ = some (.int .i64 0) := (box_cells hT2.hs).1 0
      have zs0 : w2.frozen? ⟨w.heap.size + 1, 0, none⟩ = false := (box_cells hT2.hs).2 0
      have s1 : w2.cell? ⟨w.heap.size + 1, 1, none⟩ = some (.slice none 0 0) := (box_cells hT2.hs).1 1
      have zs1 : w2.frozen? ⟨w.heap.size + 1, 1, none⟩ = false := (box_cells hT2.hs).2 1
      have s2 : w2.cell? ⟨w.heap.size + 1, 2, none⟩ = some (.slice none 0 0) := (box_cells hT2.hs).1 2
      have zs2 : w2.frozen? ⟨w.heap.size + 1, 2, none⟩ = false := (box_cells hT2.hs).2 2
      have i0 : (0 : Int) ≤ i := by omega
      have i1 : (i : Int) < sn := by omega
      have d0 := cell_later hT2.below c0
      have d1 := cell_later hT2.below c1
      have d2 := cell_later hT2.below c2
      have d3 := cell_later hT2.below c3
      have hle := leastR_any (sbAt ss i) w2 (hcs i hi).1 ((hv.later hT2.below).subs.faces i hi).2.2 (by omega) (fun j hj => by have := f4 i hi j hj; omega)
      go_wp2_with fail
      refine hle.mono ?_
      rintro e w3 ⟨hb3, hgg⟩
      obtain ⟨y, rfl, hLy⟩ : ∃ y, e = .returned (.int .i64 y) ∧ Hid ((0 ≤ y ∧ Least (sbAt ss i) y) ∨ (y = -1 ∧ ∀ z, usB (sbAt ss i).a (sbAt ss i).l z = true → z ∈ allNs (sbAt ss i).fs)) := by
        rcases hgg with ⟨y, rfl, h1, h2⟩ | ⟨rfl, h1⟩
        · exact ⟨y, rfl, .inl ⟨h1, h2⟩⟩
        · exact ⟨-1, rfl, .inr ⟨rfl, h1⟩⟩
      have hT3 := hT2.later hb3
      clear hle hgg d0 d1 d2 d3
      clear b0 b1 b2 s0 zs0 s1 zs1 s2 zs2
      have b0 : w3.cell? ⟨w.heap.size, 0, none⟩ = some (.int .i64 vid) := (box_cells hT3.hb).1 0
      have b1 : w3.cell? ⟨w.heap.size, 1, none⟩ = some (.slice rx rn rc) := (box_cells hT3.hb).1 1
      have b2 : w3.cell? ⟨w.heap.size, 2, none⟩ = some (.slice (some ⟨b, o, none⟩) sn sc) := (box_cells hT3.hb).1 2
      have s0 : w3.cell? ⟨w.heap.size + 1, 0, none⟩ = some (.int .i64 0) := (box_cells hT3.hs).1 0
      have zs0 : w3.frozen? ⟨w.heap.size + 1, 0, none⟩ = false := (box_cells hT3.hs).2 0
      have s1 : w3.cell? ⟨w.heap.size + 1, 1, none⟩ = some (.slice none 0 0) := (box_cells hT3.hs).1 1
      have zs1 : w3.frozen? ⟨w.heap.size + 1, 1, none⟩ = false := (box_cells hT3.hs).2 1
      have s2 : w3.cell? ⟨w.heap.size + 1, 2, none⟩ = some (.slice none 0 0) := (box_cells hT3.hs).1 2
      have zs2 : w3.frozen? ⟨w.heap.size + 1, 2, none⟩ = false := (box_cells hT3.hs).2 2
      have d0 := cell_later hT3.below c0
      have d1 := cell_later hT3.below c1
      have d2 := cell_later hT3.below c2
      have d3 := cell_later hT3.below c3
      cases hwi : wth id 1 65536 with
      | false =>
        have hR : Hid (FaRel (sbAt ss i) id 3 0) := FaRel.of_err (by unfold faceE0; rw [if_pos hwi]) (by decide)
        have hwj := within_at id 1 65536 false hwi w3
        clear hwi
        go_wp2_with fail
        refine hwj.mono ?_
        rintro e w4 ⟨rfl, rfl⟩
        clear hwj d0 d1 d2 d3
        go_wp2
        refine bodyPost_ret (v := .tuple #[.agg #[.int .i64 0, .slice none 0 0, .slice none 0 0], .int .i64 0, .int .i64 3]) (by simp [results, Tryz.results21, go_sem, s0, s1, s2]) rfl ?_
        exact VAPost.err (hA0.out i 0 hSA.out hR.out) (by decide) (((hT3.below.setCell (p := ⟨w.heap.size + 1, 0, none⟩) (Nat.le_add_right _ _) _).setCell (p := ⟨w.heap.size + 1, 1, none⟩) (Nat.le_add_right _ _) _).setCell (p := ⟨w.heap.size + 1, 2, none⟩) (Nat.le_add_right _ _) _)
      | true =>
        have hwj := within_at id 1 65536 true hwi w3
        go_wp2_with fail
        refine hwj.mono ?_
        rintro e w4 ⟨rfl, rfl⟩
        clear hwj
        have hfa := fun t h => faceAt_is (sbAt ss i) id t h w4 ((hv.later hT3.below).subs.faces i hi).2.2 (by omega)
        rcases fstAt_cases (sbAt ss i).n (fun j => (fcAt (sbAt ss i).fs j).id == id) with ⟨j, hj, hjf, hjno, hjp⟩ | ⟨hjno, hjp⟩
        · have hfa' := hfa _ hjp
          have hR : Hid (FaRel (sbAt ss i) id 6 0) := FaRel.of_err (by unfold faceE0; rw [if_neg (by rw [hwi]; decide), if_pos (by rw [hjp]; omega)]) (by decide)
          have j0 : (0 : Int) ≤ j := by omega
          clear hfa hjp hjno hjf hwi
          go_wp2_with fail
          refine hfa'.mono ?_
          rintro e w5 ⟨rfl, hb5⟩
          have hT5 := hT3.later hb5
          clear d0 d1 d2 d3
          clear b0 b1 b2 s0 zs0 s1 zs1 s2 zs2
          have b0 : w5.cell? ⟨w.heap.size, 0, none⟩ = some (.int .i64 vid) := (box_cells hT5.hb).1 0
          have b1 : w5.cell? ⟨w.heap.size, 1, none⟩ = some (.slice rx rn rc) := (box_cells hT5.hb).1 1
          have b2 : w5.cell? ⟨w.heap.size, 2, none⟩ = some (.slice (some ⟨b, o, none⟩) sn sc) := (box_cells hT5.hb).1 2
          have s0 : w5.cell? ⟨w.heap.size + 1, 0, none⟩ = some (.int .i64 0) := (box_cells hT5.hs).1 0
          have zs0 : w5.frozen? ⟨w.heap.size + 1, 0, none⟩ = false := (box_cells hT5.hs).2 0
          have s1 : w5.cell? ⟨w.heap.size + 1, 1, none⟩ = some (.slice none 0 0) := (box_cells hT5.hs).1 1
          have zs1 : w5.frozen? ⟨w.heap.size + 1, 1, none⟩ = false := (box_cells hT5.hs).2 1
          have s2 : w5.cell? ⟨w.heap.size + 1, 2, none⟩ = some (.slice none 0 0) := (box_cells hT5.hs).1 2
          have zs2 : w5.frozen? ⟨w.heap.size + 1, 2, none⟩ = false := (box_cells hT5.hs).2 2
          go_wp2
          refine bodyPost_ret (v := .tuple #[.agg #[.int .i64 0, .slice none 0 0, .slice none 0 0], .int .i64 0, .int .i64 6]) (by simp [results, Tryz.results21, go_sem, s0, s1, s2]) rfl ?_
          exact VAPost.err (hA0.out i 0 hSA.out hR.out) (by decide) (((hT5.below.setCell (p := ⟨w.heap.size + 1, 0, none⟩) (Nat.le_add_right _ _) _).setCell (p := ⟨w.heap.size + 1, 1, none⟩) (Nat.le_add_right _ _) _).setCell (p := ⟨w.heap.size + 1, 2, none⟩) (Nat.le_add_right _ _) _)
        · have hfa' := hfa _ hjp
          have hE0 : Hid (faceE0 (sbAt ss i) id = if (sbAt ss i).n = 8 then 2 else 0) := by unfold Hid faceE0; rw [if_neg (by rw [hwi]; decide), if_neg (by rw [hjp]; omega)]
          clear hfa hjp hwi
          go_wp2_with fail
          refine hfa'.mono ?_
          rintro e wf ⟨rfl, hbf⟩
          have hTf := hT3.later hbf
          clear d0 d1 d2 d3 hfa'
          clear b0 b1 b2 s0 zs0 s1 zs1 s2 zs2
          have b0 : wf.cell? ⟨w.heap.size, 0, none⟩ = some (.int .i64 vid) := (box_cells hTf.hb).1 0
          have b1 : wf.cell? ⟨w.heap.size, 1, none⟩ = some (.slice rx rn rc) := (box_cells hTf.hb).1 1
          have b2 : wf.cell? ⟨w.heap.size, 2, none⟩ = some (.slice (some ⟨b, o, none⟩) sn sc) := (box_cells hTf.hb).1 2
          have s0 : wf.cell? ⟨w.heap.size + 1, 0, none⟩ = some (.int .i64 0) := (box_cells hTf.hs).1 0
          have zs0 : wf.frozen? ⟨w.heap.size + 1, 0, none⟩ = false := (box_cells hTf.hs).2 0
          have s1 : wf.cell? ⟨w.heap.size + 1, 1, none⟩ = some (.slice none 0 0) := (box_cells hTf.hs).1 1
          have zs1 : wf.frozen? ⟨w.heap.size + 1, 1, none⟩ = false := (box_cells hTf.hs).2 1
          have s2 : wf.cell? ⟨w.heap.size + 1, 2, none⟩ = some (.slice none 0 0) := (box_cells hTf.hs).1 2
          have zs2 : wf.frozen? ⟨w.heap.size + 1, 2, none⟩ = false := (box_cells hTf.hs).2 2
          have d0 := cell_later hTf.below c0
          have d1 := cell_later hTf.below c1
          have d2 := cell_later hTf.below c2
          have d3 := cell_later hTf.below c3
          by_cases h8 : (sbAt ss i).n = 8
          · have hR : Hid (FaRel (sbAt ss i) id 2 0) := FaRel.of_err (hE0.out.trans (if_pos h8)) (by decide)
            have h8' : (8 : Int) ≤ (sbAt ss i).n := by omega
            clear h8 d0 d1 d2
            go_wp2
            refine bodyPost_ret (v := .tuple #[.agg #[.int .i64 0, .slice none 0 0, .slice none 0 0], .int .i64 0, .int .i64 2]) (by simp [results, Tryz.results21, go_sem, s0, s1, s2]) rfl ?_
            exact VAPost.err (hA0.out i 0 hSA.out hR.out) (by decide) (((hTf.below.setCell (p := ⟨w.heap.size + 1, 0, none⟩) (Nat.le_add_right _ _) _).setCell (p := ⟨w.heap.size + 1, 1, none⟩) (Nat.le_add_right _ _) _).setCell (p := ⟨w.heap.size + 1, 2, none⟩) (Nat.le_add_right _ _) _)
          · have hF0 : Hid (faceE0 (sbAt ss i) id = 0) := hE0.out.trans (if_neg h8)
            have h8' : ¬ (8 : Int) ≤ (sbAt ss i).n := by omega
            rcases hLy.out with ⟨hy0, hL⟩ | ⟨rfl, hfull⟩
            · have hrel : Hid (FaRel (sbAt ss i) id 0 y) := FaRel.of_give hF0.out (.inl ⟨rfl, hL⟩)
              have hy1 : ¬ y < 0 := by omega
              clear hLy hL
              have hown := ownVpc_any vid rx rn rc rs (some ⟨b, o, none⟩) sn sc ss wf (hv.later hTf.below) (by omega) (by omega) (fun i hi => by have := f3 i hi; omega) (fun i hi j hj => by have := f4 i hi j hj; omega)
              go_wp2_with fail
              refine hown.mono ?_
              rintro e w5 ⟨vR, vS, ts, rfl, hOR, hss, hOS, hb5⟩
              clear hown d0 d1 d2 d3 h8'
              have hT5 := hTf.later hb5
              have htl : Hid (ts.length = sn) := by unfold Hid; rw [← hss.1]; exact hsl.out
              have hit : i < ts.length := by rw [htl.out]; exact hi
              have hsi := hss.2 i (by rw [hss.1]; exact hit)
              obtain ⟨xr, cr, rfl, -⟩ := hOR.rs
              obtain ⟨g, cap, hg5, cur, hgh, hvS⟩ : ∃ g cap, wf.heap.size ≤ g ∧ ∃ cur, w5.heap[g]? = some (.cells cur 55) ∧ vS = .slice (some ⟨g, 0, none⟩) ts.length cap := by
                obtain ⟨x2, c2, hv2, -⟩ := hOS.row.mem
                rcases hOS.row.2 with ⟨hv', -⟩ | ⟨g, cap, cur, hv', hg1, hg2, -⟩
                · rw [hv'] at hv2; simp only [Value.slice.injEq] at hv2; omega
                · exact ⟨g, cap, hg1, cur, hg2, hv'⟩
              subst hvS
              have hgl : g < w5.heap.size := (Array.getElem?_eq_some_iff.1 hgh).1
              clear b0 b1 b2 s0 zs0 s1 zs1 s2 zs2
              go_upto_region 17 with fail
              obtain ⟨w6, hw6⟩ : ∃ w6, w6 = w5.alloc (vpB vid (.slice xr rs.length cr) (.slice (some ⟨g, 0, none⟩) ts.length cap)) := ⟨_, rfl⟩
              rw [← hw6]
              have hb56 : Below w5.heap.size w5 w6 := by rw [hw6]; exact bl1 _ _
              have hn6 : w6.heap[w5.heap.size]? = some (vpB vid (.slice xr rs.length cr) (.slice (some ⟨g, 0, none⟩) ts.length cap)) := by rw [hw6]; exact heap_new _ rfl
              have hs6 : Hid (w6.heap.size = w5.heap.size + 1) := by unfold Hid; rw [hw6]; simp
              clear hw6
              have hb2f : w2.heap.size ≤ wf.heap.size := Nat.le_trans hb3.size hbf.size
              have hT6 := hT5.later hb56
              have hg6 := heap_later hb56 hgh
              have hOR6 := OwnR.later (hOR.low (base' := w2.heap.size) hb2f) hb56
              have hOS6 := OSs.later (hOS.low (base' := w2.heap.size) hb2f) hb56
              obtain ⟨hfS, hfl, hfc, hfm⟩ := (hOS6.own i hit).fcs
              have hn8' : (sbAt ts i).n ≤ 8 := by rw [← hsi.2.2.2.1]; exact hn8
              have hfl' : Hid ((sbAt ts i).fs.length = (sbAt ts i).n) := hfl
              have n2 : w6.cell? ⟨w5.heap.size, 2, none⟩ = some (.slice (some ⟨g, 0, none⟩) ts.length cap) := (box_cells hn6).1 2
              have d3 : w6.cell? ⟨g, i * 4 + 3, none⟩ = some (.slice (sbAt ts i).x (sbAt ts i).n (sbAt ts i).c) := by
                obtain ⟨x2, c2, he2, -, -, -, hm'⟩ := hOS6.row.mem
                simp only [Value.slice.injEq] at he2
                obtain ⟨b2, o2, he3, -, -, -, c8⟩ := hm' i hit
                rw [← he2.1] at he3
                simp only [Option.some.injEq, Addr.mk.injEq] at he3
                obtain ⟨rfl, rfl, -⟩ := he3
                simpa using c8
              have i1' : (i : Int) < ts.length := by omega
              have hsz1 : w.heap.size + 1 < w2.heap.size := (Array.getElem?_eq_some_iff.1 hT2.hs).1
              have hb26 : w2.heap.size ≤ w6.heap.size := by have := hb5.size; have := hb56.size; omega
              have hgf6 : g < w6.heap.size := Nat.lt_of_lt_of_le hgl hb56.size
              have hqq : w2.heap.size ≤ g := by omega
              have hbog : w5.heap.size ≠ g := by omega
              clear hfc hfm hfS hfl
              go_upto_region 18 with fail
              go_wp2_with (at_builtin; refine Hid.out ?_)
              unfold Hid
              obtain ⟨wB, hwB⟩ : ∃ wB, wB = (w6.alloc (.cells #[.int .i64 y] 3)).alloc (.cells #[.int .i64 id, .slice (some ⟨w6.heap.size, 0, none⟩) 1 1] 68) := ⟨_, rfl⟩
              have hbB : Below w6.heap.size w6 wB := by rw [hwB]; exact bl2 w6 _ _
              have hcB : wB.heap[w6.heap.size + 1]? = some (.cells #[.int .i64 id, .slice (some ⟨w6.heap.size, 0, none⟩) 1 1] 68) := by rw [hwB]; exact heap_new _ (by simp)
              have hiB : wB.heap[w6.heap.size]? = some (.cells #[.int .i64 y] 3) := by rw [hwB]; exact heap_old _ (heap_new _ rfl)
              rw [← hwB]
              refine wpList_append_Fat rfl _ _ rfl w2.heap.size (.slice (sbAt ts i).x (sbAt ts i).n (sbAt ts i).c) (sbAt ts i).fs rfl (OwnF.later (hOS6.own i hit).row hbB) ⟨w6.heap.size + 1, 0, none⟩ 1 1 [(⟨id, some ⟨w6.heap.size, 0, none⟩, 1, 1, [y]⟩ : Fc)] rfl rfl ?_ (by rw [hfl'.out]; omega) (Nat.le_trans hb26 hbB.size) ?_
              · intro q u hq
                rw [addr_add, Nat.zero_add]
                exact ((box_cells hcB).1 q).trans (by rw [List.getElem?_toArray]; exact hq)
              intro v9 w9 hF9 hg9 hat
              obtain ⟨f', hf'⟩ : ∃ f', Hid (f' = (⟨id, some ⟨w6.heap.size, 0, none⟩, 1, 1, [y]⟩ : Fc)) := ⟨_, rfl⟩
              rw [← hf'.out] at hF9
              obtain ⟨gf, cf, c9, hgf9, hv9⟩ : ∃ gf cf c9, w9.heap[gf]? = some (.cells c9 68) ∧ v9 = .slice (some ⟨gf, 0, none⟩) ((sbAt ts i).n + 1) cf := by
                rcases hF9.2 with ⟨-, hv'⟩ | ⟨gf, cf, c9, hv', -, h2, -⟩
                · simp at hv'
                · exact ⟨gf, cf, c9, h2, by rw [hv']; simp [hfl'.out]⟩
              subst hv9
              have hW0 : FcW w (w9.setCell ⟨g, i * 4 + 3, none⟩ (.slice (some ⟨gf, 0, none⟩) ((sbAt ts i).n + 1) cf)) w2.heap.size w5.heap.size g cap gf ((sbAt ts i).n + 1) cf i vid (.slice xr rs.length cr) rs ts ((sbAt ts i).fs ++ [f']) := FcW.start hit hsz1 (OSs.later hOS6 hbB) (heap_later hbB hn6) (heap_later hbB hT6.hs) (hT6.later hbB).below (OwnR.later hOR6 hbB) (heap_later hbB hg6) hbog hqq (by rw [hf'.out]; exact ownI_one hiB hb26) hF9 hg9 hat
              have e1 : w9.cell? ⟨g, i * 4 + 3, none⟩ = some (.slice (sbAt ts i).x (sbAt ts i).n (sbAt ts i).c) := by
                have h1 := (grown_keep hg9 ((OwnF.later (hOS6.own i hit).row hbB).ne (heap_later hbB hg6) (by decide)) (heap_later hbB hg6))
                exact (cell_of_heap (h1.trans hg6.symm)).trans d3
              have z1 : w9.frozen? ⟨g, i * 4 + 3, none⟩ = false := by
                have h1 := (grown_keep hg9 ((OwnF.later (hOS6.own i hit).row hbB).ne (heap_later hbB hg6) (by decide)) (heap_later hbB hg6))
                simp [World.frozen?, h1]
              clear hg9 hF9 hat d3 n2 hgf9
              go_upto_region 19 with fail
              obtain ⟨wL, hwL⟩ : ∃ wL, wL = w9.setCell ⟨g, i * 4 + 3, none⟩ (.slice (some ⟨gf, 0, none⟩) ((sbAt ts i).n + 1) cf) := ⟨_, rfl⟩
              rw [← hwL] at hW0 ⊢
              clear hwL e1 z1
              have k3 : wL.cell? ⟨g, i * 4 + 3, none⟩ = some (.slice (some ⟨gf, 0, none⟩) ((sbAt ts i).n + 1) cf) := hW0.sub hit
              have hlen0 : Hid ((sbAt ts i).n = (sbAt ts i).fs.length) := hfl'.out.symm
              obtain ⟨n0, hn0⟩ : ∃ n0, n0 = (sbAt ts i).n := ⟨_, rfl⟩
              have hn0' : Hid (n0 = (sbAt ts i).fs.length) := by unfold Hid; rw [hn0]; exact hlen0.out
              have hW1 : FcW w wL w2.heap.size w5.heap.size g cap gf (n0 + 1) cf i vid (.slice xr rs.length cr) rs ts ((sbAt ts i).fs.take n0 ++ [f'] ++ (sbAt ts i).fs.drop n0) := by
                have e := hn0'.out
                rw [e, List.take_length, List.drop_length, List.append_nil, ← e, hn0]
                exact hW0
              rw [← hn0] at k3 hn8'
              clear hW0 hn0
              go_wp2
              go_loopw [14] (fun kv wr => ∃ k : Nat, kv = .int .i64 k ∧ k ≤ n0 ∧ FcW w wr w2.heap.size w5.heap.size g cap gf (n0 + 1) cf i vid (.slice xr rs.length cr) rs ts ((sbAt ts i).fs.take k ++ [f'] ++ (sbAt ts i).fs.drop k) ∧ Hid (∀ j, k ≤ j → j < n0 → id < (fcAt (sbAt ts i).fs j).id)) (fun kv _ => (intOf kv).toNat)
              case atStart => exact ⟨n0, by simp, Nat.le_refl _, hW1, fun j h1 h2 => by omega⟩
              case round =>
                clear hW1 k3
                obtain ⟨k, rfl, hkn, hW, hgt⟩ := hrel
                have k3 : wr.cell? ⟨g, i * 4 + 3, none⟩ = some (.slice (some ⟨gf, 0, none⟩) (n0 + 1) cf) := hW.sub hit
                have hcl : Hid ((((sbAt ts i).fs.take k ++ [f'] ++ (sbAt ts i).fs.drop k)).length = n0 + 1) := by unfold Hid; have := hn0'.out; simp; omega
                have m0 : wr.cell? ⟨w5.heap.size, 0, none⟩ = some (.int .i64 vid) := (box_cells hW.ho).1 0
                have m1 : wr.cell? ⟨w5.heap.size, 1, none⟩ = some (.slice xr rs.length cr) := (box_cells hW.ho).1 1
                have m2 : wr.cell? ⟨w5.heap.size, 2, none⟩ = some (.slice (some ⟨g, 0, none⟩) ts.length cap) := (box_cells hW.ho).1 2
                have hids : Hid (∀ j, j < n0 → (fcAt (sbAt ts i).fs j).id = (fcAt (sbAt ss i).fs j).id) := fun j hj => ((hsi.2.2.2.2.2 j (by rw [hsi.2.2.2.2.1, ← hn0'.out]; exact hj)).1).symm
                have hfid : f'.id = id := by rw [hf'.out]
                cases k with
                | zero =>
                  have hput : Hid (PutFc (⟨id, some ⟨w6.heap.size, 0, none⟩, 1, 1, [y]⟩ : Fc) (sbAt ts i).fs ((sbAt ts i).fs.take 0 ++ [f'] ++ (sbAt ts i).fs.drop 0)) := ⟨0, Nat.zero_le _, fun j hj => by omega, fun h => hgt.out 0 (Nat.zero_le _) (by rw [hn0'.out]; exact h), by rw [hf'.out]⟩
                  go_upto_region 20 with fail
                  have a3 := Ws.here k3
                  refine wp_region_ws wr.heap.size (by kernel_rfl) (by kernel_rfl) ?_
                  repeat (go_big_quiet_step (fail))
                  refine wpQuiet_nil ?_
                  rintro _ ⟨u, rfl⟩
                  have hbu := u.property
                  generalize u.val = wu at hbu ⊢
                  clear u a3
                  clear k3 m0 m1 m2
                  have hWu := hW.later hbu
                  have m0 : wu.cell? ⟨w5.heap.size, 0, none⟩ = some (.int .i64 vid) := (box_cells hWu.ho).1 0
                  have m1 : wu.cell? ⟨w5.heap.size, 1, none⟩ = some (.slice xr rs.length cr) := (box_cells hWu.ho).1 1
                  have m2 : wu.cell? ⟨w5.heap.size, 2, none⟩ = some (.slice (some ⟨g, 0, none⟩) ts.length cap) := (box_cells hWu.ho).1 2
                  have s0 : wu.cell? ⟨w.heap.size + 1, 0, none⟩ = some (.int .i64 0) := (box_cells hWu.hs).1 0
                  have s1 : wu.cell? ⟨w.heap.size + 1, 1, none⟩ = some (.slice none 0 0) := (box_cells hWu.hs).1 1
                  have s2 : wu.cell? ⟨w.heap.size + 1, 2, none⟩ = some (.slice none 0 0) := (box_cells hWu.hs).1 2
                  have zs0 := (box_cells hWu.hs).2 0
                  have zs1 := (box_cells hWu.hs).2 1
                  have zs2 := (box_cells hWu.hs).2 2
                  go_wp2
                  refine bodyPost_ret (v := .tuple #[.agg #[.int .i64 vid, .slice xr rs.length cr, .slice (some ⟨g, 0, none⟩) ts.length cap], .int .i64 y, .int .i64 0]) (by simp [results, Tryz.results21, go_sem, s0, s1, s2]) rfl ?_
                  exact VAPost.ok (hA0.out i y hSA.out hrel.out) (((hWu.below.setCell (p := ⟨w.heap.size + 1, 0, none⟩) (Nat.le_add_right _ _) _).setCell (p := ⟨w.heap.size + 1, 1, none⟩) (Nat.le_add_right _ _) _).setCell (p := ⟨w.heap.size + 1, 2, none⟩) (Nat.le_add_right _ _) _) ⟨hcz.out, ts, i, some ⟨gf, 0, none⟩, n0 + 1, cf, _, _, hSA.out, hrel.out, hss, hput.out, hcl.out.symm, hWu.res hsz1⟩
                | succ q =>
                  have hql : q < (sbAt ts i).fs.length := by rw [← hn0'.out]; omega
                  obtain ⟨y0, y1, y2, y3⟩ := hW.cells q (by rw [hcl.out]; omega)
                  obtain ⟨v0, v1, v2, v3⟩ := hW.cells (q + 1) (by rw [hcl.out]; omega)
                  rw [fcAt_ins hql, if_pos (Nat.lt_succ_self q)] at y0 y1
                  rw [fcAt_ins hql, if_neg (Nat.lt_irrefl _), if_pos rfl] at v0 v1
                  rw [hfid] at v0
                  have q0 : (0 : Int) ≤ q := by omega
                  have q1 : (q : Int) < (n0 : Int) + 1 := by omega
                  have q2 : (q : Int) + 1 < (n0 : Int) + 1 := by omega
                  have q3 : (0 : Int) ≤ (q : Int) + 1 := by omega
                  have q4 : (0 : Int) < (q : Int) + 1 := by omega
                  have qw : IntKind.i64.wrap ((q : Int)) = (q : Int) := by rw [IntKind.wrap_i64]; omega
                  by_cases hsw : id < (fcAt (sbAt ts i).fs q).id
                  · go_upto_region 20 with fail
                    have a3 := Ws.here k3
                    have a4 := Ws.here y0
                    have a5 := Ws.here v0
                    refine wp_region_ws wr.heap.size (by kernel_rfl) (by kernel_rfl) ?_
                    repeat (go_big_quiet_step (fail))
                    refine wpQuiet_nil ?_
                    rintro _ ⟨u, rfl⟩
                    have hbu := u.property
                    generalize u.val = wu at hbu ⊢
                    clear u a3 a4 a5
                    have hWu := hW.later hbu
                    clear y0 y1 y2 y3 v0 v1 v2 v3 k3 m0 m1 m2 hW
                    have k3 : wu.cell? ⟨g, i * 4 + 3, none⟩ = some (.slice (some ⟨gf, 0, none⟩) (n0 + 1) cf) := hWu.sub hit
                    obtain ⟨y0, y1, y2, y3⟩ := hWu.cells q (by rw [hcl.out]; omega)
                    obtain ⟨v0, v1, v2, v3⟩ := hWu.cells (q + 1) (by rw [hcl.out]; omega)
                    rw [fcAt_ins hql, if_pos (Nat.lt_succ_self q)] at y0 y1
                    rw [fcAt_ins hql, if_neg (Nat.lt_irrefl _), if_pos rfl] at v0 v1
                    rw [hfid] at v0
                    go_upto_region 22 with fail
                    go_cut [15, 16] (fun p r wc => ∃ bp bq, p = .pointer (some ⟨bp, 0, none⟩) ∧ r = .pointer (some ⟨bq, 0, none⟩) ∧ wc.heap[bp]? = some (.cells #[.int .i64 (fcAt (sbAt ts i).fs q).id, .slice (fcAt (sbAt ts i).fs q).x (fcAt (sbAt ts i).fs q).n (fcAt (sbAt ts i).fs q).c] 68) ∧ wc.heap[bq]? = some (.cells #[.int .i64 id, .slice f'.x f'.n f'.c] 68) ∧ Below wu.heap.size wu wc ∧ wu.heap.size ≤ bp ∧ wu.heap.size ≤ bq)
                    case first =>
                      go_region_held3 (fun w' => w'.cell? ⟨g, i * 4 + 3, none⟩ = some (.slice (some ⟨gf, 0, none⟩) (n0 + 1) cf) ∧ w'.cell? ⟨gf, q * 2, none⟩ = some (.int .i64 (fcAt (sbAt ts i).fs q).id) ∧ w'.cell? ⟨gf, q * 2 + 1, none⟩ = some (.slice (fcAt (sbAt ts i).fs q).x (fcAt (sbAt ts i).fs q).n (fcAt (sbAt ts i).fs q).c) ∧ w'.cell? ⟨gf, (q + 1) * 2, none⟩ = some (.int .i64 id) ∧ w'.cell? ⟨gf, (q + 1) * 2 + 1, none⟩ = some (.slice f'.x f'.n f'.c)) (first | (go_keep; done)) (fail)
                      · go_wp2
                        go_meet
                        case rel => exact ⟨wu.heap.size, wu.heap.size + 1, rfl, rfl, heap_old _ (heap_new _ rfl), heap_new _ (by simp), (bl2 wu _ _).drew, Nat.le_refl _, Nat.le_succ _⟩
                      · go_wp2
                        go_meet
                        case rel => exact ⟨wu.heap.size + 1, wu.heap.size, rfl, rfl, heap_new _ (by simp), heap_old _ (heap_new _ rfl), (bl2 wu _ _).drew, Nat.le_succ _, Nat.le_refl _⟩
                    case rest =>
                    obtain ⟨bp, bq, rfl, rfl, hbp, hbq, hbc, hbp0, hbq0⟩ := hcut
                    have hWc := hWu.later hbc
                    have hgfl : gf < wu.heap.size := by
                      obtain ⟨-, cc, hcc⟩ := hWu.fcs.block
                      exact (Array.getElem?_eq_some_iff.1 hcc).1
                    clear y0 y1 y2 y3 v0 v1 v2 v3 k3 hWu
                    have k3 := Ws.here (hWc.sub hit)
                    have p0 := Ws.here (show wc.cell? ⟨bq, 0, none⟩ = some (.int .i64 id) from (box_cells hbq).1 0)
                    have p1 := Ws.here (show wc.cell? ⟨bq, 1, none⟩ = some (.slice f'.x f'.n f'.c) from (box_cells hbq).1 1)
                    go_upto_region 23 with fail
                    refine wp_region_tail wc.heap.size 7 (by kernel_rfl) (by kernel_rfl) ?_
                    simp only [List.take_succ_cons, List.take_zero, List.drop_succ_cons, List.drop_zero]
                    repeat (go_big_quiet_step (fail))
                    refine wpQuiet_nil ?_
                    intro uu
                    have hbd := uu.property
                    generalize uu.val = wd at hbd ⊢
                    clear uu k3 p0 p1
                    have hWd := hWc.later hbd
                    have hbpd := heap_later hbd hbp
                    obtain ⟨y0, y1, y2, y3⟩ := hWd.cells q (by rw [hcl.out]; omega)
                    rw [fcAt_ins hql, if_pos (Nat.lt_succ_self q)] at y0 y1
                    go_upto_region 24 with fail
                    have hIq : OwnI wd w2.heap.size (.slice (fcAt (sbAt ts i).fs q).x (fcAt (sbAt ts i).fs q).n (fcAt (sbAt ts i).fs q).c) (fcAt (sbAt ts i).fs q).ns := hWd.ads _ (by rw [take_one (fcAt_some hql)]; simp)
                    have hIe := hWd.keepI (q := q * 2) (p := q * 2 + 1) (a := .int .i64 id) (b := .slice f'.x f'.n f'.c) hIq
                    have hWe := hWd.put hsz1 q (by rw [hcl.out]; omega) f' (hWd.ads _ (by simp))
                    rw [hfid] at hWe
                    obtain ⟨we, hwe⟩ : ∃ we, we = (wd.setCell ⟨gf, q * 2, none⟩ (.int .i64 id)).setCell ⟨gf, q * 2 + 1, none⟩ (.slice f'.x f'.n f'.c) := ⟨_, rfl⟩
                    rw [← hwe] at hWe hIe ⊢
                    have hbpe : we.heap[bp]? = some (.cells #[.int .i64 (fcAt (sbAt ts i).fs q).id, .slice (fcAt (sbAt ts i).fs q).x (fcAt (sbAt ts i).fs q).n (fcAt (sbAt ts i).fs q).c] 68) := by
                      rw [hwe]
                      exact (heap_setCell_other _ _ _ _ (by show bp ≠ gf; omega)).trans ((heap_setCell_other _ _ _ _ (by show bp ≠ gf; omega)).trans hbpd)
                    clear hwe y0 y1 y2 y3 hWd hWc hbpd
                    have hcl2 : Hid ((((sbAt ts i).fs.take (q + 1) ++ [f'] ++ (sbAt ts i).fs.drop (q + 1)).set q f').length = n0 + 1) := by unfold Hid; rw [List.length_set]; exact hcl.out
                    have k3 := Ws.here (hWe.sub hit)
                    have p0 := Ws.here (show we.cell? ⟨bp, 0, none⟩ = some (.int .i64 (fcAt (sbAt ts i).fs q).id) from (box_cells hbpe).1 0)
                    have p1 := Ws.here (show we.cell? ⟨bp, 1, none⟩ = some (.slice (fcAt (sbAt ts i).fs q).x (fcAt (sbAt ts i).fs q).n (fcAt (sbAt ts i).fs q).c) from (box_cells hbpe).1 1)
                    refine wp_region_tail we.heap.size 6 (by kernel_rfl) (by kernel_rfl) ?_
                    simp only [List.take_succ_cons, List.take_zero, List.drop_succ_cons, List.drop_zero]
                    repeat (go_big_quiet_step (fail))
                    refine wpQuiet_nil ?_
                    intro uu
                    have hbd2 := uu.property
                    generalize uu.val = wg at hbd2 ⊢
                    clear uu k3 p0 p1
                    have hWg := hWe.later hbd2
                    obtain ⟨y0, y1, y2, y3⟩ := hWg.cells (q + 1) (by rw [hcl2.out]; omega)
                    have hWh := hWg.put hsz1 (q + 1) (by rw [hcl2.out]; omega) (fcAt (sbAt ts i).fs q) (hIe.later hbd2)
                    rw [swap_ins hql] at hWh
                    go_wp2
                    go_roundw
                    case rel => exact ⟨q, by go_num, by omega, hWh, fun j h1 h2 => by
                      by_cases hj : j = q
                      · subst hj; exact hsw
                      · exact hgt.out j (by omega) h2⟩
                    case measure => simp [intOf]
                  · have hput : Hid (PutFc (⟨id, some ⟨w6.heap.size, 0, none⟩, 1, 1, [y]⟩ : Fc) (sbAt ts i).fs ((sbAt ts i).fs.take (q + 1) ++ [f'] ++ (sbAt ts i).fs.drop (q + 1))) := ⟨q + 1, hql, fun j hj => by
                      show ¬ id < (fcAt (sbAt ts i).fs j).id
                      by_cases hjq : j = q
                      · subst hjq; exact hsw
                      · have h1 := riseF_lt (hris.out i hi) j q (by omega) (by rw [hsi.2.2.2.2.1]; exact hql)
                        rw [← hids.out j (by omega), ← hids.out q (by omega)] at h1
                        omega, fun h => hgt.out (q + 1) (Nat.le_refl _) (by rw [hn0'.out]; exact h), by rw [hf'.out]⟩
                    go_upto_region 20 with fail
                    have a3 := Ws.here k3
                    have a4 := Ws.here y0
                    have a5 := Ws.here v0
                    refine wp_region_ws wr.heap.size (by kernel_rfl) (by kernel_rfl) ?_
                    repeat (go_big_quiet_step (fail))
                    refine wpQuiet_nil ?_
                    rintro _ ⟨u, rfl⟩
                    have hbu := u.property
                    generalize u.val = wu at hbu ⊢
                    clear u a3 a4 a5 y0 y1 y2 y3 v0 v1 v2 v3
                    clear k3 m0 m1 m2
                    have hWu := hW.later hbu
                    have m0 : wu.cell? ⟨w5.heap.size, 0, none⟩ = some (.int .i64 vid) := (box_cells hWu.ho).1 0
                    have m1 : wu.cell? ⟨w5.heap.size, 1, none⟩ = some (.slice xr rs.length cr) := (box_cells hWu.ho).1 1
                    have m2 : wu.cell? ⟨w5.heap.size, 2, none⟩ = some (.slice (some ⟨g, 0, none⟩) ts.length cap) := (box_cells hWu.ho).1 2
                    have s0 : wu.cell? ⟨w.heap.size + 1, 0, none⟩ = some (.int .i64 0) := (box_cells hWu.hs).1 0
                    have s1 : wu.cell? ⟨w.heap.size + 1, 1, none⟩ = some (.slice none 0 0) := (box_cells hWu.hs).1 1
                    have s2 : wu.cell? ⟨w.heap.size + 1, 2, none⟩ = some (.slice none 0 0) := (box_cells hWu.hs).1 2
                    have zs0 := (box_cells hWu.hs).2 0
                    have zs1 := (box_cells hWu.hs).2 1
                    have zs2 := (box_cells hWu.hs).2 2
                    go_wp2
                    refine bodyPost_ret (v := .tuple #[.agg #[.int .i64 vid, .slice xr rs.length cr, .slice (some ⟨g, 0, none⟩) ts.length cap], .int .i64 y, .int .i64 0]) (by simp [results, Tryz.results21, go_sem, s0, s1, s2]) rfl ?_
                    exact VAPost.ok (hA0.out i y hSA.out hrel.out) (((hWu.below.setCell (p := ⟨w.heap.size + 1, 0, none⟩) (Nat.le_add_right _ _) _).setCell (p := ⟨w.heap.size + 1, 1, none⟩) (Nat.le_add_right _ _) _).setCell (p := ⟨w.heap.size + 1, 2, none⟩) (Nat.le_add_right _ _) _) ⟨hcz.out, ts, i, some ⟨gf, 0, none⟩, n0 + 1, cf, _, _, hSA.out, hrel.out, hss, hput.out, hcl.out.symm, hWu.res hsz1⟩
            · have hrel : Hid (FaRel (sbAt ss i) id 8 0) := FaRel.of_give hF0.out (.inr ⟨rfl, rfl, hfull⟩)
              clear hfull hLy d0 d1 d2
              go_wp2
              refine bodyPost_ret (v := .tuple #[.agg #[.int .i64 0, .slice none 0 0, .slice none 0 0], .int .i64 0, .int .i64 8]) (by simp [results, Tryz.results21, go_sem, s0, s1, s2]) rfl ?_
              exact VAPost.err (hA0.out i 0 hSA.out hrel.out) (by decide) (((hTf.below.setCell (p := ⟨w.heap.size + 1, 0, none⟩) (Nat.le_add_right _ _) _).setCell (p := ⟨w.heap.size + 1, 1, none⟩) (Nat.le_add_right _ _) _).setCell (p := ⟨w.heap.size + 1, 2, none⟩) (Nat.le_add_right _ _) _)
    · have hsp' := hsp _ hfp
      have hno' : Hid (∀ i, i < sn → (sbAt ss i).id ≠ sub) := fun i hi => by simpa using hno i hi
      clear hfp hsp hno
      go_wp2_with fail
      refine (hsp').mono ?_
      rintro e w2 ⟨rfl, hbw2⟩
      have hT2 := hT1.later hbw2
      clear b0 b1 b2 s0 zs0 s1 zs1 s2 zs2
      have b0 : w2.cell? ⟨w.heap.size, 0, none⟩ = some (.int .i64 vid) := (box_cells hT2.hb).1 0
      have b1 : w2.cell? ⟨w.heap.size, 1, none⟩ = some (.slice rx rn rc) := (box_cells hT2.hb).1 1
      have b2 : w2.cell? ⟨w.heap.size, 2, none⟩ = some (.slice sx sn sc) := (box_cells hT2.hb).1 2
      have s0 : w2.cell? ⟨w.heap.size + 1, 0, none⟩ = some (.int .i64 0) := (box_cells hT2.hs).1 0
      have zs0 : w2.frozen? ⟨w.heap.size + 1, 0, none⟩ = false := (box_cells hT2.hs).2 0
      have s1 : w2.cell? ⟨w.heap.size + 1, 1, none⟩ = some (.slice none 0 0) := (box_cells hT2.hs).1 1
      have zs1 : w2.frozen? ⟨w.heap.size + 1, 1, none⟩ = false := (box_cells hT2.hs).2 1
      have s2 : w2.cell? ⟨w.heap.size + 1, 2, none⟩ = some (.slice none 0 0) := (box_cells hT2.hs).1 2
      have zs2 : w2.frozen? ⟨w.heap.size + 1, 2, none⟩ = false := (box_cells hT2.hs).2 2
      go_wp2
      refine bodyPost_ret (v := .tuple #[.agg #[.int .i64 0, .slice none 0 0, .slice none 0 0], .int .i64 0, .int .i64 5]) (by simp [results, Tryz.results21, go_sem, s0, s1, s2]) rfl ?_
      exact VAPost.err (hA5.out hno'.out) (by decide) (((hT2.below.setCell (p := ⟨w.heap.size + 1, 0, none⟩) (Nat.le_add_right _ _) _).setCell (p := ⟨w.heap.size + 1, 1, none⟩) (Nat.le_add_right _ _) _).setCell (p := ⟨w.heap.size + 1, 2, none⟩) (Nat.le_add_right _ _) _)
  · have hA1 : Hid (FaceA vid rn rs sn ss sub id (chkV vid rn rs sn ss) 0) := by
      unfold Hid FaceA
      rw [if_pos hc0]
      exact ⟨rfl, rfl⟩
    have hck := checkVpc_is vid rx rn rc rs sx sn sc ss _ rfl w0 (hv.later hT0.below) hrn hsn
    go_wp2_with fail
    refine (hck).mono ?_
    rintro e w1 ⟨rfl, hbw1⟩
    have hT1 := hT0.later hbw1
    clear b0 b1 b2 s0 zs0 s1 zs1 s2 zs2
    have b0 : w1.cell? ⟨w.heap.size, 0, none⟩ = some (.int .i64 vid) := (box_cells hT1.hb).1 0
    have b1 : w1.cell? ⟨w.heap.size, 1, none⟩ = some (.slice rx rn rc) := (box_cells hT1.hb).1 1
    have b2 : w1.cell? ⟨w.heap.size, 2, none⟩ = some (.slice sx sn sc) := (box_cells hT1.hb).1 2
    have s0 : w1.cell? ⟨w.heap.size + 1, 0, none⟩ = some (.int .i64 0) := (box_cells hT1.hs).1 0
    have zs0 : w1.frozen? ⟨w.heap.size + 1, 0, none⟩ = false := (box_cells hT1.hs).2 0
    have s1 : w1.cell? ⟨w.heap.size + 1, 1, none⟩ = some (.slice none 0 0) := (box_cells hT1.hs).1 1
    have zs1 : w1.frozen? ⟨w.heap.size + 1, 1, none⟩ = false := (box_cells hT1.hs).2 1
    have s2 : w1.cell? ⟨w.heap.size + 1, 2, none⟩ = some (.slice none 0 0) := (box_cells hT1.hs).1 2
    have zs2 : w1.frozen? ⟨w.heap.size + 1, 2, none⟩ = false := (box_cells hT1.hs).2 2
    go_wp2
    refine bodyPost_ret (v := .tuple #[.agg #[.int .i64 0, .slice none 0 0, .slice none 0 0], .int .i64 0, .int .i64 (chkV vid rn rs sn ss)]) (by simp [results, Tryz.results21, go_sem, s0, s1, s2]) rfl ?_
    exact VAPost.err hA1.out hc0 (((hT1.below.setCell (p := ⟨w.heap.size + 1, 0, none⟩) (Nat.le_add_right _ _) _).setCell (p := ⟨w.heap.size + 1, 1, none⟩) (Nat.le_add_right _ _) _).setCell (p := ⟨w.heap.size + 1, 2, none⟩) (Nat.le_add_right _ _) _)
end Go.Proofs.YtpdhipjeobchfaaGreat
/- What UnfaceVpc of the reference comes to. -/
namespace Go.Proofs.YtpdhipjeobchfaaGreat
open Go.RowKit Go.Shelf

/-- The worlds that hold there what w held. -/
structure Wk (ps : List Addr) (w : World) : Type where
  val : World
  property : ∀ p ∈ ps, val.cell? p = w.cell? p
@[simp] theorem Wk.all_const (ps : List Addr) (w : World) (p : Prop) : (Wk ps w → p) ↔ p := ⟨fun h => h ⟨w, fun _ _ => rfl⟩, fun h _ => h⟩

set_option maxRecDepth 100000 in
set_option maxHeartbeats 6400000 in
theorem unfaceVpc_any (vid : Int) (rx : Option Addr) (rn rc : Nat) (rs : List Rg) (sx : Option Addr) (sn sc : Nat) (ss : List Sb) (sub id : Int) (w : World) (hv : Vp w rx rn rc rs sx sn sc ss) (hrn : rn ≤ 9223372036854775807) (hsn : sn ≤ 9223372036854775807) :
    Calls Tryz.prog 23 #[.agg #[.int .i64 vid, .slice rx rn rc, .slice sx sn sc], .int .i64 sub, .int .i64 id] w (VPost (plE vid rn rs sn ss sub id) (UnfaceR vid rs sn ss sub id) w) := by
  have hsl : Hid (ss.length = sn) := hv.subs.len
  go_enter Tryz.func23, Tryz.ntmps23
  go_upto_region 1 with fail
  obtain ⟨w0, hw0⟩ : ∃ w0, w0 = (w.alloc (vpB vid (.slice rx rn rc) (.slice sx sn sc))).alloc (vpB 0 (.slice none 0 0) (.slice none 0 0)) := ⟨_, rfl⟩
  rw [← hw0]
  have hT0 : TN w w0 vid rx rn rc sx sn sc := by
    rw [hw0]
    exact ⟨heap_old _ (heap_new _ rfl), heap_new _ (by simp), bl2 w _ _⟩
  clear hw0
  have b0 : w0.cell? ⟨w.heap.size, 0, none⟩ = some (.int .i64 vid) := (box_cells hT0.hb).1 0
  have b1 : w0.cell? ⟨w.heap.size, 1, none⟩ = some (.slice rx rn rc) := (box_cells hT0.hb).1 1
  have b2 : w0.cell? ⟨w.heap.size, 2, none⟩ = some (.slice sx sn sc) := (box_cells hT0.hb).1 2
  have s0 : w0.cell? ⟨w.heap.size + 1, 0, none⟩ = some (.int .i64 0) := (box_cells hT0.hs).1 0
  have zs0 : w0.frozen? ⟨w.heap.size + 1, 0, none⟩ = false := (box_cells hT0.hs).2 0
  have s1 : w0.cell? ⟨w.heap.size + 1, 1, none⟩ = some (.slice none 0 0) := (box_cells hT0.hs).1 1
  have zs1 : w0.frozen? ⟨w.heap.size + 1, 1, none⟩ = false := (box_cells hT0.hs).2 1
  have s2 : w0.cell? ⟨w.heap.size + 1, 2, none⟩ = some (.slice none 0 0) := (box_cells hT0.hs).1 2
  have zs2 : w0.frozen? ⟨w.heap.size + 1, 2, none⟩ = false := (box_cells hT0.hs).2 2
  by_cases hc0 : chkV vid rn rs sn ss = 0
  · have hck := checkVpc_is vid rx rn rc rs sx sn sc ss 0 hc0 w0 (hv.later hT0.below) hrn hsn
    obtain ⟨f1, f2, f3, f4⟩ := chkV_few hc0
    have hE1 : Hid (plE vid rn rs sn ss sub id = if fstAt sn (fun i => (sbAt ss i).id == sub) < 0 then 5 else if fstAt (sbAt ss (fstAt sn (fun i => (sbAt ss i).id == sub)).toNat).n (fun j => (fcAt (sbAt ss (fstAt sn (fun i => (sbAt ss i).id == sub)).toNat).fs j).id == id) < 0 then 5 else 0) := if_neg (c := chkV vid rn rs sn ss ≠ 0) (by simp [hc0])
    clear hc0
    go_wp2_with fail
    refine (hck).mono ?_
    rintro e w1 ⟨rfl, hbw1⟩
    have hT1 := hT0.later hbw1
    clear b0 b1 b2 s0 zs0 s1 zs1 s2 zs2
    have b0 : w1.cell? ⟨w.heap.size, 0, none⟩ = some (.int .i64 vid) := (box_cells hT1.hb).1 0
    have b1 : w1.cell? ⟨w.heap.size, 1, none⟩ = some (.slice rx rn rc) := (box_cells hT1.hb).1 1
    have b2 : w1.cell? ⟨w.heap.size, 2, none⟩ = some (.slice sx sn sc) := (box_cells hT1.hb).1 2
    have s0 : w1.cell? ⟨w.heap.size + 1, 0, none⟩ = some (.int .i64 0) := (box_cells hT1.hs).1 0
    have zs0 : w1.frozen? ⟨w.heap.size + 1, 0, none⟩ = false := (box_cells hT1.hs).2 0
    have s1 : w1.cell? ⟨w.heap.size + 1, 1, none⟩ = some (.slice none 0 0) := (box_cells hT1.hs).1 1
    have zs1 : w1.frozen? ⟨w.heap.size + 1, 1, none⟩ = false := (box_cells hT1.hs).2 1
    have s2 : w1.cell? ⟨w.heap.size + 1, 2, none⟩ = some (.slice none 0 0) := (box_cells hT1.hs).1 2
    have zs2 : w1.frozen? ⟨w.heap.size + 1, 2, none⟩ = false := (box_cells hT1.hs).2 2
    have hsp := fun t h => subAt_is vid sub rx rn rc sx sn sc ss t h w1 (hv.later hT1.below).subs (by omega)
    rcases fstAt_cases sn (fun i => (sbAt ss i).id == sub) with ⟨i, hi, hf, hno, hfp⟩ | ⟨hno, hfp⟩
    · have hsp' := hsp _ hfp
      have hE2 : Hid (plE vid rn rs sn ss sub id = if fstAt (sbAt ss i).n (fun j => (fcAt (sbAt ss i).fs j).id == id) < 0 then 5 else 0) := by
        have := hE1.out
        rw [hfp, if_neg (by omega)] at this
        unfold Hid
        simpa using this
      clear hsp hfp hE1
      have hHf : Hid ((sbAt ss i).id = sub ∧ ∀ j, j < i → (sbAt ss j).id ≠ sub) := ⟨by simpa using hf, fun j hj => by simpa using hno j hj⟩
      clear hf hno
      have hi' : Hid (i < sn) := hi
      have hn8 := f3 i hi
      obtain ⟨b, o, rfl, c0, c1, c2, c3⟩ := hv.subs.cells i hi
      go_wp2_with fail
      refine (hsp').mono ?_
      rintro e w2 ⟨rfl, hbw2⟩
      have hT2 := hT1.later hbw2
      clear b0 b1 b2 s0 zs0 s1 zs1 s2 zs2
      have b0 : w2.cell? ⟨w.heap.size, 0, none⟩ = some (.int .i64 vid) := (box_cells hT2.hb).1 0
      have b1 : w2.cell? ⟨w.heap.size, 1, none⟩ = some (.slice rx rn rc) := (box_cells hT2.hb).1 1
      have b2 : w2.cell? ⟨w.heap.size, 2, none⟩ = some (.slice (some ⟨b, o, none⟩) sn sc) := (box_cells hT2.hb).1 2
      have s0 : w2.cell? ⟨w.heap.size + 1, 0, none⟩ = some (.int .i64 0) := (box_cells hT2.hs).1 0
      have zs0 : w2.frozen? ⟨w.heap.size + 1, 0, none⟩ = false := (box_cells hT2.hs).2 0
      have s1 : w2.cell? ⟨w.heap.size + 1, 1, none⟩ = some (.slice none 0 0) := (box_cells hT2.hs).1 1
      have zs1 : w2.frozen? ⟨w.heap.size + 1, 1, none⟩ = false := (box_cells hT2.hs).2 1
      have s2 : w2.cell? ⟨w.heap.size + 1, 2, none⟩ = some (.slice none 0 0) := (box_cells hT2.hs).1 2
      have zs2 : w2.frozen? ⟨w.heap.size + 1, 2, none⟩ = false := (box_cells hT2.hs).2 2
      have i0 : (0 : Int) ≤ i := by omega
      have i1 : (i : Int) < sn := by omega
      have d0 := cell_later hT2.below c0
      have d1 := cell_later hT2.below c1
      have d2 := cell_later hT2.below c2
      have d3 := cell_later hT2.below c3
      have hfa := fun t h W (hW : Below w.heap.size w W) => faceAt_is (sbAt ss i) id t h W ((hv.later hW).subs.faces i hi).2.2 (by omega)
      rcases fstAt_cases (sbAt ss i).n (fun j => (fcAt (sbAt ss i).fs j).id == id) with ⟨j, hj, hjf, hjno, hjp⟩ | ⟨-, hjp⟩
      · have hfa' := hfa _ hjp
        have hE0 : Hid (plE vid rn rs sn ss sub id = 0) := hE2.out.trans (if_neg (by rw [hjp]; omega))
        have hFA : Hid (FaceAt sn ss sub id i j) := ⟨hi, hHf.out.1, hHf.out.2, hj, by simpa using hjf, fun k hk => by simpa using hjno k hk⟩
        have j0 : (0 : Int) ≤ j := by omega
        clear hfa hjp hjno hjf hE2
        go_wp2_with fail
        refine (hfa' w2 hT2.below).mono ?_
        rintro e w3 ⟨rfl, hb3⟩
        have hT3 := hT2.later hb3
        clear d0 d1 d2 d3
        clear b0 b1 b2 s0 zs0 s1 zs1 s2 zs2
        have b0 : w3.cell? ⟨w.heap.size, 0, none⟩ = some (.int .i64 vid) := (box_cells hT3.hb).1 0
        have b1 : w3.cell? ⟨w.heap.size, 1, none⟩ = some (.slice rx rn rc) := (box_cells hT3.hb).1 1
        have b2 : w3.cell? ⟨w.heap.size, 2, none⟩ = some (.slice (some ⟨b, o, none⟩) sn sc) := (box_cells hT3.hb).1 2
        have s0 : w3.cell? ⟨w.heap.size + 1, 0, none⟩ = some (.int .i64 0) := (box_cells hT3.hs).1 0
        have zs0 : w3.frozen? ⟨w.heap.size + 1, 0, none⟩ = false := (box_cells hT3.hs).2 0
        have s1 : w3.cell? ⟨w.heap.size + 1, 1, none⟩ = some (.slice none 0 0) := (box_cells hT3.hs).1 1
        have zs1 : w3.frozen? ⟨w.heap.size + 1, 1, none⟩ = false := (box_cells hT3.hs).2 1
        have s2 : w3.cell? ⟨w.heap.size + 1, 2, none⟩ = some (.slice none 0 0) := (box_cells hT3.hs).1 2
        have zs2 : w3.frozen? ⟨w.heap.size + 1, 2, none⟩ = false := (box_cells hT3.hs).2 2
        have hown := ownVpc_any vid rx rn rc rs (some ⟨b, o, none⟩) sn sc ss w3 (hv.later hT3.below) (by omega) (by omega) (fun i hi => by have := f3 i hi; omega) (fun i hi j hj => by have := f4 i hi j hj; omega)
        go_wp2_with fail
        refine hown.mono ?_
        rintro e w5 ⟨vR, vS, ts, rfl, hOR, hss, hOS, hb5⟩
        clear hown
        have hT5 := hT3.later hb5
        have htl : Hid (ts.length = sn) := by unfold Hid; rw [← hss.1]; exact hsl.out
        have hit : i < ts.length := by rw [htl.out]; exact hi
        have hsi := hss.2 i (by rw [hss.1]; exact hit)
        obtain ⟨hfS, hfl, hfc, hfm⟩ := (hOS.own i hit).fcs
        have hjn : j < (sbAt ts i).n := by rw [← hsi.2.2.2.1]; exact hj
        have hn8' : (sbAt ts i).n ≤ 8 := by rw [← hsi.2.2.2.1]; exact hn8
        obtain ⟨xr, cr, rfl, -⟩ := hOR.rs
        obtain ⟨k, hk⟩ : ∃ k, Hid ((sbAt ts i).n = k + 1) := ⟨(sbAt ts i).n - 1, by unfold Hid; omega⟩
        have hjk : j ≤ k := by have := hk.out; omega
        obtain ⟨g, cap, hg5, cur, hgh, hvS⟩ : ∃ g cap, w3.heap.size ≤ g ∧ ∃ cur, w5.heap[g]? = some (.cells cur 55) ∧ vS = .slice (some ⟨g, 0, none⟩) ts.length cap := by
          obtain ⟨x2, c2, hv2, -⟩ := hOS.row.mem
          rcases hOS.row.2 with ⟨hv', -⟩ | ⟨g, cap, cur, hv', hg1, hg2, -⟩
          · rw [hv'] at hv2; simp only [Value.slice.injEq] at hv2; omega
          · exact ⟨g, cap, hg1, cur, hg2, hv'⟩
        subst hvS
        obtain ⟨gf, cf, hgf5, curf, hgfh, hcf1, hcf2, hvF⟩ : ∃ gf cf, w3.heap.size ≤ gf ∧ ∃ curf, w5.heap[gf]? = some (.cells curf 68) ∧ k + 1 ≤ cf ∧ cf ≤ 9223372036854775807 ∧ Hid (Value.slice (sbAt ts i).x (sbAt ts i).n (sbAt ts i).c = .slice (some ⟨gf, 0, none⟩) (k + 1) cf) := by
          have hkk := hk.out
          rcases (hOS.own i hit).row.2 with ⟨hv', -⟩ | ⟨gf, cf, curf, hv', hg1, hg2, -⟩
          · simp only [Value.slice.injEq] at hv'; omega
          · have h2 := hv'
            simp only [Value.slice.injEq] at h2
            exact ⟨gf, cf, hg1, curf, hg2, by omega, by omega, by unfold Hid; rw [hv', hfl, hkk]⟩
        have hgl : g < w5.heap.size := (Array.getElem?_eq_some_iff.1 hgh).1
        have hgfl : gf < w5.heap.size := (Array.getElem?_eq_some_iff.1 hgfh).1
        clear b0 b1 b2 s0 zs0 s1 zs1 s2 zs2
        go_upto_region 8 with fail
        obtain ⟨wA, hwA⟩ : ∃ wA, wA = w5.alloc (vpB vid (.slice xr rs.length cr) (.slice (some ⟨g, 0, none⟩) ts.length cap)) := ⟨_, rfl⟩
        rw [← hwA]
        have hb5A : Below w5.heap.size w5 wA := by rw [hwA]; exact bl1 _ _
        have hnA : wA.heap[w5.heap.size]? = some (vpB vid (.slice xr rs.length cr) (.slice (some ⟨g, 0, none⟩) ts.length cap)) := by rw [hwA]; exact heap_new _ rfl
        clear hwA
        have hTA := hT5.later hb5A
        have b0 : wA.cell? ⟨w.heap.size, 0, none⟩ = some (.int .i64 vid) := (box_cells hTA.hb).1 0
        have b1 : wA.cell? ⟨w.heap.size, 1, none⟩ = some (.slice rx rn rc) := (box_cells hTA.hb).1 1
        have b2 : wA.cell? ⟨w.heap.size, 2, none⟩ = some (.slice (some ⟨b, o, none⟩) sn sc) := (box_cells hTA.hb).1 2
        have s0 : wA.cell? ⟨w.heap.size + 1, 0, none⟩ = some (.int .i64 0) := (box_cells hTA.hs).1 0
        have zs0 : wA.frozen? ⟨w.heap.size + 1, 0, none⟩ = false := (box_cells hTA.hs).2 0
        have s1 : wA.cell? ⟨w.heap.size + 1, 1, none⟩ = some (.slice none 0 0) := (box_cells hTA.hs).1 1
        have zs1 : wA.frozen? ⟨w.heap.size + 1, 1, none⟩ = false := (box_cells hTA.hs).2 1
        have s2 : wA.cell? ⟨w.heap.size + 1, 2, none⟩ = some (.slice none 0 0) := (box_cells hTA.hs).1 2
        have zs2 : wA.frozen? ⟨w.heap.size + 1, 2, none⟩ = false := (box_cells hTA.hs).2 2
        have d0 := cell_later hTA.below c0
        have d1 := cell_later hTA.below c1
        have d2 := cell_later hTA.below c2
        have d3 := cell_later hTA.below c3
        go_wp2_with fail
        refine (hfa' wA hTA.below).mono ?_
        rintro e w6 ⟨rfl, hbA6⟩
        clear d0 d1 d2 d3 hfa'
        clear b0 b1 b2 s0 zs0 s1 zs1 s2 zs2
        have hb56 : Below w5.heap.size w5 w6 := hb5A.trans (hbA6.mono hb5A.size)
        have hn6 := heap_later hbA6 hnA
        have hT6 := hTA.later hbA6
        have hg6 := heap_later hb56 hgh
        have hgf6 := heap_later hb56 hgfh
        have h13 : w1.heap.size ≤ w3.heap.size := Nat.le_trans hbw2.size hb3.size
        have hOR6 := OwnR.later (hOR.low (base' := w1.heap.size) h13) hb56
        have hOS6 := OSs.later (hOS.low (base' := w1.heap.size) h13) hb56
        have hOF6 := (hOS6.own i hit).row
        rw [hvF.out] at hOF6
        have hx6 : Hid ((Value.slice (sbAt ts i).x (sbAt ts i).n (sbAt ts i).c).ownBlock = some gf) := by unfold Hid; rw [hvF.out]; rfl
        have n2 : w6.cell? ⟨w5.heap.size, 2, none⟩ = some (.slice (some ⟨g, 0, none⟩) ts.length cap) := (box_cells hn6).1 2
        have d3 : w6.cell? ⟨g, i * 4 + 3, none⟩ = some (.slice (some ⟨gf, 0, none⟩) (k + 1) cf) := by
          obtain ⟨x2, c2, he2, -, -, -, hm'⟩ := hOS6.row.mem
          simp only [Value.slice.injEq] at he2
          obtain ⟨b2, o2, he3, -, -, -, c8⟩ := hm' i hit
          rw [← he2.1] at he3
          simp only [Option.some.injEq, Addr.mk.injEq] at he3
          obtain ⟨rfl, rfl, -⟩ := he3
          rw [hvF.out] at c8
          simpa using c8
        have i1' : (i : Int) < ts.length := by omega
        have hne1 : g ≠ gf := fun e => by rw [e] at hg6; rw [hg6] at hgf6; simp at hgf6
        have hne2 : w5.heap.size ≠ gf := by omega
        have hfl' : Hid ((sbAt ts i).fs.length = k + 1) := by unfold Hid; rw [hfl, hk.out]
        have hsz1 : w.heap.size + 1 < w1.heap.size := (Array.getElem?_eq_some_iff.1 hT1.hs).1
        have hq1 : w5.heap.size ≠ g := by omega
        have hq2 : w.heap.size + 1 ≠ g := by omega
        have hq3 : w.heap.size + 1 ≠ gf := by omega
        have hq4 : w.heap.size ≤ g := by omega
        have hq5 : w.heap.size ≤ gf := by omega
        have hgk : Hid (k = ((sbAt ts i).fs.take j ++ (sbAt ts i).fs.drop (j + 1)).length) := by
          unfold Hid
          rw [List.length_append, List.length_take, List.length_drop, hfl'.out]
          omega
        have hsub : ∀ f ∈ (sbAt ts i).fs.take j ++ (sbAt ts i).fs.drop (j + 1), f ∈ (sbAt ts i).fs := fun f hf => by
          rcases List.mem_append.1 hf with hf | hf
          · exact List.mem_of_mem_take hf
          · exact List.mem_of_mem_drop hf
        obtain ⟨w7, hap, hO7, hg7'⟩ := cutF_run w1.heap.size gf k cf j (sbAt ts i).fs w6.drew hOF6.drew hfl'.out hjk hcf1
        have a1 : (j : Int) ≤ cf := by omega
        have a2 : (j : Int) + 1 ≤ (k : Int) + 1 := by omega
        have a3 : (k : Int) + 1 ≤ cf := by omega
        have a4 : (0 : Int) ≤ (j : Int) + 1 := by omega
        have a5 : j ≤ cf := by omega
        have a6 : j + 1 ≤ k + 1 := by omega
        have a7 : j ≤ k := by omega
        have a8 : (j : Int) ≤ (k : Int) := by omega
        have hk64 : k ≤ 64 := by have := hk.out; omega
        have g1 : ∀ u : Wk [⟨w5.heap.size, 2, none⟩, ⟨g, i * 4 + 3, none⟩] w6, u.val.cell? ⟨w5.heap.size, 2, none⟩ = some (.slice (some ⟨g, 0, none⟩) ts.length cap) := fun u => (u.property _ (by simp)).trans n2
        have g2 : ∀ u : Wk [⟨w5.heap.size, 2, none⟩, ⟨g, i * 4 + 3, none⟩] w6, u.val.cell? ⟨g, i * 4 + 3, none⟩ = some (.slice (some ⟨gf, 0, none⟩) (k + 1) cf) := fun u => (u.property _ (by simp)).trans d3
        clear hfS hfl hfc hfm hjn hn8' hsi
        go_upto_region 9 with fail
        go_cut [10] (fun s wd => s = .pointer (some ⟨w5.heap.size, 0, none⟩) ∧ ∃ w7, OwnF w7 w1.heap.size (.slice (some ⟨gf, 0, none⟩) k cf) ((sbAt ts i).fs.take j ++ (sbAt ts i).fs.drop (j + 1)) ∧ w6.grownBy w7 (some gf) ∧ w7.heap[w5.heap.size]? = some (vpB vid (.slice xr rs.length cr) (.slice (some ⟨g, 0, none⟩) ts.length cap)) ∧ OwnS w7 w1.heap.size (.slice (some ⟨g, 0, none⟩) ts.length cap) ts ∧ w7.heap[g]? = some (.cells cur 55) ∧ wd = w7.setCell ⟨g, i * 4 + 3, none⟩ (.slice (some ⟨gf, 0, none⟩) k cf))
        case first =>
          by_cases hcj : cf = j + 1
          · obtain rfl : j = k := by omega
            subst hcj
            refine wp_region_V (fun w' => ∃ u : Wk [⟨w5.heap.size, 2, none⟩, ⟨g, i * 4 + 3, none⟩] w6, w' = u.val) (fun j => decide (j < 21)) 24 _ (by kernel_rfl) rfl rfl ?_
            refine wpV_takes 4 [0, 1, 2, 3, 4, 5, 6, 7, 8, 9, 10, 11, 12, 13, 14, 15, 16, 17, 18, 19] rfl _ rfl (by kernel_rfl) (fun d _ _ _ _ h => by cases d <;> exact h) ⟨⟨w6.drew, fun _ _ => rfl⟩, rfl⟩ ?_
            simp only [List.map_cons, List.map_nil, List.getD_cons_zero, List.getD_cons_succ]
            repeat (go_big_quiet_step (fail))
            refine wpQuiet_nil ?_
            clear g1 g2
            refine wpV_one 20 _ _ (by kernel_rfl) (by kernel_rfl) rfl rfl ?_
            intro K hK
            simp only [List.getD_cons_zero, List.getD_cons_succ]
            have hap1 := hap 0 0 (.inl ⟨rfl, rfl, rfl⟩)
            rw [Nat.sub_self] at hap1
            clear hap
            refine wpList_append_runv rfl _ _ _ rfl _ _ _ rfl rfl hap1 ?_
            obtain ⟨hg7, hn7, hrow7, e2, d7, df, hgg7⟩ := unface_after hg7' hn6 hOS6.row hgf6 hg6 hne1 hne2 d3
            go_wp2_with fail
            refine wildK_normal (hK.out _ _ ⟨⟨_, fun p hp => ?_⟩, rfl⟩ ?_)
            · simp only [List.mem_cons, List.not_mem_nil, or_false] at hp
              rcases hp with rfl | rfl
              · rw [e2, n2]
              · rw [d7, d3]
            clear hK K
            refine wpV_tail [21, 22, 23] rfl (by kernel_rfl) ?_
            simp only [List.map_cons, List.map_nil, List.getD_cons_zero, List.getD_cons_succ]
            go_wp2_with fail
            go_meet
            case rel => exact ⟨rfl, w7, hO7, hg7, hn7, hrow7, hgg7, rfl⟩
          · have h1 : ¬ cf ≤ j + 1 := by omega
            have h2 : j + 1 < cf := by omega
            have h3 : ¬ j + 1 = cf := by omega
            refine wp_region_V (fun w' => ∃ u : Wk [⟨w5.heap.size, 2, none⟩, ⟨g, i * 4 + 3, none⟩] w6, w' = u.val) (fun j => decide (j < 21)) 24 _ (by kernel_rfl) rfl rfl ?_
            refine wpV_takes 4 [0, 1, 2, 3, 4, 5, 6, 7, 8, 9, 10, 11, 12, 13, 14, 15, 16, 17, 18, 19] rfl _ rfl (by kernel_rfl) (fun d _ _ _ _ h => by cases d <;> exact h) ⟨⟨w6.drew, fun _ _ => rfl⟩, rfl⟩ ?_
            simp only [List.map_cons, List.map_nil, List.getD_cons_zero, List.getD_cons_succ]
            repeat (go_big_quiet_step (fail))
            refine wpQuiet_nil ?_
            clear g1 g2
            refine wpV_one 20 _ _ (by kernel_rfl) (by kernel_rfl) rfl rfl ?_
            intro K hK
            simp only [List.getD_cons_zero, List.getD_cons_succ]
            have hap1 := hap _ _ (.inr ⟨hcj, rfl, rfl⟩)
            clear hap
            refine wpList_append_runv rfl _ _ _ rfl _ _ _ rfl rfl hap1 ?_
            obtain ⟨hg7, hn7, hrow7, e2, d7, df, hgg7⟩ := unface_after hg7' hn6 hOS6.row hgf6 hg6 hne1 hne2 d3
            go_wp2_with fail
            refine wildK_normal (hK.out _ _ ⟨⟨_, fun p hp => ?_⟩, rfl⟩ ?_)
            · simp only [List.mem_cons, List.not_mem_nil, or_false] at hp
              rcases hp with rfl | rfl
              · rw [e2, n2]
              · rw [d7, d3]
            clear hK K
            refine wpV_tail [21, 22, 23] rfl (by kernel_rfl) ?_
            simp only [List.map_cons, List.map_nil, List.getD_cons_zero, List.getD_cons_succ]
            go_wp2_with fail
            go_meet
            case rel => exact ⟨rfl, w7, hO7, hg7, hn7, hrow7, hgg7, rfl⟩
        case rest =>
        obtain ⟨rfl, w7x, hO7, hg7, hn7, hrow7, hgg7, hwd⟩ := hcut
        have hn8 : wc.heap[w5.heap.size]? = some (vpB vid (.slice xr rs.length cr) (.slice (some ⟨g, 0, none⟩) ts.length cap)) := by rw [hwd]; exact (heap_setCell_other _ _ _ _ hq1).trans hn7
        have hs8 : wc.heap[w.heap.size + 1]? = some (vpB 0 (.slice none 0 0) (.slice none 0 0)) := by rw [hwd]; exact (heap_setCell_other _ _ _ _ hq2).trans (grown_box hg7 hq3 hT6.hs)
        have hB8 : Below w.heap.size w wc := by rw [hwd]; exact (below_grownr hT6.below hg7 (fun q e => by cases e; exact hq5)).setCell (p := ⟨g, i * 4 + 3, none⟩) hq4 _
        have hOR8 : OwnR wc w1.heap.size (.slice xr rs.length cr) rs := by rw [hwd]; exact (hOR6.kept hg7 (fun q hq e => by subst e; exact hOR6.ne hgf6 (by decide) hq)).putBox hgg7 (by decide)
        have hrow8 : OwnS wc w1.heap.size (.slice (some ⟨g, 0, none⟩) ts.length cap) (ts.set i (withF (sbAt ts i) (some ⟨gf, 0, none⟩) k cf ((sbAt ts i).fs.take j ++ (sbAt ts i).fs.drop (j + 1)))) := by rw [hwd]; exact hrow7.set i hit _ _ _ _
        have hfa8 : OFa wc w1.heap.size (ts.set i (withF (sbAt ts i) (some ⟨gf, 0, none⟩) k cf ((sbAt ts i).fs.take j ++ (sbAt ts i).fs.drop (j + 1)))) := by rw [hwd]; exact (hOS6.cut hit hg7 hgf6 hx6.out hO7 hsub).keptOf (set_grown _ _ _ _) hgg7 (by decide) (by decide)
        clear hwd g1 g2 hap n2 d3
        have m0 : wc.cell? ⟨w5.heap.size, 0, none⟩ = some (.int .i64 vid) := (box_cells hn8).1 0
        have m1 : wc.cell? ⟨w5.heap.size, 1, none⟩ = some (.slice xr rs.length cr) := (box_cells hn8).1 1
        have m2 : wc.cell? ⟨w5.heap.size, 2, none⟩ = some (.slice (some ⟨g, 0, none⟩) ts.length cap) := (box_cells hn8).1 2
        have s0 : wc.cell? ⟨w.heap.size + 1, 0, none⟩ = some (.int .i64 0) := (box_cells hs8).1 0
        have s1 : wc.cell? ⟨w.heap.size + 1, 1, none⟩ = some (.slice none 0 0) := (box_cells hs8).1 1
        have s2 : wc.cell? ⟨w.heap.size + 1, 2, none⟩ = some (.slice none 0 0) := (box_cells hs8).1 2
        have zs0 : wc.frozen? ⟨w.heap.size + 1, 0, none⟩ = false := (box_cells hs8).2 0
        have zs1 : wc.frozen? ⟨w.heap.size + 1, 1, none⟩ = false := (box_cells hs8).2 1
        have zs2 : wc.frozen? ⟨w.heap.size + 1, 2, none⟩ = false := (box_cells hs8).2 2
        go_wp2
        refine bodyPost_ret (v := .tuple #[.agg #[.int .i64 vid, .slice xr rs.length cr, .slice (some ⟨g, 0, none⟩) ts.length cap], .int .i64 0]) (by simp [results, Tryz.results23, go_sem, s0, s1, s2]) rfl ?_
        exact VPost.ok hE0.out (((hB8.setCell (p := ⟨w.heap.size + 1, 0, none⟩) (Nat.le_add_right _ _) _).setCell (p := ⟨w.heap.size + 1, 1, none⟩) (Nat.le_add_right _ _) _).setCell (p := ⟨w.heap.size + 1, 2, none⟩) (Nat.le_add_right _ _) _) ⟨ts, i, j, _, k, _, hFA.out, hss, hgk.out, NV.mk (((hOR8.put hsz1).put hsz1).put hsz1) (((hrow8.put hsz1).put hsz1).put hsz1) (((hfa8.put hsz1).put hsz1).put hsz1).fcb⟩
      · have hfa' := hfa _ hjp
        have hne : Hid (plE vid rn rs sn ss sub id = 5 ∧ (5 : Int) ≠ 0) := ⟨hE2.out.trans (if_pos (by rw [hjp]; decide)), by decide⟩
        clear hfa hjp hE2
        go_wp2_with fail
        refine (hfa' w2 hT2.below).mono ?_
        rintro e w3 ⟨rfl, hb3⟩
        have hT3 := hT2.later hb3
        clear d0 d1 d2 d3
        clear b0 b1 b2 s0 zs0 s1 zs1 s2 zs2
        have b0 : w3.cell? ⟨w.heap.size, 0, none⟩ = some (.int .i64 vid) := (box_cells hT3.hb).1 0
        have b1 : w3.cell? ⟨w.heap.size, 1, none⟩ = some (.slice rx rn rc) := (box_cells hT3.hb).1 1
        have b2 : w3.cell? ⟨w.heap.size, 2, none⟩ = some (.slice (some ⟨b, o, none⟩) sn sc) := (box_cells hT3.hb).1 2
        have s0 : w3.cell? ⟨w.heap.size + 1, 0, none⟩ = some (.int .i64 0) := (box_cells hT3.hs).1 0
        have zs0 : w3.frozen? ⟨w.heap.size + 1, 0, none⟩ = false := (box_cells hT3.hs).2 0
        have s1 : w3.cell? ⟨w.heap.size + 1, 1, none⟩ = some (.slice none 0 0) := (box_cells hT3.hs).1 1
        have zs1 : w3.frozen? ⟨w.heap.size + 1, 1, none⟩ = false := (box_cells hT3.hs).2 1
        have s2 : w3.cell? ⟨w.heap.size + 1, 2, none⟩ = some (.slice none 0 0) := (box_cells hT3.hs).1 2
        have zs2 : w3.frozen? ⟨w.heap.size + 1, 2, none⟩ = false := (box_cells hT3.hs).2 2
        go_wp2
        refine bodyPost_ret (v := .tuple #[.agg #[.int .i64 0, .slice none 0 0, .slice none 0 0], .int .i64 5]) (by simp [results, Tryz.results23, go_sem, s0, s1, s2]) rfl ?_
        exact VPost.err hne.out (((hT3.below.setCell (p := ⟨w.heap.size + 1, 0, none⟩) (Nat.le_add_right _ _) _).setCell (p := ⟨w.heap.size + 1, 1, none⟩) (Nat.le_add_right _ _) _).setCell (p := ⟨w.heap.size + 1, 2, none⟩) (Nat.le_add_right _ _) _)
    · have hsp' := hsp _ hfp
      have hne : Hid (plE vid rn rs sn ss sub id = 5 ∧ (5 : Int) ≠ 0) := ⟨hE1.out.trans (if_pos (by rw [hfp]; decide)), by decide⟩
      clear hfp hE1 hsp hno
      go_wp2_with fail
      refine (hsp').mono ?_
      rintro e w2 ⟨rfl, hbw2⟩
      have hT2 := hT1.later hbw2
      clear b0 b1 b2 s0 zs0 s1 zs1 s2 zs2
      have b0 : w2.cell? ⟨w.heap.size, 0, none⟩ = some (.int .i64 vid) := (box_cells hT2.hb).1 0
      have b1 : w2.cell? ⟨w.heap.size, 1, none⟩ = some (.slice rx rn rc) := (box_cells hT2.hb).1 1
      have b2 : w2.cell? ⟨w.heap.size, 2, none⟩ = some (.slice sx sn sc) := (box_cells hT2.hb).1 2
      have s0 : w2.cell? ⟨w.heap.size + 1, 0, none⟩ = some (.int .i64 0) := (box_cells hT2.hs).1 0
      have zs0 : w2.frozen? ⟨w.heap.size + 1, 0, none⟩ = false := (box_cells hT2.hs).2 0
      have s1 : w2.cell? ⟨w.heap.size + 1, 1, none⟩ = some (.slice none 0 0) := (box_cells hT2.hs).1 1
      have zs1 : w2.frozen? ⟨w.heap.size + 1, 1, none⟩ = false := (box_cells hT2.hs).2 1
      have s2 : w2.cell? ⟨w.heap.size + 1, 2, none⟩ = some (.slice none 0 0) := (box_cells hT2.hs).1 2
      have zs2 : w2.frozen? ⟨w.heap.size + 1, 2, none⟩ = false := (box_cells hT2.hs).2 2
      go_wp2
      refine bodyPost_ret (v := .tuple #[.agg #[.int .i64 0, .slice none 0 0, .slice none 0 0], .int .i64 5]) (by simp [results, Tryz.results23, go_sem, s0, s1, s2]) rfl ?_
      exact VPost.err hne.out (((hT2.below.setCell (p := ⟨w.heap.size + 1, 0, none⟩) (Nat.le_add_right _ _) _).setCell (p := ⟨w.heap.size + 1, 1, none⟩) (Nat.le_add_right _ _) _).setCell (p := ⟨w.heap.size + 1, 2, none⟩) (Nat.le_add_right _ _) _)
  · have hck := checkVpc_is vid rx rn rc rs sx sn sc ss _ rfl w0 (hv.later hT0.below) hrn hsn
    have hne : plE vid rn rs sn ss sub id = chkV vid rn rs sn ss ∧ chkV vid rn rs sn ss ≠ 0 := ⟨if_pos hc0, hc0⟩
    go_wp2_with fail
    refine (hck).mono ?_
    rintro e w1 ⟨rfl, hbw1⟩
    have hT1 := hT0.later hbw1
    clear b0 b1 b2 s0 zs0 s1 zs1 s2 zs2
    have b0 : w1.cell? ⟨w.heap.size, 0, none⟩ = some (.int .i64 vid) := (box_cells hT1.hb).1 0
    have b1 : w1.cell? ⟨w.heap.size, 1, none⟩ = some (.slice rx rn rc) := (box_cells hT1.hb).1 1
    have b2 : w1.cell? ⟨w.heap.size, 2, none⟩ = some (.slice sx sn sc) := (box_cells hT1.hb).1 2
    have s0 : w1.cell? ⟨w.heap.size + 1, 0, none⟩ = some (.int .i64 0) := (box_cells hT1.hs).1 0
    have zs0 : w1.frozen? ⟨w.heap.size + 1, 0, none⟩ = false := (box_cells hT1.hs).2 0
    have s1 : w1.cell? ⟨w.heap.size + 1, 1, none⟩ = some (.slice none 0 0) := (box_cells hT1.hs).1 1
    have zs1 : w1.frozen? ⟨w.heap.size + 1, 1, none⟩ = false := (box_cells hT1.hs).2 1
    have s2 : w1.cell? ⟨w.heap.size + 1, 2, none⟩ = some (.slice none 0 0) := (box_cells hT1.hs).1 2
    have zs2 : w1.frozen? ⟨w.heap.size + 1, 2, none⟩ = false := (box_cells hT1.hs).2 2
    go_wp2
    refine bodyPost_ret (v := .tuple #[.agg #[.int .i64 0, .slice none 0 0, .slice none 0 0], .int .i64 (chkV vid rn rs sn ss)]) (by simp [results, Tryz.results23, go_sem, s0, s1, s2]) rfl ?_
    exact VPost.err hne (((hT1.below.setCell (p := ⟨w.heap.size + 1, 0, none⟩) (Nat.le_add_right _ _) _).setCell (p := ⟨w.heap.size + 1, 1, none⟩) (Nat.le_add_right _ _) _).setCell (p := ⟨w.heap.size + 1, 2, none⟩) (Nat.le_add_right _ _) _)
end Go.Proofs.YtpdhipjeobchfaaGreat
/- What MoreVpc of the reference comes to. -/
namespace Go.Proofs.YtpdhipjeobchfaaGreat
open Go.RowKit Go.Shelf

theorem wpList_append_Iat {w : World} {ops : Array Oper} {rest : List Oper} {o : Oper} {a : Act} {Q : Exit → Act → World → Prop} (hgd : o.guard = none) (s x : Operand)
    (ho : o.op = .call { callee := .builtin .append, args := #[s, x], argTypes := #[66, 66] }) (base : Nat) (v : Value) (es : List Int) (hs : a.eval s = v) (hO : OwnI w base v es)
    (ad : Addr) (m c : Nat) (fs : List Int) (hx : a.eval x = .slice (some ad) m c) (hm : fs.length = m) (hy : ∀ j u, (flatI fs)[j]? = some u → w.cell? (ad.add j) = some u)
    (hlen : es.length + m ≤ 1000000000) (hbase : base ≤ w.heap.size)
    (h : ∀ v' w', OwnI w' base v' (es ++ fs) → w.grownBy w' v.ownBlock → (v'.ownBlock = v.ownBlock ∨ v'.ownBlock = some w.heap.size) → wpList Tryz.prog ops Q rest (a.put o.dst v') w') : wpList Tryz.prog ops Q (o :: rest) a w := by
  obtain ⟨i0, hi, hz0, hz1, hz2⟩ := info_I'
  subst hm
  refine wpList_append_own_at w hgd s x 66 ho base 3 i0 _ 1 8 under_I hi hz0 hz1 hz2 rfl (by decide) v es.length (flatI es) hs hO ad fs.length c (flatI fs) hx (by rw [flatI_len]; omega) hy (flatI_one fs) (by unfold maxLen; omega) (by omega) hbase ?_
  intro v' w' h1 h2 _ hat
  refine h v' w' ?_ h2 hat
  unfold OwnI
  rw [flatI_app, List.length_append]
  exact h1
theorem OwnI.frozen {w : World} {base g n cap : Nat} {ns : List Int} (h : OwnI w base (.slice (some ⟨g, 0, none⟩) n cap) ns) (i : Nat) : w.frozen? ⟨g, i, none⟩ = false := by
  rcases h.2 with ⟨hv, -⟩ | ⟨g', cap', cur, hv, h1, h2, -⟩
  · simp at hv
  · simp only [Value.slice.injEq, Option.some.injEq, Addr.mk.injEq] at hv
    obtain ⟨⟨rfl, -⟩, -, rfl⟩ := hv
    simp [World.frozen?, h2]
theorem OwnI.block {w : World} {base g n cap : Nat} {ns : List Int} (h : OwnI w base (.slice (some ⟨g, 0, none⟩) n cap) ns) : base ≤ g ∧ ∃ cur, w.heap[g]? = some (.cells cur 3) := by
  rcases h.2 with ⟨hv, -⟩ | ⟨g', cap', cur, hv, h1, h2, -⟩
  · simp at hv
  · simp only [Value.slice.injEq, Option.some.injEq, Addr.mk.injEq] at hv
    obtain ⟨⟨rfl, -⟩, -, rfl⟩ := hv
    exact ⟨h1, cur, h2⟩
theorem OwnI.set {w : World} {base g n cap : Nat} {ns : List Int} (h : OwnI w base (.slice (some ⟨g, 0, none⟩) n cap) ns) (i : Nat) (v : Int) : OwnI (w.setCell ⟨g, i, none⟩ (.int .i64 v)) base (.slice (some ⟨g, 0, none⟩) n cap) (ns.set i v) := by
  rcases h.2 with ⟨hv, -⟩ | ⟨g', cap', cur, hv, h1, h2, h3, h4, h5, h6⟩
  · simp at hv
  · simp only [Value.slice.injEq, Option.some.injEq, Addr.mk.injEq] at hv
    obtain ⟨⟨rfl, -⟩, rfl, rfl⟩ := hv
    refine ⟨by rw [flatI_len]; simp, .inr ⟨g, cap, cur.setIfInBounds i (.int .i64 v), by rw [List.length_set], h1, heap_setCell_same w g _ _ _ _ h2, by rw [List.length_set]; exact h3, h4, by simpa using h5, ?_⟩⟩
    rw [List.length_set, Array.toList_setIfInBounds, List.take_set, h6]
    simp [flatI, List.map_set]
theorem OwnF.kindr {w : World} {base g : Nat} {v : Value} {es : List Int} (h : OwnI w base v es) (hv : v.ownBlock = some g) : ∃ cur, w.heap[g]? = some (.cells cur 3) := by
  rcases h.2 with ⟨rfl, -⟩ | ⟨g', cap, cur, rfl, -, h3, -⟩
  · cases hv
  · obtain rfl : g' = g := by simpa [Value.ownBlock] using hv
    exact ⟨cur, h3⟩
theorem swap_insI {xs : List Int} {e x : Int} {q : Nat} (hx : xs[q]? = some x) : ((xs.take (q + 1) ++ [e] ++ xs.drop (q + 1)).set q e).set (q + 1) x = xs.take q ++ [e] ++ xs.drop q := by
  have hq : q < xs.length := (List.getElem?_eq_some_iff.1 hx).1
  refine List.ext_getElem? fun j => ?_
  have hl : (xs.take (q + 1) ++ [e] ++ xs.drop (q + 1)).length = xs.length + 1 := by simp; omega
  rw [List.getElem?_set, List.length_set, hl, List.getElem?_set, hl, get_ins xs (q + 1) (by omega), get_ins xs q (by omega)]
  by_cases h1 : q + 1 = j
  · subst h1
    rw [if_pos rfl, if_pos (by omega), if_neg (by omega), if_neg (by omega), Nat.add_sub_cancel, hx]
  · rw [if_neg h1]
    by_cases h2 : q = j
    · subst h2
      rw [if_pos rfl, if_pos (by omega), if_neg (by omega), if_pos rfl]
    · rw [if_neg h2]
      by_cases h3 : j < q
      · rw [if_pos (by omega), if_pos h3]
      · rw [if_neg (by omega), if_neg (by omega), if_neg h3, if_neg (by omega)]
theorem inAt_ins {ts : List Int} {p : Nat} (hp : p ≤ ts.length) (e : Int) (j : Nat) : inAt (ts.take p ++ [e] ++ ts.drop p) j = if j < p then inAt ts j else if j = p then e else inAt ts (j - 1) := by
  unfold inAt
  rw [List.getD_eq_getElem?_getD, get_ins ts p hp]
  split
  · rw [List.getD_eq_getElem?_getD]
  · split
    · rfl
    · rw [List.getD_eq_getElem?_getD]
theorem chkV_riseI {vid : Int} {rn : Nat} {rs : List Rg} {sn : Nat} {ss : List Sb} (h : chkV vid rn rs sn ss = 0) (i : Nat) (hi : i < sn) (j : Nat) (hj : j < (sbAt ss i).n) : riseIB (fcAt (sbAt ss i).fs j).ns = true := by
  obtain ⟨-, -, hs⟩ := chkV_right h
  unfold sbsB at hs
  rw [Bool.and_eq_true, List.all_eq_true] at hs
  have h1 := hs.1 i (by simpa using hi)
  unfold sbsAt fcsB at h1
  simp only [Bool.and_eq_true, List.all_eq_true] at h1
  have h2 := h1.2.1.1 j (by simpa using hj)
  unfold fcsAt adB at h2
  simp only [Bool.and_eq_true] at h2
  exact h2.2.1
/-- A network that is being made; the addresses of its face j of the subnet i are elsewhere, in the block gi. -/
structure MoW (w W : World) (base bo gi n ci i j : Nat) (vid : Int) (vR vS : Value) (rs : List Rg) (ts : List Sb) (cur : List Int) : Prop where
  ho : W.heap[bo]? = some (vpB vid vR vS)
  hs : W.heap[w.heap.size + 1]? = some (vpB 0 (.slice none 0 0) (.slice none 0 0))
  below : Below w.heap.size w W
  rgs : OwnR W base vR rs
  row : OwnS W base vS ts
  fcs : ∀ q, q < ts.length → OwnF W base (.slice (sbAt ts q).x (sbAt ts q).n (sbAt ts q).c) (sbAt ts q).fs
  ads : ∀ q, q < ts.length → ∀ p, p < (sbAt ts q).fs.length → ¬ (q = i ∧ p = j) → OwnI W base (.slice (fcAt (sbAt ts q).fs p).x (fcAt (sbAt ts q).fs p).n (fcAt (sbAt ts q).fs p).c) (fcAt (sbAt ts q).fs p).ns ∧ adK (fcAt (sbAt ts q).fs p) ≠ some gi
  new : OwnI W base (.slice (some ⟨gi, 0, none⟩) n ci) cur
theorem MoW.later {w W W' : World} {base bo gi n ci i j : Nat} {vid : Int} {vR vS : Value} {rs : List Rg} {ts : List Sb} {cur : List Int} (h : MoW w W base bo gi n ci i j vid vR vS rs ts cur) (hb : Below W.heap.size W W') : MoW w W' base bo gi n ci i j vid vR vS rs ts cur :=
  ⟨heap_later hb h.ho, heap_later hb h.hs, h.below.trans (hb.mono h.below.size), OwnR.later h.rgs hb, h.row.later hb, fun q hq => (h.fcs q hq).later hb, fun q hq p hp hn => ⟨(h.ads q hq p hp hn).1.later hb, (h.ads q hq p hp hn).2⟩, h.new.later hb⟩
/-- A number of the new row is written over. -/
theorem MoW.put {w W : World} {base bo gi n ci i j : Nat} {vid : Int} {vR vS : Value} {rs : List Rg} {ts : List Sb} {cur : List Int} (h : MoW w W base bo gi n ci i j vid vR vS rs ts cur) (hw : w.heap.size + 1 < base) (k : Nat) (v : Int) : MoW w (W.setCell ⟨gi, k, none⟩ (.int .i64 v)) base bo gi n ci i j vid vR vS rs ts (cur.set k v) := by
  obtain ⟨hbg, c0, hc0⟩ := h.new.block
  have hg := set_grown W gi k (.int .i64 v)
  refine ⟨grown_box hg (fun e => by subst e; have := h.ho; rw [hc0] at this; simp at this) h.ho, grown_box hg (by omega) h.hs, below_grownr h.below hg (fun q e => by cases e; omega), h.rgs.kept hg (fun q hq e => by subst e; exact h.rgs.ne hc0 (by decide) hq), h.row.kept hg (fun q hq e => by subst e; exact h.row.ne hc0 (by decide) hq),
    fun q hq => (h.fcs q hq).kept hg (fun b hb e => by subst e; exact (h.fcs q hq).ne hc0 (by decide) hb), fun q hq p hp hn => ⟨(h.ads q hq p hp hn).1.kept hg (fun b hb e => by subst e; exact (h.ads q hq p hp hn).2 hb), (h.ads q hq p hp hn).2⟩, h.new.set k v⟩
theorem MoW.cell {w W : World} {base bo gi n ci i j : Nat} {vid : Int} {vR vS : Value} {rs : List Rg} {ts : List Sb} {cur : List Int} (h : MoW w W base bo gi n ci i j vid vR vS rs ts cur) (q : Nat) (hq : q < cur.length) : W.cell? ⟨gi, q, none⟩ = some (.int .i64 (inAt cur q)) ∧ W.frozen? ⟨gi, q, none⟩ = false := by
  obtain ⟨x2, c2, he2, -, -, -, hm'⟩ := h.new.mem
  simp only [Value.slice.injEq] at he2
  obtain ⟨b2, o2, he3, c7⟩ := hm'.cells q hq
  rw [← he2.1] at he3
  simp only [Option.some.injEq, Addr.mk.injEq] at he3
  obtain ⟨rfl, rfl, -⟩ := he3
  exact ⟨by simpa using c7, h.new.frozen _⟩
/-- Behind the append of an address to those of the face j of the subnet i. -/
theorem MoW.start {w wB w9 : World} {base bo gi n ci i j : Nat} {vid : Int} {vR vS : Value} {rs : List Rg} {ts : List Sb} {cur : List Int} (hi : i < ts.length) (hj : j < (sbAt ts i).fs.length) (hwb : w.heap.size + 1 < base) (hOS : OSs wB base vS ts ts.length) (hAp : ApS ts)
    (hho : wB.heap[bo]? = some (vpB vid vR vS)) (hs : wB.heap[w.heap.size + 1]? = some (vpB 0 (.slice none 0 0) (.slice none 0 0))) (hB : Below w.heap.size w wB) (hOR : OwnR wB base vR rs)
    (hI9 : OwnI w9 base (.slice (some ⟨gi, 0, none⟩) n ci) cur) (hg9 : wB.grownBy w9 (adK (fcAt (sbAt ts i).fs j))) (hat : some gi = adK (fcAt (sbAt ts i).fs j) ∨ some gi = some wB.heap.size) :
    MoW w w9 base bo gi n ci i j vid vR vS rs ts cur := by
  have hO := (hOS.own i hi).own j hj
  have hk : ∀ q, adK (fcAt (sbAt ts i).fs j) = some q → ∃ cur, wB.heap[q]? = some (.cells cur 3) := fun q e => OwnF.kindr hO e
  have hap : ∀ q, q < ts.length → ∀ p, p < (sbAt ts q).fs.length → ¬ (q = i ∧ p = j) → ∀ b, adK (fcAt (sbAt ts i).fs j) = some b → adK (fcAt (sbAt ts q).fs p) ≠ some b := fun q hq p hp hn b h1 => by
    by_cases e : i = q
    · subst e
      exact hAp.1 i hi j p hj hp (fun e => hn ⟨rfl, e.symm⟩) b h1
    · exact hAp.2 i q hi hq e j p hj hp b h1
  refine ⟨grown_keep hg9 (hO.ne hho (by decide)) hho, grown_keep hg9 (hO.ne hs (by decide)) hs, below_grownr hB hg9 (fun q e => by have := (hO.lt q e).1; omega), hOR.keptr hg9 (fun q hq e => by obtain ⟨c, hc⟩ := hk q e; exact hOR.ne hc (by decide) hq),
    hOS.row.keptr hg9 (fun q hq e => by obtain ⟨c, hc⟩ := hk q e; exact hOS.row.ne hc (by decide) hq), fun q hq => (hOS.own q hq).row.keptr hg9 (fun b hb e => by obtain ⟨c, hc⟩ := hk b e; exact (hOS.own q hq).row.ne hc (by decide) hb), fun q hq p hp hn => ⟨((hOS.own q hq).own p hp).keptr hg9 (fun b hb e => hap q hq p hp hn b e hb), fun e => ?_⟩, hI9⟩
  rcases hat with h | h
  · exact hap q hq p hp hn gi h.symm e
  · have h3 : gi = wB.heap.size := by simpa using h
    have := (((hOS.own q hq).own p hp).lt gi e).2
    omega
/-- The new row is handed to the face: a network of the call's own. -/
theorem MoW.nvo {w W : World} {base bo gi n ci i j gf m cf : Nat} {vid : Int} {vR vS : Value} {rs : List Rg} {ts : List Sb} {cur : List Int} {u0 u1 u2 : Value} (h : MoW w W base bo gi n ci i j vid vR vS rs ts cur) (hi : i < ts.length) (hj : j < (sbAt ts i).fs.length) (hap : ∀ q, q < ts.length → q ≠ i → (Value.slice (sbAt ts q).x (sbAt ts q).n (sbAt ts q).c).ownBlock ≠ some gf)
    (hvF : Value.slice (sbAt ts i).x (sbAt ts i).n (sbAt ts i).c = .slice (some ⟨gf, 0, none⟩) m cf) (hw : w.heap.size + 1 < base) (hn : n = cur.length) :
    NVo ((((W.setCell ⟨gf, j * 2 + 1, none⟩ (.slice (some ⟨gi, 0, none⟩) n ci)).setCell ⟨w.heap.size + 1, 0, none⟩ u0).setCell ⟨w.heap.size + 1, 1, none⟩ u1).setCell ⟨w.heap.size + 1, 2, none⟩ u2) w.heap.size vid (.agg #[.int .i64 vid, vR, vS]) rs (ts.set i (withF (sbAt ts i) (sbAt ts i).x (sbAt ts i).n (sbAt ts i).c ((sbAt ts i).fs.set j (withA (fcAt (sbAt ts i).fs j) (some ⟨gi, 0, none⟩) cur.length ci cur)))) := by
  subst hn
  have hOF := h.fcs i hi
  rw [hvF] at hOF
  obtain ⟨hbg, c0, hc0⟩ := hOF.block
  have hg := set_grown W gf (j * 2 + 1) (.slice (some ⟨gi, 0, none⟩) cur.length ci)
  have hkI : ∀ {v : Value} {es : List Int}, OwnI W base v es → OwnI (W.setCell ⟨gf, j * 2 + 1, none⟩ (.slice (some ⟨gi, 0, none⟩) cur.length ci)) base v es := fun {v es} hO => hO.kept hg (fun q hq e => by subst e; exact hO.ne hc0 (by decide) hq)
  have hR := h.rgs.kept hg (fun q hq e => by subst e; exact h.rgs.ne hc0 (by decide) hq)
  have hS := (h.row.kept hg (fun q hq e => by subst e; exact h.row.ne hc0 (by decide) hq)).faces i hi ((sbAt ts i).fs.set j (withA (fcAt (sbAt ts i).fs j) (some ⟨gi, 0, none⟩) cur.length ci cur))
  have hFj := hOF.set j hj (some ⟨gi, 0, none⟩) cur.length ci cur
  have hfa : OFa (W.setCell ⟨gf, j * 2 + 1, none⟩ (.slice (some ⟨gi, 0, none⟩) cur.length ci)) base (ts.set i (withF (sbAt ts i) (sbAt ts i).x (sbAt ts i).n (sbAt ts i).c ((sbAt ts i).fs.set j (withA (fcAt (sbAt ts i).fs j) (some ⟨gi, 0, none⟩) cur.length ci cur)))) := fun s hs => by
    obtain ⟨k, hk, rfl⟩ := List.getElem_of_mem hs
    have hk' : k < ts.length := by simpa using hk
    rw [List.getElem_set]
    by_cases e : i = k
    · rw [if_pos e]
      show OFs _ base (.slice (sbAt ts i).x (sbAt ts i).n (sbAt ts i).c) ((sbAt ts i).fs.set j (withA (fcAt (sbAt ts i).fs j) (some ⟨gi, 0, none⟩) cur.length ci cur)) ((sbAt ts i).fs.set j (withA (fcAt (sbAt ts i).fs j) (some ⟨gi, 0, none⟩) cur.length ci cur)).length
      rw [hvF]
      refine OFs.mk' hFj (fun f hf => ?_)
      obtain ⟨p, hp, rfl⟩ := List.getElem_of_mem hf
      have hp' : p < (sbAt ts i).fs.length := by simpa using hp
      rw [List.getElem_set]
      by_cases e2 : j = p
      · rw [if_pos e2]; exact hkI h.new
      · rw [if_neg e2]
        have e3 : fcAt (sbAt ts i).fs p = (sbAt ts i).fs[p] := by unfold fcAt; rw [List.getD_eq_getElem?_getD, List.getElem?_eq_getElem hp']; rfl
        rw [← e3]
        exact hkI (h.ads i hi p hp' (fun hh => e2 hh.2.symm)).1
    · rw [if_neg e]
      have e2 : sbAt ts k = ts[k] := by unfold sbAt; rw [List.getD_eq_getElem?_getD, List.getElem?_eq_getElem hk']; rfl
      rw [← e2]
      refine OFs.mk' ((h.fcs k hk').kept hg (fun q hq e4 => by subst e4; exact hap k hk' (fun h => e h.symm) hq)) (fun f hf => ?_)
      obtain ⟨p, hp, rfl⟩ := List.getElem_of_mem hf
      have e3 : fcAt (sbAt ts k).fs p = (sbAt ts k).fs[p] := by unfold fcAt; rw [List.getD_eq_getElem?_getD, List.getElem?_eq_getElem hp]; rfl
      rw [← e3]
      exact hkI (h.ads k hk' p hp (fun hh => e hh.1.symm)).1
  exact ⟨vR, vS, rfl, (((hR.put hw).put hw).put hw).low (by omega), (((hS.put hw).put hw).put hw).low (by omega), (((hfa.put hw).put hw).put hw).low (by omega)⟩
end Go.Proofs.YtpdhipjeobchfaaGreat
/- What MoreVpc of the reference comes to: its walk. -/
namespace Go.Proofs.YtpdhipjeobchfaaGreat
open Go.RowKit Go.Shelf

set_option maxRecDepth 100000 in
set_option maxHeartbeats 6400000 in
theorem moreVpc_any (vid : Int) (rx : Option Addr) (rn rc : Nat) (rs : List Rg) (sx : Option Addr) (sn sc : Nat) (ss : List Sb) (sub id : Int) (w : World) (hv : Vp w rx rn rc rs sx sn sc ss) (hrn : rn ≤ 9223372036854775807) (hsn : sn ≤ 9223372036854775807) :
    Calls Tryz.prog 22 #[.agg #[.int .i64 vid, .slice rx rn rc, .slice sx sn sc], .int .i64 sub, .int .i64 id] w (VAPost (MoreA vid rn rs sn ss sub id) (MoreR vid rn rs sn ss sub id w) w) := by
  have hsl : Hid (ss.length = sn) := hv.subs.len
  have hAe : Hid (∀ E, plE vid rn rs sn ss sub id = E → E ≠ 0 → MoreA vid rn rs sn ss sub id E 0) := fun E h h0 => ⟨fun _ => ⟨h.symm, rfl⟩, fun h' => absurd (h.symm.trans h') h0⟩
  have hA0 : Hid (∀ i j E y, plE vid rn rs sn ss sub id = 0 → FaceAt sn ss sub id i j → MoRel (sbAt ss i) (fcAt (sbAt ss i).fs j) E y → MoreA vid rn rs sn ss sub id E y) := fun i j E y h h1 h2 => ⟨fun h' => absurd h h', fun _ => ⟨i, j, h1, h2⟩⟩
  go_enter Tryz.func22, Tryz.ntmps22
  go_upto_region 1 with fail
  obtain ⟨w0, hw0⟩ : ∃ w0, w0 = (w.alloc (vpB vid (.slice rx rn rc) (.slice sx sn sc))).alloc (vpB 0 (.slice none 0 0) (.slice none 0 0)) := ⟨_, rfl⟩
  rw [← hw0]
  have hT0 : TN w w0 vid rx rn rc sx sn sc := by
    rw [hw0]
    exact ⟨heap_old _ (heap_new _ rfl), heap_new _ (by simp), bl2 w _ _⟩
  clear hw0
  have b0 : w0.cell? ⟨w.heap.size, 0, none⟩ = some (.int .i64 vid) := (box_cells hT0.hb).1 0
  have b1 : w0.cell? ⟨w.heap.size, 1, none⟩ = some (.slice rx rn rc) := (box_cells hT0.hb).1 1
  have b2 : w0.cell? ⟨w.heap.size, 2, none⟩ = some (.slice sx sn sc) := (box_cells hT0.hb).1 2
  have s0 : w0.cell? ⟨w.heap.size + 1, 0, none⟩ = some (.int .i64 0) := (box_cells hT0.hs).1 0
  have zs0 : w0.frozen? ⟨w.heap.size + 1, 0, none⟩ = false := (box_cells hT0.hs).2 0
  have s1 : w0.cell? ⟨w.heap.size + 1, 1, none⟩ = some (.slice none 0 0) := (box_cells hT0.hs).1 1
  have zs1 : w0.frozen? ⟨w.heap.size + 1, 1, none⟩ = false := (box_cells hT0.hs).2 1
  have s2 : w0.cell? ⟨w.heap.size + 1, 2, none⟩ = some (.slice none 0 0) := (box_cells hT0.hs).1 2
  have zs2 : w0.frozen? ⟨w.heap.size + 1, 2, none⟩ = false := (box_cells hT0.hs).2 2
  by_cases hc0 : chkV vid rn rs sn ss = 0
  · have hck := checkVpc_is vid rx rn rc rs sx sn sc ss 0 hc0 w0 (hv.later hT0.below) hrn hsn
    obtain ⟨f1, f2, f3, f4⟩ := chkV_few hc0
    have hcs := chkV_sub hc0
    have hris : Hid (∀ i, i < sn → ∀ j, j < (sbAt ss i).n → riseIB (fcAt (sbAt ss i).fs j).ns = true) := fun i hi j hj => chkV_riseI hc0 i hi j hj
    have hE1 : Hid (plE vid rn rs sn ss sub id = if fstAt sn (fun i => (sbAt ss i).id == sub) < 0 then 5 else if fstAt (sbAt ss (fstAt sn (fun i => (sbAt ss i).id == sub)).toNat).n (fun j => (fcAt (sbAt ss (fstAt sn (fun i => (sbAt ss i).id == sub)).toNat).fs j).id == id) < 0 then 5 else 0) := if_neg (c := chkV vid rn rs sn ss ≠ 0) (by simp [hc0])
    have hcz : Hid (chkV vid rn rs sn ss = 0) := hc0
    clear hc0
    go_wp2_with fail
    refine (hck).mono ?_
    rintro e w1 ⟨rfl, hbw1⟩
    have hT1 := hT0.later hbw1
    clear b0 b1 b2 s0 zs0 s1 zs1 s2 zs2
    have b0 : w1.cell? ⟨w.heap.size, 0, none⟩ = some (.int .i64 vid) := (box_cells hT1.hb).1 0
    have b1 : w1.cell? ⟨w.heap.size, 1, none⟩ = some (.slice rx rn rc) := (box_cells hT1.hb).1 1
    have b2 : w1.cell? ⟨w.heap.size, 2, none⟩ = some (.slice sx sn sc) := (box_cells hT1.hb).1 2
    have s0 : w1.cell? ⟨w.heap.size + 1, 0, none⟩ = some (.int .i64 0) := (box_cells hT1.hs).1 0
    have zs0 : w1.frozen? ⟨w.heap.size + 1, 0, none⟩ = false := (box_cells hT1.hs).2 0
    have s1 : w1.cell? ⟨w.heap.size + 1, 1, none⟩ = some (.slice none 0 0) := (box_cells hT1.hs).1 1
    have zs1 : w1.frozen? ⟨w.heap.size + 1, 1, none⟩ = false := (box_cells hT1.hs).2 1
    have s2 : w1.cell? ⟨w.heap.size + 1, 2, none⟩ = some (.slice none 0 0) := (box_cells hT1.hs).1 2
    have zs2 : w1.frozen? ⟨w.heap.size + 1, 2, none⟩ = false := (box_cells hT1.hs).2 2
    have hsp := fun t h => subAt_is vid sub rx rn rc sx sn sc ss t h w1 (hv.later hT1.below).subs (by omega)
    rcases fstAt_cases sn (fun i => (sbAt ss i).id == sub) with ⟨i, hi, hf, hno, hfp⟩ | ⟨hno, hfp⟩
    · have hsp' := hsp _ hfp
      have hE2 : Hid (plE vid rn rs sn ss sub id = if fstAt (sbAt ss i).n (fun j => (fcAt (sbAt ss i).fs j).id == id) < 0 then 5 else 0) := by
        have := hE1.out
        rw [hfp, if_neg (by omega)] at this
        unfold Hid
        simpa using this
      clear hsp hfp hE1
      have hHf : Hid ((sbAt ss i).id = sub ∧ ∀ j, j < i → (sbAt ss j).id ≠ sub) := ⟨by simpa using hf, fun j hj => by simpa using hno j hj⟩
      clear hf hno
      have hi' : Hid (i < sn) := hi
      have hn8 := f3 i hi
      obtain ⟨b, o, rfl, c0, c1, c2, c3⟩ := hv.subs.cells i hi
      go_wp2_with fail
      refine (hsp').mono ?_
      rintro e w2 ⟨rfl, hbw2⟩
      have hT2 := hT1.later hbw2
      clear b0 b1 b2 s0 zs0 s1 zs1 s2 zs2
      have b0 : w2.cell? ⟨w.heap.size, 0, none⟩ = some (.int .i64 vid) := (box_cells hT2.hb).1 0
      have b1 : w2.cell? ⟨w.heap.size, 1, none⟩ = some (.slice rx rn rc) := (box_cells hT2.hb).1 1
      have b2 : w2.cell? ⟨w.heap.size, 2, none⟩ = some (.slice (some ⟨b, o, none⟩) sn sc) := (box_cells hT2.hb).1 2
      have s0 : w2.cell? ⟨w.heap.size + 1, 0, none⟩ = some (.int .i64 0) := (box_cells hT2.hs).1 0
      have zs0 : w2.frozen? ⟨w.heap.size + 1, 0, none⟩ = false := (box_cells hT2.hs).2 0
      have s1 : w2.cell? ⟨w.heap.size + 1, 1, none⟩ = some (.slice none 0 0) := (box_cells hT2.hs).1 1
      have zs1 : w2.frozen? ⟨w.heap.size + 1, 1, none⟩ = false := (box_cells hT2.hs).2 1
      have s2 : w2.cell? ⟨w.heap.size + 1, 2, none⟩ = some (.slice none 0 0) := (box_cells hT2.hs).1 2
      have zs2 : w2.frozen? ⟨w.heap.size + 1, 2, none⟩ = false := (box_cells hT2.hs).2 2
      have i0 : (0 : Int) ≤ i := by omega
      have i1 : (i : Int) < sn := by omega
      have d0 := cell_later hT2.below c0
      have d1 := cell_later hT2.below c1
      have d2 := cell_later hT2.below c2
      have d3 := cell_later hT2.below c3
      have hfa := fun t h W (hW : Below w.heap.size w W) => faceAt_is (sbAt ss i) id t h W ((hv.later hW).subs.faces i hi).2.2 (by omega)
      rcases fstAt_cases (sbAt ss i).n (fun j => (fcAt (sbAt ss i).fs j).id == id) with ⟨j, hj, hjf, hjno, hjp⟩ | ⟨-, hjp⟩
      · have hfa' := hfa _ hjp
        have hE0 : Hid (plE vid rn rs sn ss sub id = 0) := hE2.out.trans (if_neg (by rw [hjp]; omega))
        have hFA : Hid (FaceAt sn ss sub id i j) := ⟨hi, hHf.out.1, hHf.out.2, hj, by simpa using hjf, fun k hk => by simpa using hjno k hk⟩
        have j0 : (0 : Int) ≤ j := by omega
        have j1 : (j : Int) < (sbAt ss i).n := by omega
        clear hfa hjp hjno hjf hE2
        go_wp2_with fail
        refine (hfa' w2 hT2.below).mono ?_
        rintro e w3 ⟨rfl, hb3⟩
        have hT3 := hT2.later hb3
        clear d0 d1 d2 d3
        clear b0 b1 b2 s0 zs0 s1 zs1 s2 zs2
        have b0 : w3.cell? ⟨w.heap.size, 0, none⟩ = some (.int .i64 vid) := (box_cells hT3.hb).1 0
        have b1 : w3.cell? ⟨w.heap.size, 1, none⟩ = some (.slice rx rn rc) := (box_cells hT3.hb).1 1
        have b2 : w3.cell? ⟨w.heap.size, 2, none⟩ = some (.slice (some ⟨b, o, none⟩) sn sc) := (box_cells hT3.hb).1 2
        have s0 : w3.cell? ⟨w.heap.size + 1, 0, none⟩ = some (.int .i64 0) := (box_cells hT3.hs).1 0
        have zs0 : w3.frozen? ⟨w.heap.size + 1, 0, none⟩ = false := (box_cells hT3.hs).2 0
        have s1 : w3.cell? ⟨w.heap.size + 1, 1, none⟩ = some (.slice none 0 0) := (box_cells hT3.hs).1 1
        have zs1 : w3.frozen? ⟨w.heap.size + 1, 1, none⟩ = false := (box_cells hT3.hs).2 1
        have s2 : w3.cell? ⟨w.heap.size + 1, 2, none⟩ = some (.slice none 0 0) := (box_cells hT3.hs).1 2
        have zs2 : w3.frozen? ⟨w.heap.size + 1, 2, none⟩ = false := (box_cells hT3.hs).2 2
        have d0 := cell_later hT3.below c0
        have d1 := cell_later hT3.below c1
        have d2 := cell_later hT3.below c2
        have d3 := cell_later hT3.below c3
        go_wp2_with fail
        refine (hfa' w3 hT3.below).mono ?_
        rintro e w3b ⟨rfl, hb3b⟩
        have hT3b := hT3.later hb3b
        clear d0 d1 d2 d3 hfa'
        clear b0 b1 b2 s0 zs0 s1 zs1 s2 zs2
        have b0 : w3b.cell? ⟨w.heap.size, 0, none⟩ = some (.int .i64 vid) := (box_cells hT3b.hb).1 0
        have b1 : w3b.cell? ⟨w.heap.size, 1, none⟩ = some (.slice rx rn rc) := (box_cells hT3b.hb).1 1
        have b2 : w3b.cell? ⟨w.heap.size, 2, none⟩ = some (.slice (some ⟨b, o, none⟩) sn sc) := (box_cells hT3b.hb).1 2
        have s0 : w3b.cell? ⟨w.heap.size + 1, 0, none⟩ = some (.int .i64 0) := (box_cells hT3b.hs).1 0
        have zs0 : w3b.frozen? ⟨w.heap.size + 1, 0, none⟩ = false := (box_cells hT3b.hs).2 0
        have s1 : w3b.cell? ⟨w.heap.size + 1, 1, none⟩ = some (.slice none 0 0) := (box_cells hT3b.hs).1 1
        have zs1 : w3b.frozen? ⟨w.heap.size + 1, 1, none⟩ = false := (box_cells hT3b.hs).2 1
        have s2 : w3b.cell? ⟨w.heap.size + 1, 2, none⟩ = some (.slice none 0 0) := (box_cells hT3b.hs).1 2
        have zs2 : w3b.frozen? ⟨w.heap.size + 1, 2, none⟩ = false := (box_cells hT3b.hs).2 2
        have d0 := cell_later hT3b.below c0
        have d1 := cell_later hT3b.below c1
        have d2 := cell_later hT3b.below c2
        have d3 := cell_later hT3b.below c3
        have hle := leastR_any (sbAt ss i) w3b (hcs i hi).1 ((hv.later hT3b.below).subs.faces i hi).2.2 (by omega) (fun j hj => by have := f4 i hi j hj; omega)
        go_wp2_with fail
        refine hle.mono ?_
        rintro e wf ⟨hbf3, hgg⟩
        obtain ⟨y, rfl, hLy⟩ : ∃ y, e = .returned (.int .i64 y) ∧ Hid ((0 ≤ y ∧ Least (sbAt ss i) y) ∨ (y = -1 ∧ ∀ z, usB (sbAt ss i).a (sbAt ss i).l z = true → z ∈ allNs (sbAt ss i).fs)) := by
          rcases hgg with ⟨y, rfl, h1, h2⟩ | ⟨rfl, h1⟩
          · exact ⟨y, rfl, .inl ⟨h1, h2⟩⟩
          · exact ⟨-1, rfl, .inr ⟨rfl, h1⟩⟩
        have hTf := hT3b.later hbf3
        clear hle hgg d0 d1 d2 d3
        obtain ⟨bf, of, hbf', q0', q1'⟩ := (hv.subs.faces i hi).2.2.cells j hj
        have d3x : wf.cell? ⟨b, o + i * 4 + 3, none⟩ = some (.slice (some ⟨bf, of, none⟩) (sbAt ss i).n (sbAt ss i).c) := by rw [← hbf']; exact cell_later hTf.below c3
        obtain ⟨fn, hfn⟩ : ∃ fn, Hid ((fcAt (sbAt ss i).fs j).n = fn) := ⟨_, rfl⟩
        have p1x : wf.cell? ⟨bf, of + j * 2 + 1, none⟩ = some (.slice (fcAt (sbAt ss i).fs j).x fn (fcAt (sbAt ss i).fs j).c) := by rw [← hfn.out]; exact cell_later hTf.below q1'
        have hfn4 : fn ≤ 4 := by rw [← hfn.out]; exact f4 i hi j hj
        clear hbf' q0' q1'
        clear b0 b1 b2 s0 zs0 s1 zs1 s2 zs2
        have b0 : wf.cell? ⟨w.heap.size, 0, none⟩ = some (.int .i64 vid) := (box_cells hTf.hb).1 0
        have b1 : wf.cell? ⟨w.heap.size, 1, none⟩ = some (.slice rx rn rc) := (box_cells hTf.hb).1 1
        have b2 : wf.cell? ⟨w.heap.size, 2, none⟩ = some (.slice (some ⟨b, o, none⟩) sn sc) := (box_cells hTf.hb).1 2
        have s0 : wf.cell? ⟨w.heap.size + 1, 0, none⟩ = some (.int .i64 0) := (box_cells hTf.hs).1 0
        have zs0 : wf.frozen? ⟨w.heap.size + 1, 0, none⟩ = false := (box_cells hTf.hs).2 0
        have s1 : wf.cell? ⟨w.heap.size + 1, 1, none⟩ = some (.slice none 0 0) := (box_cells hTf.hs).1 1
        have zs1 : wf.frozen? ⟨w.heap.size + 1, 1, none⟩ = false := (box_cells hTf.hs).2 1
        have s2 : wf.cell? ⟨w.heap.size + 1, 2, none⟩ = some (.slice none 0 0) := (box_cells hTf.hs).1 2
        have zs2 : wf.frozen? ⟨w.heap.size + 1, 2, none⟩ = false := (box_cells hTf.hs).2 2
        by_cases h4 : fn = 4
        · have hMR : Hid (MoreA vid rn rs sn ss sub id 2 0) := hA0.out i j 2 0 hE0.out hFA.out (by unfold MoRel; rw [if_pos (hfn.out.trans h4)]; exact ⟨rfl, rfl⟩)
          have h4' : (4 : Int) ≤ fn := by omega
          clear h4
          go_wp2
          refine bodyPost_ret (v := .tuple #[.agg #[.int .i64 0, .slice none 0 0, .slice none 0 0], .int .i64 0, .int .i64 2]) (by simp [results, Tryz.results22, go_sem, s0, s1, s2]) rfl ?_
          exact VAPost.err hMR.out (by decide) (((hTf.below.setCell (p := ⟨w.heap.size + 1, 0, none⟩) (Nat.le_add_right _ _) _).setCell (p := ⟨w.heap.size + 1, 1, none⟩) (Nat.le_add_right _ _) _).setCell (p := ⟨w.heap.size + 1, 2, none⟩) (Nat.le_add_right _ _) _)
        · have hMo : Hid (∀ E y, GiveOr (sbAt ss i) E y → MoRel (sbAt ss i) (fcAt (sbAt ss i).fs j) E y) := fun E y h => by unfold MoRel; rw [if_neg (by rw [hfn.out]; exact h4)]; exact h
          have h4' : ¬ (4 : Int) ≤ fn := by omega
          rcases hLy.out with ⟨hy0, hL⟩ | ⟨rfl, hfull⟩
          · have hMR : Hid (MoRel (sbAt ss i) (fcAt (sbAt ss i).fs j) 0 y) := hMo.out 0 y (.inl ⟨rfl, hL⟩)
            have hMA : Hid (MoreA vid rn rs sn ss sub id 0 y) := hA0.out i j 0 y hE0.out hFA.out hMR.out
            have hy1 : ¬ y < 0 := by omega
            clear hLy hL hMo hAe hA0
            have hown := ownVpc2_any vid rx rn rc rs (some ⟨b, o, none⟩) sn sc ss wf (hv.later hTf.below) (by omega) (by omega) (fun i hi => by have := f3 i hi; omega) (fun i hi j hj => by have := f4 i hi j hj; omega)
            go_wp2_with fail
            refine hown.mono ?_
            rintro e w5 ⟨vR, vS, ts, rfl, hOR, hss, hOS, hb5, hApS⟩
            clear hown d3x p1x h4'
            have hT5 := hTf.later hb5
            have htl : Hid (ts.length = sn) := by unfold Hid; rw [← hss.1]; exact hsl.out
            have hit : i < ts.length := by rw [htl.out]; exact hi
            have hsi := hss.2 i (by rw [hss.1]; exact hit)
            obtain ⟨hfS, hfl, hfc, hfm⟩ := (hOS.own i hit).fcs
            have hjn : j < (sbAt ts i).n := by rw [← hsi.2.2.2.1]; exact hj
            have hjf : j < (sbAt ts i).fs.length := by rw [hfl]; exact hjn
            have hsf := hsi.2.2.2.2.2 j (by rw [hsi.2.2.2.2.1]; exact hjf)
            obtain ⟨xr, cr, rfl, -⟩ := hOR.rs
            obtain ⟨g, cap, hg5, cur, hgh, hvS⟩ : ∃ g cap, wf.heap.size ≤ g ∧ ∃ cur, w5.heap[g]? = some (.cells cur 55) ∧ vS = .slice (some ⟨g, 0, none⟩) ts.length cap := by
              obtain ⟨x2, c2, hv2, -⟩ := hOS.row.mem
              rcases hOS.row.2 with ⟨hv', -⟩ | ⟨g, cap, cur, hv', hg1, hg2, -⟩
              · rw [hv'] at hv2; simp only [Value.slice.injEq] at hv2; omega
              · exact ⟨g, cap, hg1, cur, hg2, hv'⟩
            subst hvS
            obtain ⟨gf, cf, hgf5, curf, hgfh, hvF⟩ : ∃ gf cf, wf.heap.size ≤ gf ∧ ∃ curf, w5.heap[gf]? = some (.cells curf 68) ∧ Hid (Value.slice (sbAt ts i).x (sbAt ts i).n (sbAt ts i).c = .slice (some ⟨gf, 0, none⟩) (sbAt ts i).n cf) := by
              rcases (hOS.own i hit).row.2 with ⟨hv', -⟩ | ⟨gf, cf, curf, hv', hg1, hg2, -⟩
              · simp only [Value.slice.injEq] at hv'; omega
              · exact ⟨gf, cf, hg1, curf, hg2, by unfold Hid; rw [hv', hfl]⟩
            have hgl : g < w5.heap.size := (Array.getElem?_eq_some_iff.1 hgh).1
            have hgfl : gf < w5.heap.size := (Array.getElem?_eq_some_iff.1 hgfh).1
            have hbf : Hid (w5.heap.size ≠ gf) := by unfold Hid; omega
            have hapF : Hid (∀ q, q < ts.length → q ≠ i → (Value.slice (sbAt ts q).x (sbAt ts q).n (sbAt ts q).c).ownBlock ≠ some gf) := fun q hq hqi e => hOS.apart i q hit hq (fun h => hqi h.symm) gf (by rw [hvF.out]; rfl) e
            have hfn2 : Hid ((fcAt (sbAt ts i).fs j).n = fn) := by unfold Hid; rw [← hsf.2.1]; exact hfn.out
            have hns2 : Hid ((fcAt (sbAt ts i).fs j).ns = (fcAt (sbAt ss i).fs j).ns) := hsf.2.2.symm
            have hjf' : Hid (j < (sbAt ts i).fs.length) := hjf
            have hris2 : Hid (riseIB (fcAt (sbAt ts i).fs j).ns = true) := by unfold Hid; rw [hns2.out]; exact hris.out i hi j hj
            clear b0 b1 b2 s0 zs0 s1 zs1 s2 zs2
            go_upto_region 14 with fail
            obtain ⟨w6, hw6⟩ : ∃ w6, w6 = w5.alloc (vpB vid (.slice xr rs.length cr) (.slice (some ⟨g, 0, none⟩) ts.length cap)) := ⟨_, rfl⟩
            rw [← hw6]
            have hb56 : Below w5.heap.size w5 w6 := by rw [hw6]; exact bl1 _ _
            have hn6 : w6.heap[w5.heap.size]? = some (vpB vid (.slice xr rs.length cr) (.slice (some ⟨g, 0, none⟩) ts.length cap)) := by rw [hw6]; exact heap_new _ rfl
            clear hw6
            have h13 : w1.heap.size ≤ wf.heap.size := Nat.le_trans hbw2.size (Nat.le_trans hb3.size (Nat.le_trans hb3b.size hbf3.size))
            have hT6 := hT5.later hb56
            have hOR6 := OwnR.later (hOR.low (base' := w1.heap.size) h13) hb56
            have hOS6 := OSs.later (hOS.low (base' := w1.heap.size) h13) hb56
            have hOF6 := (hOS6.own i hit).row
            rw [hvF.out] at hOF6
            have n2 : w6.cell? ⟨w5.heap.size, 2, none⟩ = some (.slice (some ⟨g, 0, none⟩) ts.length cap) := (box_cells hn6).1 2
            have d3 : w6.cell? ⟨g, i * 4 + 3, none⟩ = some (.slice (some ⟨gf, 0, none⟩) (sbAt ts i).n cf) := by
              obtain ⟨x2, c2, he2, -, -, -, hm'⟩ := hOS6.row.mem
              simp only [Value.slice.injEq] at he2
              obtain ⟨b2, o2, he3, -, -, -, c8⟩ := hm' i hit
              rw [← he2.1] at he3
              simp only [Option.some.injEq, Addr.mk.injEq] at he3
              obtain ⟨rfl, rfl, -⟩ := he3
              rw [hvF.out] at c8
              simpa using c8
            have p1 : w6.cell? ⟨gf, j * 2 + 1, none⟩ = some (.slice (fcAt (sbAt ts i).fs j).x (fcAt (sbAt ts i).fs j).n (fcAt (sbAt ts i).fs j).c) := by
              obtain ⟨x2, c2, he2, -, -, -, hm'⟩ := hOF6.mem
              simp only [Value.slice.injEq] at he2
              obtain ⟨b2, o2, he3, -, c8⟩ := hm' j hjf
              rw [← he2.1] at he3
              simp only [Option.some.injEq, Addr.mk.injEq] at he3
              obtain ⟨rfl, rfl, -⟩ := he3
              simpa using c8
            have i1' : (i : Int) < ts.length := by omega
            have j1' : (j : Int) < (sbAt ts i).n := by omega
            have hIj := (hOS6.own i hit).own j hjf
            obtain ⟨hIS, hIl, hIc, hIm⟩ := hIj.is
            have hIl' : Hid ((fcAt (sbAt ts i).fs j).ns.length = fn) := by unfold Hid; rw [hIl]; exact hfn2.out
            have hsz1 : w.heap.size + 1 < w1.heap.size := (Array.getElem?_eq_some_iff.1 hT1.hs).1
            have hb16 : w1.heap.size ≤ w6.heap.size := by have := hb5.size; have := hb56.size; omega
            clear hfS hfl hfc hfm hsi hsf hIS hIl hIc hIm hjn hjf
            go_wp2_with (at_builtin; refine Hid.out ?_)
            unfold Hid
            have hbB : Below w6.heap.size w6 (w6.alloc (.cells #[.int .i64 y] 3)) := bl1 w6 _
            have hcB : (w6.alloc (.cells #[.int .i64 y] 3)).heap[w6.heap.size]? = some (.cells #[.int .i64 y] 3) := heap_new _ rfl
            generalize w6.alloc (.cells #[.int .i64 y] 3) = wB at hbB hcB ⊢
            refine wpList_append_Iat rfl _ _ rfl w1.heap.size _ (fcAt (sbAt ts i).fs j).ns rfl (hIj.later hbB) ⟨w6.heap.size, 0, none⟩ 1 1 [y] rfl rfl ?_ (by rw [hIl'.out]; omega) (Nat.le_trans hb16 hbB.size) ?_
            · intro q u hq
              rw [addr_add, Nat.zero_add]
              exact ((box_cells hcB).1 q).trans (by rw [List.getElem?_toArray]; exact hq)
            intro v9 w9 hI9 hg9 hat
            obtain ⟨gi, ci, hv9⟩ : ∃ gi ci, v9 = .slice (some ⟨gi, 0, none⟩) (fn + 1) ci := by
              rcases hI9.2 with ⟨-, hv'⟩ | ⟨gi, ci, c9, hv', -⟩
              · simp at hv'
              · exact ⟨gi, ci, by rw [hv']; simp [hIl'.out]⟩
            subst hv9
            obtain ⟨n0, hn0⟩ : ∃ n0, n0 = fn := ⟨_, rfl⟩
            have hn0' : Hid (n0 = (fcAt (sbAt ts i).fs j).ns.length) := by unfold Hid; rw [hn0]; exact hIl'.out.symm
            rw [← hn0] at hI9 hat hfn4 ⊢
            have hW0 : MoW w w9 w1.heap.size w5.heap.size gi (n0 + 1) ci i j vid (.slice xr rs.length cr) (.slice (some ⟨g, 0, none⟩) ts.length cap) rs ts ((fcAt (sbAt ts i).fs j).ns.take n0 ++ [y] ++ (fcAt (sbAt ts i).fs j).ns.drop n0) := by
              have e := hn0'.out
              have hx := MoW.start hit hjf'.out hsz1 (OSs.later hOS6 hbB) hApS (heap_later hbB hn6) (heap_later hbB hT6.hs) (hT6.later hbB).below (OwnR.later hOR6 hbB) hI9 hg9 hat
              rw [show (fcAt (sbAt ts i).fs j).ns.take n0 ++ [y] ++ (fcAt (sbAt ts i).fs j).ns.drop n0 = (fcAt (sbAt ts i).fs j).ns ++ [y] by rw [e, List.take_length, List.drop_length, List.append_nil]]
              exact hx
            clear hI9 hg9 hat p1 d3 n2 hn0 hcB
            go_wp2
            go_loopw [15] (fun kv wr => ∃ k : Nat, kv = .int .i64 k ∧ k ≤ n0 ∧ MoW w wr w1.heap.size w5.heap.size gi (n0 + 1) ci i j vid (.slice xr rs.length cr) (.slice (some ⟨g, 0, none⟩) ts.length cap) rs ts ((fcAt (sbAt ts i).fs j).ns.take k ++ [y] ++ (fcAt (sbAt ts i).fs j).ns.drop k) ∧ Hid (∀ q, k ≤ q → q < n0 → y < inAt (fcAt (sbAt ts i).fs j).ns q)) (fun kv _ => (intOf kv).toNat)
            case atStart => exact ⟨n0, by simp, Nat.le_refl _, hW0, fun q h1 h2 => by omega⟩
            case round =>
              clear hW0
              obtain ⟨k, rfl, hkn, hW, hgt⟩ := hrel
              have hcl : Hid (((fcAt (sbAt ts i).fs j).ns.take k ++ [y] ++ (fcAt (sbAt ts i).fs j).ns.drop k).length = n0 + 1) := by unfold Hid; have := hn0'.out; simp; omega
              cases k with
              | zero =>
                have hput : Hid (PutIn y (fcAt (sbAt ts i).fs j).ns ((fcAt (sbAt ts i).fs j).ns.take 0 ++ [y] ++ (fcAt (sbAt ts i).fs j).ns.drop 0)) := ⟨0, Nat.zero_le _, fun q hq => by omega, fun h => hgt.out 0 (Nat.zero_le _) (by rw [hn0'.out]; exact h), rfl⟩
                obtain ⟨c00, c01⟩ := hW.cell 0 (by rw [hcl.out]; omega)
                go_upto_region 16 with fail
                refine wp_region_ws wr.heap.size (by kernel_rfl) (by kernel_rfl) ?_
                repeat (go_big_quiet_step (fail))
                refine wpQuiet_nil ?_
                rintro _ ⟨u, rfl⟩
                have hbu := u.property
                generalize u.val = wu at hbu ⊢
                clear u
                clear c00 c01
                have hWu := hW.later hbu
                have m2 : wu.cell? ⟨w5.heap.size, 2, none⟩ = some (.slice (some ⟨g, 0, none⟩) ts.length cap) := (box_cells hWu.ho).1 2
                have k3 : wu.cell? ⟨g, i * 4 + 3, none⟩ = some (.slice (some ⟨gf, 0, none⟩) (sbAt ts i).n cf) := by
                  obtain ⟨x2, c2, he2, -, -, -, hm'⟩ := hWu.row.mem
                  simp only [Value.slice.injEq] at he2
                  obtain ⟨b2, o2, he3, -, -, -, c8⟩ := hm' i hit
                  rw [← he2.1] at he3
                  simp only [Option.some.injEq, Addr.mk.injEq] at he3
                  obtain ⟨rfl, rfl, -⟩ := he3
                  rw [hvF.out] at c8
                  simpa using c8
                have hOFu := hWu.fcs i hit
                rw [hvF.out] at hOFu
                have p1 : wu.cell? ⟨gf, j * 2 + 1, none⟩ = some (.slice (fcAt (sbAt ts i).fs j).x (fcAt (sbAt ts i).fs j).n (fcAt (sbAt ts i).fs j).c) := by
                  obtain ⟨x2, c2, he2, -, -, -, hm'⟩ := hOFu.mem
                  simp only [Value.slice.injEq] at he2
                  obtain ⟨b2, o2, he3, -, c8⟩ := hm' j hjf'.out
                  rw [← he2.1] at he3
                  simp only [Option.some.injEq, Addr.mk.injEq] at he3
                  obtain ⟨rfl, rfl, -⟩ := he3
                  simpa using c8
                have pz : wu.frozen? ⟨gf, j * 2 + 1, none⟩ = false := hOFu.frozen _
                obtain ⟨hbgf, cgf, hcgf⟩ := hOFu.block
                have hnv := hWu.nvo (u0 := .int .i64 vid) (u1 := .slice xr rs.length cr) (u2 := .slice (some ⟨g, 0, none⟩) ts.length cap) hit hjf'.out hapF.out hvF.out hsz1 hcl.out.symm
                go_upto_region 22 with fail
                obtain ⟨wv, hwv⟩ : ∃ wv, wv = wu.setCell ⟨gf, j * 2 + 1, none⟩ (.slice (some ⟨gi, 0, none⟩) (n0 + 1) ci) := ⟨_, rfl⟩
                rw [← hwv] at hnv ⊢
                have hov : wv.heap[w5.heap.size]? = some (vpB vid (.slice xr rs.length cr) (.slice (some ⟨g, 0, none⟩) ts.length cap)) := by rw [hwv]; exact (heap_setCell_other _ _ _ _ hbf.out).trans hWu.ho
                have hsv : wv.heap[w.heap.size + 1]? = some (vpB 0 (.slice none 0 0) (.slice none 0 0)) := by rw [hwv]; exact (heap_setCell_other _ _ _ _ (by show w.heap.size + 1 ≠ gf; omega)).trans hWu.hs
                have hBv : Below w.heap.size w wv := by rw [hwv]; exact hWu.below.setCell (p := ⟨gf, j * 2 + 1, none⟩) (by show w.heap.size ≤ gf; omega) _
                clear hwv p1 pz m2 k3
                have m0 : wv.cell? ⟨w5.heap.size, 0, none⟩ = some (.int .i64 vid) := (box_cells hov).1 0
                have m1 : wv.cell? ⟨w5.heap.size, 1, none⟩ = some (.slice xr rs.length cr) := (box_cells hov).1 1
                have m2 : wv.cell? ⟨w5.heap.size, 2, none⟩ = some (.slice (some ⟨g, 0, none⟩) ts.length cap) := (box_cells hov).1 2
                have s0 : wv.cell? ⟨w.heap.size + 1, 0, none⟩ = some (.int .i64 0) := (box_cells hsv).1 0
                have s1 : wv.cell? ⟨w.heap.size + 1, 1, none⟩ = some (.slice none 0 0) := (box_cells hsv).1 1
                have s2 : wv.cell? ⟨w.heap.size + 1, 2, none⟩ = some (.slice none 0 0) := (box_cells hsv).1 2
                have zs0 := (box_cells hsv).2 0
                have zs1 := (box_cells hsv).2 1
                have zs2 := (box_cells hsv).2 2
                go_wp2
                refine bodyPost_ret (v := .tuple #[.agg #[.int .i64 vid, .slice xr rs.length cr, .slice (some ⟨g, 0, none⟩) ts.length cap], .int .i64 y, .int .i64 0]) (by simp [results, Tryz.results22, go_sem, s0, s1, s2]) rfl ?_
                exact VAPost.ok hMA.out (((hBv.setCell (p := ⟨w.heap.size + 1, 0, none⟩) (Nat.le_add_right _ _) _).setCell (p := ⟨w.heap.size + 1, 1, none⟩) (Nat.le_add_right _ _) _).setCell (p := ⟨w.heap.size + 1, 2, none⟩) (Nat.le_add_right _ _) _) ⟨hcz.out, ts, i, j, some ⟨gi, 0, none⟩, ci, _, hFA.out, hMR.out, hss, hput.out, hnv⟩
              | succ q =>
                have hql : q < (fcAt (sbAt ts i).fs j).ns.length := by rw [← hn0'.out]; omega
                obtain ⟨c00, c01⟩ := hW.cell q (by rw [hcl.out]; omega)
                obtain ⟨c10, c11⟩ := hW.cell (q + 1) (by rw [hcl.out]; omega)
                rw [inAt_ins hql, if_pos (Nat.lt_succ_self q)] at c00
                rw [inAt_ins hql, if_neg (Nat.lt_irrefl _), if_pos rfl] at c10
                have q0 : (0 : Int) ≤ q := by omega
                have q1 : (q : Int) < (n0 : Int) + 1 := by omega
                have q2 : (q : Int) + 1 < (n0 : Int) + 1 := by omega
                have q3 : (0 : Int) ≤ (q : Int) + 1 := by omega
                have q4 : (0 : Int) < (q : Int) + 1 := by omega
                have qw : IntKind.i64.wrap ((q : Int)) = (q : Int) := by rw [IntKind.wrap_i64]; omega
                by_cases hsw : y < inAt (fcAt (sbAt ts i).fs j).ns q
                · go_upto_region 16 with fail
                  have a4 := Ws.here c00
                  have a5 := Ws.here c10
                  refine wp_region_ws wr.heap.size (by kernel_rfl) (by kernel_rfl) ?_
                  repeat (go_big_quiet_step (fail))
                  refine wpQuiet_nil ?_
                  rintro _ ⟨u, rfl⟩
                  have hbu := u.property
                  generalize u.val = wu at hbu ⊢
                  clear u a4 a5 c00 c01 c10 c11
                  have hWu := hW.later hbu
                  obtain ⟨c00, c01⟩ := hWu.cell q (by rw [hcl.out]; omega)
                  obtain ⟨c10, c11⟩ := hWu.cell (q + 1) (by rw [hcl.out]; omega)
                  rw [inAt_ins hql, if_pos (Nat.lt_succ_self q)] at c00
                  rw [inAt_ins hql, if_neg (Nat.lt_irrefl _), if_pos rfl] at c10
                  go_upto_region 18 with fail
                  have a4 := Ws.here c00
                  have a5 := Ws.here c10
                  refine wp_region_ws wu.heap.size (by kernel_rfl) (by kernel_rfl) ?_
                  repeat (go_big_quiet_step (fail))
                  refine wpQuiet_nil ?_
                  rintro _ ⟨u, rfl⟩
                  have hbu2 := u.property
                  generalize u.val = wz at hbu2 ⊢
                  clear u a4 a5 c00 c01 c10 c11
                  have hWz := hWu.later hbu2
                  obtain ⟨c00, c01⟩ := hWz.cell q (by rw [hcl.out]; omega)
                  rw [inAt_ins hql, if_pos (Nat.lt_succ_self q)] at c00
                  go_upto_region 20 with fail
                  have hWy := hWz.put hsz1 q y
                  obtain ⟨wy, hwy⟩ : ∃ wy, wy = wz.setCell ⟨gi, q, none⟩ (.int .i64 y) := ⟨_, rfl⟩
                  rw [← hwy] at hWy ⊢
                  clear hwy c00 c01
                  obtain ⟨c10, c11⟩ := hWy.cell (q + 1) (by rw [List.length_set, hcl.out]; omega)
                  have hWx := hWy.put hsz1 (q + 1) (inAt (fcAt (sbAt ts i).fs j).ns q)
                  rw [swap_insI (inAt_some hql)] at hWx
                  go_wp2
                  go_roundw
                  case rel => exact ⟨q, by go_num, by omega, hWx, fun p h1 h2 => by
                    by_cases hp : p = q
                    · subst hp; exact hsw
                    · exact hgt.out p (by omega) h2⟩
                  case measure => simp [intOf]
                · have hput : Hid (PutIn y (fcAt (sbAt ts i).fs j).ns ((fcAt (sbAt ts i).fs j).ns.take (q + 1) ++ [y] ++ (fcAt (sbAt ts i).fs j).ns.drop (q + 1))) := ⟨q + 1, hql, fun p hp => by
                    by_cases hpq : p = q
                    · subst hpq; exact hsw
                    · have h1 := riseI_lt hris2.out p q (by omega) hql
                      omega, fun h => hgt.out (q + 1) (Nat.le_refl _) (by rw [hn0'.out]; exact h), rfl⟩
                  go_upto_region 16 with fail
                  have a4 := Ws.here c00
                  have a5 := Ws.here c10
                  refine wp_region_ws wr.heap.size (by kernel_rfl) (by kernel_rfl) ?_
                  repeat (go_big_quiet_step (fail))
                  refine wpQuiet_nil ?_
                  rintro _ ⟨u, rfl⟩
                  have hbu := u.property
                  generalize u.val = wu at hbu ⊢
                  clear u a4 a5 c10 c11
                  clear c00 c01
                  have hWu := hW.later hbu
                  have m2 : wu.cell? ⟨w5.heap.size, 2, none⟩ = some (.slice (some ⟨g, 0, none⟩) ts.length cap) := (box_cells hWu.ho).1 2
                  have k3 : wu.cell? ⟨g, i * 4 + 3, none⟩ = some (.slice (some ⟨gf, 0, none⟩) (sbAt ts i).n cf) := by
                    obtain ⟨x2, c2, he2, -, -, -, hm'⟩ := hWu.row.mem
                    simp only [Value.slice.injEq] at he2
                    obtain ⟨b2, o2, he3, -, -, -, c8⟩ := hm' i hit
                    rw [← he2.1] at he3
                    simp only [Option.some.injEq, Addr.mk.injEq] at he3
                    obtain ⟨rfl, rfl, -⟩ := he3
                    rw [hvF.out] at c8
                    simpa using c8
                  have hOFu := hWu.fcs i hit
                  rw [hvF.out] at hOFu
                  have p1 : wu.cell? ⟨gf, j * 2 + 1, none⟩ = some (.slice (fcAt (sbAt ts i).fs j).x (fcAt (sbAt ts i).fs j).n (fcAt (sbAt ts i).fs j).c) := by
                    obtain ⟨x2, c2, he2, -, -, -, hm'⟩ := hOFu.mem
                    simp only [Value.slice.injEq] at he2
                    obtain ⟨b2, o2, he3, -, c8⟩ := hm' j hjf'.out
                    rw [← he2.1] at he3
                    simp only [Option.some.injEq, Addr.mk.injEq] at he3
                    obtain ⟨rfl, rfl, -⟩ := he3
                    simpa using c8
                  have pz : wu.frozen? ⟨gf, j * 2 + 1, none⟩ = false := hOFu.frozen _
                  obtain ⟨hbgf, cgf, hcgf⟩ := hOFu.block
                  have hnv := hWu.nvo (u0 := .int .i64 vid) (u1 := .slice xr rs.length cr) (u2 := .slice (some ⟨g, 0, none⟩) ts.length cap) hit hjf'.out hapF.out hvF.out hsz1 hcl.out.symm
                  go_upto_region 22 with fail
                  obtain ⟨wv, hwv⟩ : ∃ wv, wv = wu.setCell ⟨gf, j * 2 + 1, none⟩ (.slice (some ⟨gi, 0, none⟩) (n0 + 1) ci) := ⟨_, rfl⟩
                  rw [← hwv] at hnv ⊢
                  have hov : wv.heap[w5.heap.size]? = some (vpB vid (.slice xr rs.length cr) (.slice (some ⟨g, 0, none⟩) ts.length cap)) := by rw [hwv]; exact (heap_setCell_other _ _ _ _ hbf.out).trans hWu.ho
                  have hsv : wv.heap[w.heap.size + 1]? = some (vpB 0 (.slice none 0 0) (.slice none 0 0)) := by rw [hwv]; exact (heap_setCell_other _ _ _ _ (by show w.heap.size + 1 ≠ gf; omega)).trans hWu.hs
                  have hBv : Below w.heap.size w wv := by rw [hwv]; exact hWu.below.setCell (p := ⟨gf, j * 2 + 1, none⟩) (by show w.heap.size ≤ gf; omega) _
                  clear hwv p1 pz m2 k3
                  have m0 : wv.cell? ⟨w5.heap.size, 0, none⟩ = some (.int .i64 vid) := (box_cells hov).1 0
                  have m1 : wv.cell? ⟨w5.heap.size, 1, none⟩ = some (.slice xr rs.length cr) := (box_cells hov).1 1
                  have m2 : wv.cell? ⟨w5.heap.size, 2, none⟩ = some (.slice (some ⟨g, 0, none⟩) ts.length cap) := (box_cells hov).1 2
                  have s0 : wv.cell? ⟨w.heap.size + 1, 0, none⟩ = some (.int .i64 0) := (box_cells hsv).1 0
                  have s1 : wv.cell? ⟨w.heap.size + 1, 1, none⟩ = some (.slice none 0 0) := (box_cells hsv).1 1
                  have s2 : wv.cell? ⟨w.heap.size + 1, 2, none⟩ = some (.slice none 0 0) := (box_cells hsv).1 2
                  have zs0 := (box_cells hsv).2 0
                  have zs1 := (box_cells hsv).2 1
                  have zs2 := (box_cells hsv).2 2
                  go_wp2
                  refine bodyPost_ret (v := .tuple #[.agg #[.int .i64 vid, .slice xr rs.length cr, .slice (some ⟨g, 0, none⟩) ts.length cap], .int .i64 y, .int .i64 0]) (by simp [results, Tryz.results22, go_sem, s0, s1, s2]) rfl ?_
                  exact VAPost.ok hMA.out (((hBv.setCell (p := ⟨w.heap.size + 1, 0, none⟩) (Nat.le_add_right _ _) _).setCell (p := ⟨w.heap.size + 1, 1, none⟩) (Nat.le_add_right _ _) _).setCell (p := ⟨w.heap.size + 1, 2, none⟩) (Nat.le_add_right _ _) _) ⟨hcz.out, ts, i, j, some ⟨gi, 0, none⟩, ci, _, hFA.out, hMR.out, hss, hput.out, hnv⟩
          · have hMA : Hid (MoreA vid rn rs sn ss sub id 8 0) := hA0.out i j 8 0 hE0.out hFA.out (hMo.out 8 0 (.inr ⟨rfl, rfl, hfull⟩))
            clear hfull hLy
            go_wp2
            refine bodyPost_ret (v := .tuple #[.agg #[.int .i64 0, .slice none 0 0, .slice none 0 0], .int .i64 0, .int .i64 8]) (by simp [results, Tryz.results22, go_sem, s0, s1, s2]) rfl ?_
            exact VAPost.err hMA.out (by decide) (((hTf.below.setCell (p := ⟨w.heap.size + 1, 0, none⟩) (Nat.le_add_right _ _) _).setCell (p := ⟨w.heap.size + 1, 1, none⟩) (Nat.le_add_right _ _) _).setCell (p := ⟨w.heap.size + 1, 2, none⟩) (Nat.le_add_right _ _) _)
      · have hfa' := hfa _ hjp
        have hA5 : Hid (MoreA vid rn rs sn ss sub id 5 0) := hAe.out 5 (hE2.out.trans (if_pos (by rw [hjp]; decide))) (by decide)
        clear hfa hjp hE2
        go_wp2_with fail
        refine (hfa' w2 hT2.below).mono ?_
        rintro e w3 ⟨rfl, hb3⟩
        have hT3 := hT2.later hb3
        clear d0 d1 d2 d3
        clear b0 b1 b2 s0 zs0 s1 zs1 s2 zs2
        have b0 : w3.cell? ⟨w.heap.size, 0, none⟩ = some (.int .i64 vid) := (box_cells hT3.hb).1 0
        have b1 : w3.cell? ⟨w.heap.size, 1, none⟩ = some (.slice rx rn rc) := (box_cells hT3.hb).1 1
        have b2 : w3.cell? ⟨w.heap.size, 2, none⟩ = some (.slice (some ⟨b, o, none⟩) sn sc) := (box_cells hT3.hb).1 2
        have s0 : w3.cell? ⟨w.heap.size + 1, 0, none⟩ = some (.int .i64 0) := (box_cells hT3.hs).1 0
        have zs0 : w3.frozen? ⟨w.heap.size + 1, 0, none⟩ = false := (box_cells hT3.hs).2 0
        have s1 : w3.cell? ⟨w.heap.size + 1, 1, none⟩ = some (.slice none 0 0) := (box_cells hT3.hs).1 1
        have zs1 : w3.frozen? ⟨w.heap.size + 1, 1, none⟩ = false := (box_cells hT3.hs).2 1
        have s2 : w3.cell? ⟨w.heap.size + 1, 2, none⟩ = some (.slice none 0 0) := (box_cells hT3.hs).1 2
        have zs2 : w3.frozen? ⟨w.heap.size + 1, 2, none⟩ = false := (box_cells hT3.hs).2 2
        go_wp2
        refine bodyPost_ret (v := .tuple #[.agg #[.int .i64 0, .slice none 0 0, .slice none 0 0], .int .i64 0, .int .i64 5]) (by simp [results, Tryz.results22, go_sem, s0, s1, s2]) rfl ?_
        exact VAPost.err hA5.out (by decide) (((hT3.below.setCell (p := ⟨w.heap.size + 1, 0, none⟩) (Nat.le_add_right _ _) _).setCell (p := ⟨w.heap.size + 1, 1, none⟩) (Nat.le_add_right _ _) _).setCell (p := ⟨w.heap.size + 1, 2, none⟩) (Nat.le_add_right _ _) _)
    · have hsp' := hsp _ hfp
      have hA5 : Hid (MoreA vid rn rs sn ss sub id 5 0) := hAe.out 5 (hE1.out.trans (if_pos (by rw [hfp]; decide))) (by decide)
      clear hfp hE1 hsp hno
      go_wp2_with fail
      refine (hsp').mono ?_
      rintro e w2 ⟨rfl, hbw2⟩
      have hT2 := hT1.later hbw2
      clear b0 b1 b2 s0 zs0 s1 zs1 s2 zs2
      have b0 : w2.cell? ⟨w.heap.size, 0, none⟩ = some (.int .i64 vid) := (box_cells hT2.hb).1 0
      have b1 : w2.cell? ⟨w.heap.size, 1, none⟩ = some (.slice rx rn rc) := (box_cells hT2.hb).1 1
      have b2 : w2.cell? ⟨w.heap.size, 2, none⟩ = some (.slice sx sn sc) := (box_cells hT2.hb).1 2
      have s0 : w2.cell? ⟨w.heap.size + 1, 0, none⟩ = some (.int .i64 0) := (box_cells hT2.hs).1 0
      have zs0 : w2.frozen? ⟨w.heap.size + 1, 0, none⟩ = false := (box_cells hT2.hs).2 0
      have s1 : w2.cell? ⟨w.heap.size + 1, 1, none⟩ = some (.slice none 0 0) := (box_cells hT2.hs).1 1
      have zs1 : w2.frozen? ⟨w.heap.size + 1, 1, none⟩ = false := (box_cells hT2.hs).2 1
      have s2 : w2.cell? ⟨w.heap.size + 1, 2, none⟩ = some (.slice none 0 0) := (box_cells hT2.hs).1 2
      have zs2 : w2.frozen? ⟨w.heap.size + 1, 2, none⟩ = false := (box_cells hT2.hs).2 2
      go_wp2
      refine bodyPost_ret (v := .tuple #[.agg #[.int .i64 0, .slice none 0 0, .slice none 0 0], .int .i64 0, .int .i64 5]) (by simp [results, Tryz.results22, go_sem, s0, s1, s2]) rfl ?_
      exact VAPost.err hA5.out (by decide) (((hT2.below.setCell (p := ⟨w.heap.size + 1, 0, none⟩) (Nat.le_add_right _ _) _).setCell (p := ⟨w.heap.size + 1, 1, none⟩) (Nat.le_add_right _ _) _).setCell (p := ⟨w.heap.size + 1, 2, none⟩) (Nat.le_add_right _ _) _)
  · have hA1 : Hid (MoreA vid rn rs sn ss sub id (chkV vid rn rs sn ss) 0) := hAe.out _ (if_pos hc0) hc0
    have hck := checkVpc_is vid rx rn rc rs sx sn sc ss _ rfl w0 (hv.later hT0.below) hrn hsn
    go_wp2_with fail
    refine (hck).mono ?_
    rintro e w1 ⟨rfl, hbw1⟩
    have hT1 := hT0.later hbw1
    clear b0 b1 b2 s0 zs0 s1 zs1 s2 zs2
    have b0 : w1.cell? ⟨w.heap.size, 0, none⟩ = some (.int .i64 vid) := (box_cells hT1.hb).1 0
    have b1 : w1.cell? ⟨w.heap.size, 1, none⟩ = some (.slice rx rn rc) := (box_cells hT1.hb).1 1
    have b2 : w1.cell? ⟨w.heap.size, 2, none⟩ = some (.slice sx sn sc) := (box_cells hT1.hb).1 2
    have s0 : w1.cell? ⟨w.heap.size + 1, 0, none⟩ = some (.int .i64 0) := (box_cells hT1.hs).1 0
    have zs0 : w1.frozen? ⟨w.heap.size + 1, 0, none⟩ = false := (box_cells hT1.hs).2 0
    have s1 : w1.cell? ⟨w.heap.size + 1, 1, none⟩ = some (.slice none 0 0) := (box_cells hT1.hs).1 1
    have zs1 : w1.frozen? ⟨w.heap.size + 1, 1, none⟩ = false := (box_cells hT1.hs).2 1
    have s2 : w1.cell? ⟨w.heap.size + 1, 2, none⟩ = some (.slice none 0 0) := (box_cells hT1.hs).1 2
    have zs2 : w1.frozen? ⟨w.heap.size + 1, 2, none⟩ = false := (box_cells hT1.hs).2 2
    go_wp2
    refine bodyPost_ret (v := .tuple #[.agg #[.int .i64 0, .slice none 0 0, .slice none 0 0], .int .i64 0, .int .i64 (chkV vid rn rs sn ss)]) (by simp [results, Tryz.results22, go_sem, s0, s1, s2]) rfl ?_
    exact VAPost.err hA1.out hc0 (((hT1.below.setCell (p := ⟨w.heap.size + 1, 0, none⟩) (Nat.le_add_right _ _) _).setCell (p := ⟨w.heap.size + 1, 1, none⟩) (Nat.le_add_right _ _) _).setCell (p := ⟨w.heap.size + 1, 2, none⟩) (Nat.le_add_right _ _) _)
end Go.Proofs.YtpdhipjeobchfaaGreat
/- The law VpcFaces. -/
namespace Go.Proofs.YtpdhipjeobchfaaGreat
open Go.RowKit Go.Shelf

theorem fcAt_cut {ts : List Fc} {p : Nat} (hp : p < ts.length) (j : Nat) : fcAt (ts.take p ++ ts.drop (p + 1)) j = if j < p then fcAt ts j else fcAt ts (j + 1) := by
  unfold fcAt
  rw [List.getD_eq_getElem?_getD, get_cut ts p hp]
  split <;> rw [List.getD_eq_getElem?_getD]
theorem sameFs.ins {a b : List Fc} {p : Nat} {e f : Fc} (h : sameFs a b) (hef : sameF e f) (hp : p ≤ a.length) : sameFs (a.take p ++ [e] ++ a.drop p) (b.take p ++ [f] ++ b.drop p) := by
  have hpb : p ≤ b.length := by rw [← h.1]; exact hp
  refine ⟨by simp [h.1], fun j hj => ?_⟩
  rw [fcAt_ins hp, fcAt_ins hpb]
  have hj' : j < a.length + 1 := by simp at hj; omega
  split
  · exact h.2 j (by omega)
  · split
    · exact hef
    · exact h.2 (j - 1) (by omega)
theorem sameFs.del {a b : List Fc} {p : Nat} (h : sameFs a b) (hp : p < a.length) : sameFs (a.take p ++ a.drop (p + 1)) (b.take p ++ b.drop (p + 1)) := by
  have hpb : p < b.length := by rw [← h.1]; exact hp
  refine ⟨by simp [h.1], fun j hj => ?_⟩
  rw [fcAt_cut hp, fcAt_cut hpb]
  have hj' : j < a.length - 1 := by simp at hj; omega
  split
  · exact h.2 j (by omega)
  · exact h.2 (j + 1) (by omega)
theorem sameFs.setA {a b : List Fc} {p : Nat} {x x' : Option Addr} {n c c' : Nat} {ns : List Int} (h : sameFs a b) (hp : p < a.length) : sameFs (a.set p (withA (fcAt a p) x n c ns)) (b.set p (withA (fcAt b p) x' n c' ns)) := by
  have hpb : p < b.length := by rw [← h.1]; exact hp
  refine ⟨by simp [h.1], fun j hj => ?_⟩
  rw [fcAt_set hp, fcAt_set hpb]
  split
  · exact ⟨(h.2 p hp).1, rfl, rfl⟩
  · exact h.2 j (by simpa using hj)
theorem sameSs.setF {a b : List Sb} {i : Nat} {x x' : Option Addr} {n n' c c' : Nat} {gs hs : List Fc} (h : sameSs a b) (hi : i < a.length) (hn : n = n') (hg : sameFs gs hs) : sameSs (a.set i (withF (sbAt a i) x n c gs)) (b.set i (withF (sbAt b i) x' n' c' hs)) := by
  have hib : i < b.length := by rw [← h.1]; exact hi
  refine ⟨by simp [h.1], fun j hj => ?_⟩
  rw [sbAt_set hi, sbAt_set hib]
  split
  · obtain ⟨h1, h2, h3, -, -⟩ := h.2 i hi
    exact ⟨h1, h2, h3, hn, hg⟩
  · exact h.2 j (by simpa using hj)
theorem PutFc.same {e f : Fc} {a b x y : List Fc} (h : PutFc e a x) (g : PutFc f b y) (hef : sameF e f) (hs : sameFs a b) : sameFs x y := by
  obtain ⟨i, h1, h2, h3, rfl⟩ := h
  obtain ⟨j, g1, g2, g3, rfl⟩ := g
  have hl := hs.1
  have he := hef.1
  obtain rfl : i = j := by
    rcases Nat.lt_trichotomy i j with hij | hij | hij
    · have h4 := g2 i hij; rw [← (hs.2 i (by omega)).1, ← he] at h4; exact absurd (h3 (by omega)) h4
    · exact hij
    · have h4 := h2 j hij; rw [(hs.2 j (by omega)).1, he] at h4; exact absurd (g3 (by omega)) h4
  exact hs.ins hef h1
theorem PutIn.one {e : Int} {a x y : List Int} (h : PutIn e a x) (g : PutIn e a y) : x = y := by
  obtain ⟨i, h1, h2, h3, rfl⟩ := h
  obtain ⟨j, g1, g2, g3, rfl⟩ := g
  obtain rfl : i = j := by
    rcases Nat.lt_trichotomy i j with hij | hij | hij
    · exact absurd (h3 (by omega)) (g2 i hij)
    · exact hij
    · exact absurd (g3 (by omega)) (h2 j hij)
  rfl
theorem FaRel.one {s : Sb} {id E y E' y' : Int} (h : FaRel s id E y) (g : FaRel s id E' y') : E = E' ∧ y = y' := by
  by_cases c : faceE0 s id = 0
  · exact (h.2 c).one (g.2 c)
  · obtain ⟨h1, h2⟩ := h.1 c
    obtain ⟨g1, g2⟩ := g.1 c
    exact ⟨h1.trans g1.symm, h2.trans g2.symm⟩
theorem FaceA.one {vid : Int} {rn : Nat} {rs : List Rg} {sn : Nat} {ss : List Sb} {sub id : Int} {E y E' y' : Int} (h : FaceA vid rn rs sn ss sub id E y) (g : FaceA vid rn rs sn ss sub id E' y') : E = E' ∧ y = y' := by
  unfold FaceA at h g
  by_cases c : chkV vid rn rs sn ss ≠ 0
  · rw [if_pos c] at h g
    exact ⟨h.1.trans g.1.symm, h.2.trans g.2.symm⟩
  · rw [if_neg c] at h g
    rcases h with ⟨h1, h2, h3⟩ | ⟨i, h1, h2⟩
    · rcases g with ⟨-, g2, g3⟩ | ⟨k, g1, -⟩
      · exact ⟨h2.trans g2.symm, h3.trans g3.symm⟩
      · exact absurd g1.sid (h1 k g1.isn)
    · rcases g with ⟨g1, -⟩ | ⟨k, g1, g2⟩
      · exact absurd h1.sid (g1 i h1.isn)
      · obtain rfl := h1.one g1
        exact h2.one g2
theorem MoreA.one {vid : Int} {rn : Nat} {rs : List Rg} {sn : Nat} {ss : List Sb} {sub id : Int} {E y E' y' : Int} (h : MoreA vid rn rs sn ss sub id E y) (g : MoreA vid rn rs sn ss sub id E' y') : E = E' ∧ y = y' := by
  by_cases c : plE vid rn rs sn ss sub id = 0
  · obtain ⟨i, j, h1, h2⟩ := h.2 c
    obtain ⟨k, l, g1, g2⟩ := g.2 c
    obtain ⟨rfl, rfl⟩ := h1.one g1
    unfold MoRel at h2 g2
    split at h2
    · rename_i e
      rw [if_pos e] at g2
      exact ⟨h2.1.trans g2.1.symm, h2.2.trans g2.2.symm⟩
    · rename_i e
      rw [if_neg e] at g2
      exact h2.one g2
  · obtain ⟨h1, h2⟩ := h.1 c
    obtain ⟨g1, g2⟩ := g.1 c
    exact ⟨h1.trans g1.symm, h2.trans g2.symm⟩
def FaceKey (vid : Int) (rn : Nat) (rs : List Rg) (sn : Nat) (ss : List Sb) (sub id : Int) (E y i : Int) (rs' : List Rg) (ss' : List Sb) : Prop := FaceA vid rn rs sn ss sub id E y ∧ (E ≠ 0 → i = 0 ∧ rs' = [] ∧ ss' = []) ∧ (E = 0 → i = vid ∧ rs' = rs ∧ ∃ ts p x n c fx gs, SubAt sn ss sub p ∧ p < ts.length ∧ sameSs ss ts ∧ PutFc ⟨id, fx, 1, 1, [y]⟩ (sbAt ts p).fs gs ∧ n = gs.length ∧ ss' = ts.set p (withF (sbAt ts p) x n c gs))
theorem face_nv {vid : Int} {rn : Nat} {rs : List Rg} {sn : Nat} {ss : List Sb} {sub id : Int} {w w' : World} {e : Ending} (hl : ss.length = sn) (h : VAPost (FaceA vid rn rs sn ss sub id) (FaceR vid rn rs sn ss sub id) w e w') : ∃ i V rs' ss' y E, e = .returned (.tuple #[V, .int .i64 y, .int .i64 E]) ∧ Below w.heap.size w w' ∧ NV w' i V rs' ss' ∧ FaceKey vid rn rs sn ss sub id E y i rs' ss' := by
  obtain ⟨V, y, E, he, hb, hA, hz, hk⟩ := h
  by_cases h0 : E = 0
  · obtain ⟨-, ts, p, x, n, c, fx, gs, h1, h2, h3, h4, h5, h6⟩ := hk h0
    exact ⟨vid, V, rs, _, y, E, he, hb, h6, hA, fun h => absurd h0 h, fun _ => ⟨rfl, rfl, ts, p, x, n, c, fx, gs, h1, by rw [← h3.1, hl]; exact h1.isn, h3, h4, h5, rfl⟩⟩
  · obtain ⟨rfl, rfl⟩ := hz h0
    exact ⟨0, _, [], [], 0, E, he, hb, NV.zero _, hA, fun _ => ⟨rfl, rfl, rfl⟩, fun h => absurd h h0⟩
theorem FaceKey.one {vid : Int} {rn : Nat} {rs : List Rg} {sn : Nat} {ss : List Sb} {sub id : Int} {E y i E' y' j : Int} {rs1 rs2 : List Rg} {ss1 ss2 : List Sb} (h : FaceKey vid rn rs sn ss sub id E y i rs1 ss1) (g : FaceKey vid rn rs sn ss sub id E' y' j rs2 ss2) : E = E' ∧ y = y' ∧ i = j ∧ rs1 = rs2 ∧ sameSs ss1 ss2 := by
  obtain ⟨rfl, rfl⟩ := h.1.one g.1
  refine ⟨rfl, rfl, ?_⟩
  by_cases h0 : E = 0
  · obtain ⟨a1, a2, ts, p, x, n, c, fx, gs, a3, a4, a5, a6, a7, rfl⟩ := h.2.2 h0
    obtain ⟨b1, b2, us, q, x', n', c', fx', gs', b3, b4, b5, b6, b7, rfl⟩ := g.2.2 h0
    obtain rfl := a3.one b3
    have hs := a5.symm.trans b5
    have hg := a6.same b6 ⟨rfl, rfl, rfl⟩ (hs.2 p a4).2.2.2.2
    exact ⟨a1.trans b1.symm, a2.trans b2.symm, hs.setF a4 (by rw [a7, b7, hg.1]) hg⟩
  · obtain ⟨a1, a2, a3⟩ := h.2.1 h0
    obtain ⟨b1, b2, b3⟩ := g.2.1 h0
    exact ⟨a1.trans b1.symm, a2.trans b2.symm, by rw [a3, b3]; exact sameSs.refl _⟩
def MoreKey (vid : Int) (rn : Nat) (rs : List Rg) (sn : Nat) (ss : List Sb) (sub id : Int) (E y i : Int) (rs' : List Rg) (ss' : List Sb) : Prop := MoreA vid rn rs sn ss sub id E y ∧ (E ≠ 0 → i = 0 ∧ rs' = [] ∧ ss' = []) ∧ (E = 0 → i = vid ∧ rs' = rs ∧ ∃ ts p q x c ns, FaceAt sn ss sub id p q ∧ p < ts.length ∧ q < (sbAt ts p).fs.length ∧ sameSs ss ts ∧ PutIn y (fcAt (sbAt ts p).fs q).ns ns ∧ ss' = ts.set p (withF (sbAt ts p) (sbAt ts p).x (sbAt ts p).n (sbAt ts p).c ((sbAt ts p).fs.set q (withA (fcAt (sbAt ts p).fs q) x ns.length c ns))))
theorem more_nv {vid : Int} {rn : Nat} {rs : List Rg} {sn : Nat} {ss : List Sb} {sub id : Int} {w0 w w' : World} {e : Ending} {rx sx : Option Addr} {rc sc : Nat} (hv : Vp w0 rx rn rc rs sx sn sc ss) (h : VAPost (MoreA vid rn rs sn ss sub id) (MoreR vid rn rs sn ss sub id w) w e w') : ∃ i V rs' ss' y E, e = .returned (.tuple #[V, .int .i64 y, .int .i64 E]) ∧ Below w.heap.size w w' ∧ NV w' i V rs' ss' ∧ MoreKey vid rn rs sn ss sub id E y i rs' ss' := by
  obtain ⟨V, y, E, he, hb, hA, hz, hk⟩ := h
  by_cases h0 : E = 0
  · obtain ⟨-, ts, p, q, x, c, ns, h1, h2, h3, h4, h5⟩ := hk h0
    have hp : p < ts.length := by rw [← h3.1, hv.subs.len]; exact h1.isn
    have hsp := h3.2 p (by rw [hv.subs.len]; exact h1.isn)
    have hq : q < (sbAt ts p).fs.length := by rw [← hsp.2.2.2.2.1, (hv.subs.faces p h1.isn).2.2.len]; exact h1.jn
    exact ⟨vid, V, rs, _, y, E, he, hb, h5.nv, hA, fun h => absurd h0 h, fun _ => ⟨rfl, rfl, ts, p, q, x, c, ns, h1, hp, hq, h3, h4, rfl⟩⟩
  · obtain ⟨rfl, rfl⟩ := hz h0
    exact ⟨0, _, [], [], 0, E, he, hb, NV.zero _, hA, fun _ => ⟨rfl, rfl, rfl⟩, fun h => absurd h h0⟩
theorem MoreKey.one {vid : Int} {rn : Nat} {rs : List Rg} {sn : Nat} {ss : List Sb} {sub id : Int} {E y i E' y' j : Int} {rs1 rs2 : List Rg} {ss1 ss2 : List Sb} (h : MoreKey vid rn rs sn ss sub id E y i rs1 ss1) (g : MoreKey vid rn rs sn ss sub id E' y' j rs2 ss2) : E = E' ∧ y = y' ∧ i = j ∧ rs1 = rs2 ∧ sameSs ss1 ss2 := by
  obtain ⟨rfl, rfl⟩ := h.1.one g.1
  refine ⟨rfl, rfl, ?_⟩
  by_cases h0 : E = 0
  · obtain ⟨a1, a2, ts, p, q, x, c, ns, a3, a4, a5, a6, a7, rfl⟩ := h.2.2 h0
    obtain ⟨b1, b2, us, p', q', x', c', ns', b3, b4, b5, b6, b7, rfl⟩ := g.2.2 h0
    obtain ⟨rfl, rfl⟩ := a3.one b3
    have hs := a6.symm.trans b6
    have hp := hs.2 p a4
    have hq := hp.2.2.2.2.2 q a5
    rw [← hq.2.2] at b7
    obtain rfl := a7.one b7
    exact ⟨a1.trans b1.symm, a2.trans b2.symm, hs.setF a4 hp.2.2.2.1 (hp.2.2.2.2.setA a5)⟩
  · obtain ⟨a1, a2, a3⟩ := h.2.1 h0
    obtain ⟨b1, b2, b3⟩ := g.2.1 h0
    exact ⟨a1.trans b1.symm, a2.trans b2.symm, by rw [a3, b3]; exact sameSs.refl _⟩
def UnfaceKey (vid : Int) (rs : List Rg) (sn : Nat) (ss : List Sb) (sub id E i : Int) (rs' : List Rg) (ss' : List Sb) : Prop := (E ≠ 0 → i = 0 ∧ rs' = [] ∧ ss' = []) ∧ (E = 0 → i = vid ∧ rs' = rs ∧ ∃ ts p q x n c, FaceAt sn ss sub id p q ∧ p < ts.length ∧ q < (sbAt ts p).fs.length ∧ sameSs ss ts ∧ n = ((sbAt ts p).fs.take q ++ (sbAt ts p).fs.drop (q + 1)).length ∧ ss' = ts.set p (withF (sbAt ts p) x n c ((sbAt ts p).fs.take q ++ (sbAt ts p).fs.drop (q + 1))))
theorem unface_nv {vid : Int} {rn : Nat} {rs : List Rg} {sn : Nat} {ss : List Sb} {sub id E : Int} {w0 w w' : World} {e : Ending} {rx sx : Option Addr} {rc sc : Nat} (hv : Vp w0 rx rn rc rs sx sn sc ss) (h : VPost E (UnfaceR vid rs sn ss sub id) w e w') :
    ∃ i V rs' ss', e = .returned (.tuple #[V, .int .i64 E]) ∧ Below w.heap.size w w' ∧ NV w' i V rs' ss' ∧ UnfaceKey vid rs sn ss sub id E i rs' ss' := by
  obtain ⟨V, he, hb, hz, hk⟩ := h
  by_cases h0 : E = 0
  · obtain ⟨ts, p, q, x, n, c, h1, h3, h4, h5⟩ := hk h0
    have hp : p < ts.length := by rw [← h3.1, hv.subs.len]; exact h1.isn
    have hsp := h3.2 p (by rw [hv.subs.len]; exact h1.isn)
    have hq : q < (sbAt ts p).fs.length := by rw [← hsp.2.2.2.2.1, (hv.subs.faces p h1.isn).2.2.len]; exact h1.jn
    exact ⟨vid, V, rs, _, he, hb, h5, fun h => absurd h0 h, fun _ => ⟨rfl, rfl, ts, p, q, x, n, c, h1, hp, hq, h3, h4, rfl⟩⟩
  · obtain rfl := hz h0
    exact ⟨0, _, [], [], he, hb, NV.zero _, fun _ => ⟨rfl, rfl, rfl⟩, fun h => absurd h h0⟩
theorem UnfaceKey.one {vid : Int} {rs : List Rg} {sn : Nat} {ss : List Sb} {sub id E i j : Int} {rs1 rs2 : List Rg} {ss1 ss2 : List Sb} (h : UnfaceKey vid rs sn ss sub id E i rs1 ss1) (g : UnfaceKey vid rs sn ss sub id E j rs2 ss2) : i = j ∧ rs1 = rs2 ∧ sameSs ss1 ss2 := by
  by_cases h0 : E = 0
  · obtain ⟨a1, a2, ts, p, q, x, n, c, a3, a4, a5, a6, a7, rfl⟩ := h.2 h0
    obtain ⟨b1, b2, us, p', q', x', n', c', b3, b4, b5, b6, b7, rfl⟩ := g.2 h0
    obtain ⟨rfl, rfl⟩ := a3.one b3
    have hs := a6.symm.trans b6
    have hg := (hs.2 p a4).2.2.2.2.del a5
    exact ⟨a1.trans b1.symm, a2.trans b2.symm, hs.setF a4 (by rw [a7, b7, hg.1]) hg⟩
  · obtain ⟨a1, a2, a3⟩ := h.1 h0
    obtain ⟨b1, b2, b3⟩ := g.1 h0
    exact ⟨a1.trans b1.symm, a2.trans b2.symm, by rw [a3, b3]; exact sameSs.refl _⟩

set_option maxRecDepth 100000 in
set_option maxHeartbeats 6400000 in
theorem vpcFaces_any (vid : Int) (rx : Option Addr) (rn rc : Nat) (rs : List Rg) (sx : Option Addr) (sn sc : Nat) (ss : List Sb) (sub id : Int) (w : World) (hvp : Vp w rx rn rc rs sx sn sc ss) (hrn : rn ≤ 9223372036854775807) (hsn : sn ≤ 9223372036854775807) (hrc : rc ≤ 9223372036854775807) :
    Calls Tryz.prog 5 #[.agg #[.int .i64 vid, .slice rx rn rc, .slice sx sn sc], .int .i64 sub, .int .i64 id] w fun e w' => e = .returned (.bool true) ∧ Below w.heap.size w w' := by
  go_enter Tryz.func5, Tryz.ntmps5
  go_upto_region 1 with fail
  obtain ⟨w0, hw⟩ : ∃ w0, w0 = w.alloc (.cells #[.int .i64 vid, .slice rx rn rc, .slice sx sn sc] 25) := ⟨_, rfl⟩
  rw [← hw]
  have hB : Below w.heap.size w w0 := by rw [hw]; exact bl1 w _
  have hv : w0.heap[w.heap.size]? = some (.cells #[.int .i64 vid, .slice rx rn rc, .slice sx sn sc] 25) := by rw [hw]; exact heap_new _ rfl
  clear hw
  have kv0 : w0.cell? ⟨w.heap.size, 0, none⟩ = some (.int .i64 vid) := (box_cells hv).1 0
  have kv1 : w0.cell? ⟨w.heap.size, 1, none⟩ = some (.slice rx rn rc) := (box_cells hv).1 1
  have kv2 : w0.cell? ⟨w.heap.size, 2, none⟩ = some (.slice sx sn sc) := (box_cells hv).1 2
  go_wp2_with fail
  refine (vface_any vid rx rn rc rs sx sn sc ss sub id w0 (hvp.later hB) hrn hsn hrc).mono ?_
  intro e w1 hpost
  obtain ⟨i1, V1, rs1, ss1, a1, e1, rfl, hbw1, hN1, hK1⟩ := face_nv hvp.subs.len hpost
  obtain ⟨x1, c1, y1, d1, hV1, hP1, hc1, hd1⟩ := hN1
  subst hV1
  have hN1 : NV w1 i1 (.agg #[.int .i64 i1, .slice x1 rs1.length c1, .slice y1 ss1.length d1]) rs1 ss1 := ⟨_, _, _, _, rfl, hP1, hc1, hd1⟩
  clear hP1 hc1 hd1
  clear kv0 kv1 kv2
  replace hv := heap_later hbw1 hv
  replace hB := hB.trans (hbw1.mono hB.size)
  go_upto_region 2 with fail
  obtain ⟨w2, hw⟩ : ∃ w2, w2 = (w1.alloc (.cells #[.int .i64 i1, .slice x1 rs1.length c1, .slice y1 ss1.length d1] 25)) := ⟨_, rfl⟩
  rw [← hw]
  have hbn : Below w1.heap.size w1 w2 := by rw [hw]; exact bl1 w1 _ 
  have ha : w2.heap[w1.heap.size]? = some (.cells #[.int .i64 i1, .slice x1 rs1.length c1, .slice y1 ss1.length d1] 25) := by rw [hw]; exact heap_new _ rfl
  clear hw
  replace hv := heap_later hbn hv
  replace hN1 := hN1.later hbn
  replace hB := hB.trans (hbn.mono hB.size)
  clear hbn
  have kv0 : w2.cell? ⟨w.heap.size, 0, none⟩ = some (.int .i64 vid) := (box_cells hv).1 0
  have kv1 : w2.cell? ⟨w.heap.size, 1, none⟩ = some (.slice rx rn rc) := (box_cells hv).1 1
  have kv2 : w2.cell? ⟨w.heap.size, 2, none⟩ = some (.slice sx sn sc) := (box_cells hv).1 2
  go_wp2_with fail
  refine (vmore_any vid rx rn rc rs sx sn sc ss sub id w2 (hvp.later hB) hrn hsn hrc).mono ?_
  intro e w3 hpost
  obtain ⟨i2, V2, rs2, ss2, a2, e2, rfl, hbw3, hN2, hK2⟩ := more_nv hvp hpost
  obtain ⟨x2, c2, y2, d2, hV2, hP2, hc2, hd2⟩ := hN2
  subst hV2
  have hN2 : NV w3 i2 (.agg #[.int .i64 i2, .slice x2 rs2.length c2, .slice y2 ss2.length d2]) rs2 ss2 := ⟨_, _, _, _, rfl, hP2, hc2, hd2⟩
  clear hP2 hc2 hd2
  clear kv0 kv1 kv2
  replace hv := heap_later hbw3 hv
  replace ha := heap_later hbw3 ha
  replace hN1 := hN1.later hbw3
  replace hB := hB.trans (hbw3.mono hB.size)
  go_upto_region 3 with fail
  obtain ⟨w4, hw⟩ : ∃ w4, w4 = (w3.alloc (.cells #[.int .i64 i2, .slice x2 rs2.length c2, .slice y2 ss2.length d2] 25)) := ⟨_, rfl⟩
  rw [← hw]
  have hbn : Below w3.heap.size w3 w4 := by rw [hw]; exact bl1 w3 _ 
  have hb : w4.heap[w3.heap.size]? = some (.cells #[.int .i64 i2, .slice x2 rs2.length c2, .slice y2 ss2.length d2] 25) := by rw [hw]; exact heap_new _ rfl
  clear hw
  replace hv := heap_later hbn hv
  replace ha := heap_later hbn ha
  replace hN1 := hN1.later hbn
  replace hN2 := hN2.later hbn
  replace hB := hB.trans (hbn.mono hB.size)
  clear hbn
  have kv0 : w4.cell? ⟨w.heap.size, 0, none⟩ = some (.int .i64 vid) := (box_cells hv).1 0
  have kv1 : w4.cell? ⟨w.heap.size, 1, none⟩ = some (.slice rx rn rc) := (box_cells hv).1 1
  have kv2 : w4.cell? ⟨w.heap.size, 2, none⟩ = some (.slice sx sn sc) := (box_cells hv).1 2
  go_wp2_with fail
  refine (vunface_any vid rx rn rc rs sx sn sc ss sub id w4 (hvp.later hB) hrn hsn hrc).mono ?_
  intro e w5 hpost
  obtain ⟨i3, V3, rs3, ss3, rfl, hbw5, hN3, hK3⟩ := unface_nv hvp hpost
  obtain ⟨x3, c3, y3, d3, hV3, hP3, hc3, hd3⟩ := hN3
  subst hV3
  have hN3 : NV w5 i3 (.agg #[.int .i64 i3, .slice x3 rs3.length c3, .slice y3 ss3.length d3]) rs3 ss3 := ⟨_, _, _, _, rfl, hP3, hc3, hd3⟩
  clear hP3 hc3 hd3
  clear kv0 kv1 kv2
  replace hv := heap_later hbw5 hv
  replace ha := heap_later hbw5 ha
  replace hb := heap_later hbw5 hb
  replace hN1 := hN1.later hbw5
  replace hN2 := hN2.later hbw5
  replace hB := hB.trans (hbw5.mono hB.size)
  go_upto_region 4 with fail
  obtain ⟨w6, hw⟩ : ∃ w6, w6 = (w5.alloc (.cells #[.int .i64 i3, .slice x3 rs3.length c3, .slice y3 ss3.length d3] 25)) := ⟨_, rfl⟩
  rw [← hw]
  have hbn : Below w5.heap.size w5 w6 := by rw [hw]; exact bl1 w5 _ 
  have hc : w6.heap[w5.heap.size]? = some (.cells #[.int .i64 i3, .slice x3 rs3.length c3, .slice y3 ss3.length d3] 25) := by rw [hw]; exact heap_new _ rfl
  clear hw
  replace hv := heap_later hbn hv
  replace ha := heap_later hbn ha
  replace hb := heap_later hbn hb
  replace hN1 := hN1.later hbn
  replace hN2 := hN2.later hbn
  replace hN3 := hN3.later hbn
  replace hB := hB.trans (hbn.mono hB.size)
  clear hbn
  have kv0 : w6.cell? ⟨w.heap.size, 0, none⟩ = some (.int .i64 vid) := (box_cells hv).1 0
  have kv1 : w6.cell? ⟨w.heap.size, 1, none⟩ = some (.slice rx rn rc) := (box_cells hv).1 1
  have kv2 : w6.cell? ⟨w.heap.size, 2, none⟩ = some (.slice sx sn sc) := (box_cells hv).1 2
  go_wp2_with fail
  refine (faceVpc_any vid rx rn rc rs sx sn sc ss sub id w6 (hvp.later hB) hrn hsn).mono ?_
  intro e w7 hpost
  obtain ⟨i4, V4, rs4, ss4, a4, e4, rfl, hbw7, hN4, hK4⟩ := face_nv hvp.subs.len hpost
  obtain ⟨x4, c4, y4, d4, hV4, hP4, hc4, hd4⟩ := hN4
  subst hV4
  have hN4 : NV w7 i4 (.agg #[.int .i64 i4, .slice x4 rs4.length c4, .slice y4 ss4.length d4]) rs4 ss4 := ⟨_, _, _, _, rfl, hP4, hc4, hd4⟩
  clear hP4 hc4 hd4
  clear kv0 kv1 kv2
  replace hv := heap_later hbw7 hv
  replace ha := heap_later hbw7 ha
  replace hb := heap_later hbw7 hb
  replace hc := heap_later hbw7 hc
  replace hN1 := hN1.later hbw7
  replace hN2 := hN2.later hbw7
  replace hN3 := hN3.later hbw7
  replace hB := hB.trans (hbw7.mono hB.size)
  go_upto_region 5 with fail
  obtain ⟨w8, hw⟩ : ∃ w8, w8 = (w7.alloc (.cells #[.int .i64 i4, .slice x4 rs4.length c4, .slice y4 ss4.length d4] 25)) := ⟨_, rfl⟩
  rw [← hw]
  have hbn : Below w7.heap.size w7 w8 := by rw [hw]; exact bl1 w7 _ 
  have hx : w8.heap[w7.heap.size]? = some (.cells #[.int .i64 i4, .slice x4 rs4.length c4, .slice y4 ss4.length d4] 25) := by rw [hw]; exact heap_new _ rfl
  clear hw
  replace hv := heap_later hbn hv
  replace ha := heap_later hbn ha
  replace hb := heap_later hbn hb
  replace hc := heap_later hbn hc
  replace hN1 := hN1.later hbn
  replace hN2 := hN2.later hbn
  replace hN3 := hN3.later hbn
  replace hN4 := hN4.later hbn
  replace hB := hB.trans (hbn.mono hB.size)
  clear hbn
  have kv0 : w8.cell? ⟨w.heap.size, 0, none⟩ = some (.int .i64 vid) := (box_cells hv).1 0
  have kv1 : w8.cell? ⟨w.heap.size, 1, none⟩ = some (.slice rx rn rc) := (box_cells hv).1 1
  have kv2 : w8.cell? ⟨w.heap.size, 2, none⟩ = some (.slice sx sn sc) := (box_cells hv).1 2
  go_wp2_with fail
  refine (moreVpc_any vid rx rn rc rs sx sn sc ss sub id w8 (hvp.later hB) hrn hsn).mono ?_
  intro e w9 hpost
  obtain ⟨i5, V5, rs5, ss5, a5, e5, rfl, hbw9, hN5, hK5⟩ := more_nv hvp hpost
  obtain ⟨x5, c5, y5, d5, hV5, hP5, hc5, hd5⟩ := hN5
  subst hV5
  have hN5 : NV w9 i5 (.agg #[.int .i64 i5, .slice x5 rs5.length c5, .slice y5 ss5.length d5]) rs5 ss5 := ⟨_, _, _, _, rfl, hP5, hc5, hd5⟩
  clear hP5 hc5 hd5
  clear kv0 kv1 kv2
  replace hv := heap_later hbw9 hv
  replace ha := heap_later hbw9 ha
  replace hb := heap_later hbw9 hb
  replace hc := heap_later hbw9 hc
  replace hx := heap_later hbw9 hx
  replace hN1 := hN1.later hbw9
  replace hN2 := hN2.later hbw9
  replace hN3 := hN3.later hbw9
  replace hN4 := hN4.later hbw9
  replace hB := hB.trans (hbw9.mono hB.size)
  go_upto_region 6 with fail
  obtain ⟨w10, hw⟩ : ∃ w10, w10 = (w9.alloc (.cells #[.int .i64 i5, .slice x5 rs5.length c5, .slice y5 ss5.length d5] 25)) := ⟨_, rfl⟩
  rw [← hw]
  have hbn : Below w9.heap.size w9 w10 := by rw [hw]; exact bl1 w9 _ 
  have hy : w10.heap[w9.heap.size]? = some (.cells #[.int .i64 i5, .slice x5 rs5.length c5, .slice y5 ss5.length d5] 25) := by rw [hw]; exact heap_new _ rfl
  clear hw
  replace hv := heap_later hbn hv
  replace ha := heap_later hbn ha
  replace hb := heap_later hbn hb
  replace hc := heap_later hbn hc
  replace hx := heap_later hbn hx
  replace hN1 := hN1.later hbn
  replace hN2 := hN2.later hbn
  replace hN3 := hN3.later hbn
  replace hN4 := hN4.later hbn
  replace hN5 := hN5.later hbn
  replace hB := hB.trans (hbn.mono hB.size)
  clear hbn
  have kv0 : w10.cell? ⟨w.heap.size, 0, none⟩ = some (.int .i64 vid) := (box_cells hv).1 0
  have kv1 : w10.cell? ⟨w.heap.size, 1, none⟩ = some (.slice rx rn rc) := (box_cells hv).1 1
  have kv2 : w10.cell? ⟨w.heap.size, 2, none⟩ = some (.slice sx sn sc) := (box_cells hv).1 2
  go_wp2_with fail
  refine (unfaceVpc_any vid rx rn rc rs sx sn sc ss sub id w10 (hvp.later hB) hrn hsn).mono ?_
  intro e w11 hpost
  obtain ⟨i6, V6, rs6, ss6, rfl, hbw11, hN6, hK6⟩ := unface_nv hvp hpost
  obtain ⟨x6, c6, y6, d6, hV6, hP6, hc6, hd6⟩ := hN6
  subst hV6
  have hN6 : NV w11 i6 (.agg #[.int .i64 i6, .slice x6 rs6.length c6, .slice y6 ss6.length d6]) rs6 ss6 := ⟨_, _, _, _, rfl, hP6, hc6, hd6⟩
  clear hP6 hc6 hd6
  clear kv0 kv1 kv2
  replace hv := heap_later hbw11 hv
  replace ha := heap_later hbw11 ha
  replace hb := heap_later hbw11 hb
  replace hc := heap_later hbw11 hc
  replace hx := heap_later hbw11 hx
  replace hy := heap_later hbw11 hy
  replace hN1 := hN1.later hbw11
  replace hN2 := hN2.later hbw11
  replace hN3 := hN3.later hbw11
  replace hN4 := hN4.later hbw11
  replace hN5 := hN5.later hbw11
  replace hB := hB.trans (hbw11.mono hB.size)
  go_upto_region 7 with fail
  obtain ⟨w12, hw⟩ : ∃ w12, w12 = (w11.alloc (.cells #[.int .i64 i6, .slice x6 rs6.length c6, .slice y6 ss6.length d6] 25)) := ⟨_, rfl⟩
  rw [← hw]
  have hbn : Below w11.heap.size w11 w12 := by rw [hw]; exact bl1 w11 _ 
  have hz : w12.heap[w11.heap.size]? = some (.cells #[.int .i64 i6, .slice x6 rs6.length c6, .slice y6 ss6.length d6] 25) := by rw [hw]; exact heap_new _ rfl
  clear hw
  replace hv := heap_later hbn hv
  replace ha := heap_later hbn ha
  replace hb := heap_later hbn hb
  replace hc := heap_later hbn hc
  replace hx := heap_later hbn hx
  replace hy := heap_later hbn hy
  replace hN1 := hN1.later hbn
  replace hN2 := hN2.later hbn
  replace hN3 := hN3.later hbn
  replace hN4 := hN4.later hbn
  replace hN5 := hN5.later hbn
  replace hN6 := hN6.later hbn
  replace hB := hB.trans (hbn.mono hB.size)
  clear hbn
  obtain ⟨rfl, rfl, rfl, rfl, hs14⟩ := hK1.one hK4
  obtain ⟨rfl, rfl, rfl, rfl, hs25⟩ := hK2.one hK5
  obtain ⟨rfl, rfl, hs36⟩ := hK3.one hK6
  generalize plE vid rn rs sn ss sub id = E3 at *
  clear hK1 hK2 hK3 hK4 hK5 hK6
  have ka0 : w12.cell? ⟨w1.heap.size, 0, none⟩ = some (.int .i64 i1) := (box_cells ha).1 0
  have ka1 : w12.cell? ⟨w1.heap.size, 1, none⟩ = some (.slice x1 rs1.length c1) := (box_cells ha).1 1
  have ka2 : w12.cell? ⟨w1.heap.size, 2, none⟩ = some (.slice y1 ss1.length d1) := (box_cells ha).1 2
  have kb0 : w12.cell? ⟨w3.heap.size, 0, none⟩ = some (.int .i64 i2) := (box_cells hb).1 0
  have kb1 : w12.cell? ⟨w3.heap.size, 1, none⟩ = some (.slice x2 rs2.length c2) := (box_cells hb).1 1
  have kb2 : w12.cell? ⟨w3.heap.size, 2, none⟩ = some (.slice y2 ss2.length d2) := (box_cells hb).1 2
  have kc0 : w12.cell? ⟨w5.heap.size, 0, none⟩ = some (.int .i64 i3) := (box_cells hc).1 0
  have kc1 : w12.cell? ⟨w5.heap.size, 1, none⟩ = some (.slice x3 rs3.length c3) := (box_cells hc).1 1
  have kc2 : w12.cell? ⟨w5.heap.size, 2, none⟩ = some (.slice y3 ss3.length d3) := (box_cells hc).1 2
  have kx0 : w12.cell? ⟨w7.heap.size, 0, none⟩ = some (.int .i64 i1) := (box_cells hx).1 0
  have kx1 : w12.cell? ⟨w7.heap.size, 1, none⟩ = some (.slice x4 rs1.length c4) := (box_cells hx).1 1
  have kx2 : w12.cell? ⟨w7.heap.size, 2, none⟩ = some (.slice y4 ss4.length d4) := (box_cells hx).1 2
  have ky0 : w12.cell? ⟨w9.heap.size, 0, none⟩ = some (.int .i64 i2) := (box_cells hy).1 0
  have ky1 : w12.cell? ⟨w9.heap.size, 1, none⟩ = some (.slice x5 rs2.length c5) := (box_cells hy).1 1
  have ky2 : w12.cell? ⟨w9.heap.size, 2, none⟩ = some (.slice y5 ss5.length d5) := (box_cells hy).1 2
  have kz0 : w12.cell? ⟨w11.heap.size, 0, none⟩ = some (.int .i64 i3) := (box_cells hz).1 0
  have kz1 : w12.cell? ⟨w11.heap.size, 1, none⟩ = some (.slice x6 rs3.length c6) := (box_cells hz).1 1
  have kz2 : w12.cell? ⟨w11.heap.size, 2, none⟩ = some (.slice y6 ss6.length d6) := (box_cells hz).1 2
  go_wp2_with fail
  refine (vpcBegun_any w12).mono ?_
  rintro e w13 ⟨rfl, hbw13⟩
  clear ka0 ka1 ka2 kb0 kb1 kb2 kc0 kc1 kc2 kx0 kx1 kx2 ky0 ky1 ky2 kz0 kz1 kz2
  replace ha := heap_later hbw13 ha
  replace hb := heap_later hbw13 hb
  replace hc := heap_later hbw13 hc
  replace hx := heap_later hbw13 hx
  replace hy := heap_later hbw13 hy
  replace hz := heap_later hbw13 hz
  replace hN1 := hN1.later hbw13
  replace hN2 := hN2.later hbw13
  replace hN3 := hN3.later hbw13
  replace hN4 := hN4.later hbw13
  replace hN5 := hN5.later hbw13
  replace hN6 := hN6.later hbw13
  replace hB := hB.trans (hbw13.mono hB.size)
  have ka0 : w13.cell? ⟨w1.heap.size, 0, none⟩ = some (.int .i64 i1) := (box_cells ha).1 0
  have ka1 : w13.cell? ⟨w1.heap.size, 1, none⟩ = some (.slice x1 rs1.length c1) := (box_cells ha).1 1
  have ka2 : w13.cell? ⟨w1.heap.size, 2, none⟩ = some (.slice y1 ss1.length d1) := (box_cells ha).1 2
  have kb0 : w13.cell? ⟨w3.heap.size, 0, none⟩ = some (.int .i64 i2) := (box_cells hb).1 0
  have kb1 : w13.cell? ⟨w3.heap.size, 1, none⟩ = some (.slice x2 rs2.length c2) := (box_cells hb).1 1
  have kb2 : w13.cell? ⟨w3.heap.size, 2, none⟩ = some (.slice y2 ss2.length d2) := (box_cells hb).1 2
  have kc0 : w13.cell? ⟨w5.heap.size, 0, none⟩ = some (.int .i64 i3) := (box_cells hc).1 0
  have kc1 : w13.cell? ⟨w5.heap.size, 1, none⟩ = some (.slice x3 rs3.length c3) := (box_cells hc).1 1
  have kc2 : w13.cell? ⟨w5.heap.size, 2, none⟩ = some (.slice y3 ss3.length d3) := (box_cells hc).1 2
  have kx0 : w13.cell? ⟨w7.heap.size, 0, none⟩ = some (.int .i64 i1) := (box_cells hx).1 0
  have kx1 : w13.cell? ⟨w7.heap.size, 1, none⟩ = some (.slice x4 rs1.length c4) := (box_cells hx).1 1
  have kx2 : w13.cell? ⟨w7.heap.size, 2, none⟩ = some (.slice y4 ss4.length d4) := (box_cells hx).1 2
  have ky0 : w13.cell? ⟨w9.heap.size, 0, none⟩ = some (.int .i64 i2) := (box_cells hy).1 0
  have ky1 : w13.cell? ⟨w9.heap.size, 1, none⟩ = some (.slice x5 rs2.length c5) := (box_cells hy).1 1
  have ky2 : w13.cell? ⟨w9.heap.size, 2, none⟩ = some (.slice y5 ss5.length d5) := (box_cells hy).1 2
  have kz0 : w13.cell? ⟨w11.heap.size, 0, none⟩ = some (.int .i64 i3) := (box_cells hz).1 0
  have kz1 : w13.cell? ⟨w11.heap.size, 1, none⟩ = some (.slice x6 rs3.length c6) := (box_cells hz).1 1
  have kz2 : w13.cell? ⟨w11.heap.size, 2, none⟩ = some (.slice y6 ss6.length d6) := (box_cells hz).1 2
  go_wp2_with fail
  refine (sameVpcs_nv hN1 hN4 hs14).mono ?_
  rintro e w14 ⟨rfl, hbw14⟩
  clear ka0 ka1 ka2 kb0 kb1 kb2 kc0 kc1 kc2 kx0 kx1 kx2 ky0 ky1 ky2 kz0 kz1 kz2
  replace ha := heap_later hbw14 ha
  replace hb := heap_later hbw14 hb
  replace hc := heap_later hbw14 hc
  replace hx := heap_later hbw14 hx
  replace hy := heap_later hbw14 hy
  replace hz := heap_later hbw14 hz
  replace hN1 := hN1.later hbw14
  replace hN2 := hN2.later hbw14
  replace hN3 := hN3.later hbw14
  replace hN4 := hN4.later hbw14
  replace hN5 := hN5.later hbw14
  replace hN6 := hN6.later hbw14
  replace hB := hB.trans (hbw14.mono hB.size)
  have ka0 : w14.cell? ⟨w1.heap.size, 0, none⟩ = some (.int .i64 i1) := (box_cells ha).1 0
  have ka1 : w14.cell? ⟨w1.heap.size, 1, none⟩ = some (.slice x1 rs1.length c1) := (box_cells ha).1 1
  have ka2 : w14.cell? ⟨w1.heap.size, 2, none⟩ = some (.slice y1 ss1.length d1) := (box_cells ha).1 2
  have kb0 : w14.cell? ⟨w3.heap.size, 0, none⟩ = some (.int .i64 i2) := (box_cells hb).1 0
  have kb1 : w14.cell? ⟨w3.heap.size, 1, none⟩ = some (.slice x2 rs2.length c2) := (box_cells hb).1 1
  have kb2 : w14.cell? ⟨w3.heap.size, 2, none⟩ = some (.slice y2 ss2.length d2) := (box_cells hb).1 2
  have kc0 : w14.cell? ⟨w5.heap.size, 0, none⟩ = some (.int .i64 i3) := (box_cells hc).1 0
  have kc1 : w14.cell? ⟨w5.heap.size, 1, none⟩ = some (.slice x3 rs3.length c3) := (box_cells hc).1 1
  have kc2 : w14.cell? ⟨w5.heap.size, 2, none⟩ = some (.slice y3 ss3.length d3) := (box_cells hc).1 2
  have kx0 : w14.cell? ⟨w7.heap.size, 0, none⟩ = some (.int .i64 i1) := (box_cells hx).1 0
  have kx1 : w14.cell? ⟨w7.heap.size, 1, none⟩ = some (.slice x4 rs1.length c4) := (box_cells hx).1 1
  have kx2 : w14.cell? ⟨w7.heap.size, 2, none⟩ = some (.slice y4 ss4.length d4) := (box_cells hx).1 2
  have ky0 : w14.cell? ⟨w9.heap.size, 0, none⟩ = some (.int .i64 i2) := (box_cells hy).1 0
  have ky1 : w14.cell? ⟨w9.heap.size, 1, none⟩ = some (.slice x5 rs2.length c5) := (box_cells hy).1 1
  have ky2 : w14.cell? ⟨w9.heap.size, 2, none⟩ = some (.slice y5 ss5.length d5) := (box_cells hy).1 2
  have kz0 : w14.cell? ⟨w11.heap.size, 0, none⟩ = some (.int .i64 i3) := (box_cells hz).1 0
  have kz1 : w14.cell? ⟨w11.heap.size, 1, none⟩ = some (.slice x6 rs3.length c6) := (box_cells hz).1 1
  have kz2 : w14.cell? ⟨w11.heap.size, 2, none⟩ = some (.slice y6 ss6.length d6) := (box_cells hz).1 2
  go_wp2_with fail
  refine (sameVpcs_nv hN2 hN5 hs25).mono ?_
  rintro e w15 ⟨rfl, hbw15⟩
  clear ka0 ka1 ka2 kb0 kb1 kb2 kc0 kc1 kc2 kx0 kx1 kx2 ky0 ky1 ky2 kz0 kz1 kz2
  replace ha := heap_later hbw15 ha
  replace hb := heap_later hbw15 hb
  replace hc := heap_later hbw15 hc
  replace hx := heap_later hbw15 hx
  replace hy := heap_later hbw15 hy
  replace hz := heap_later hbw15 hz
  replace hN1 := hN1.later hbw15
  replace hN2 := hN2.later hbw15
  replace hN3 := hN3.later hbw15
  replace hN4 := hN4.later hbw15
  replace hN5 := hN5.later hbw15
  replace hN6 := hN6.later hbw15
  replace hB := hB.trans (hbw15.mono hB.size)
  have ka0 : w15.cell? ⟨w1.heap.size, 0, none⟩ = some (.int .i64 i1) := (box_cells ha).1 0
  have ka1 : w15.cell? ⟨w1.heap.size, 1, none⟩ = some (.slice x1 rs1.length c1) := (box_cells ha).1 1
  have ka2 : w15.cell? ⟨w1.heap.size, 2, none⟩ = some (.slice y1 ss1.length d1) := (box_cells ha).1 2
  have kb0 : w15.cell? ⟨w3.heap.size, 0, none⟩ = some (.int .i64 i2) := (box_cells hb).1 0
  have kb1 : w15.cell? ⟨w3.heap.size, 1, none⟩ = some (.slice x2 rs2.length c2) := (box_cells hb).1 1
  have kb2 : w15.cell? ⟨w3.heap.size, 2, none⟩ = some (.slice y2 ss2.length d2) := (box_cells hb).1 2
  have kc0 : w15.cell? ⟨w5.heap.size, 0, none⟩ = some (.int .i64 i3) := (box_cells hc).1 0
  have kc1 : w15.cell? ⟨w5.heap.size, 1, none⟩ = some (.slice x3 rs3.length c3) := (box_cells hc).1 1
  have kc2 : w15.cell? ⟨w5.heap.size, 2, none⟩ = some (.slice y3 ss3.length d3) := (box_cells hc).1 2
  have kx0 : w15.cell? ⟨w7.heap.size, 0, none⟩ = some (.int .i64 i1) := (box_cells hx).1 0
  have kx1 : w15.cell? ⟨w7.heap.size, 1, none⟩ = some (.slice x4 rs1.length c4) := (box_cells hx).1 1
  have kx2 : w15.cell? ⟨w7.heap.size, 2, none⟩ = some (.slice y4 ss4.length d4) := (box_cells hx).1 2
  have ky0 : w15.cell? ⟨w9.heap.size, 0, none⟩ = some (.int .i64 i2) := (box_cells hy).1 0
  have ky1 : w15.cell? ⟨w9.heap.size, 1, none⟩ = some (.slice x5 rs2.length c5) := (box_cells hy).1 1
  have ky2 : w15.cell? ⟨w9.heap.size, 2, none⟩ = some (.slice y5 ss5.length d5) := (box_cells hy).1 2
  have kz0 : w15.cell? ⟨w11.heap.size, 0, none⟩ = some (.int .i64 i3) := (box_cells hz).1 0
  have kz1 : w15.cell? ⟨w11.heap.size, 1, none⟩ = some (.slice x6 rs3.length c6) := (box_cells hz).1 1
  have kz2 : w15.cell? ⟨w11.heap.size, 2, none⟩ = some (.slice y6 ss6.length d6) := (box_cells hz).1 2
  go_wp2_with fail
  refine (sameVpcs_nv hN3 hN6 hs36).mono ?_
  rintro e w16 ⟨rfl, hbw16⟩
  clear ka0 ka1 ka2 kb0 kb1 kb2 kc0 kc1 kc2 kx0 kx1 kx2 ky0 ky1 ky2 kz0 kz1 kz2
  replace ha := heap_later hbw16 ha
  replace hb := heap_later hbw16 hb
  replace hc := heap_later hbw16 hc
  replace hx := heap_later hbw16 hx
  replace hy := heap_later hbw16 hy
  replace hz := heap_later hbw16 hz
  replace hN1 := hN1.later hbw16
  replace hN2 := hN2.later hbw16
  replace hN3 := hN3.later hbw16
  replace hN4 := hN4.later hbw16
  replace hN5 := hN5.later hbw16
  replace hN6 := hN6.later hbw16
  replace hB := hB.trans (hbw16.mono hB.size)
  go_wp2
  go_ret
  exact ⟨rfl, hB⟩
end Go.Proofs.YtpdhipjeobchfaaGreat
