/- What FaceVpc of the reference comes to. -/
import Derived.Test.YtpdhipjeobchfaaMV15
import Derived.Maps.AppendAt
namespace Go.Proofs.Ytpdhipjeobchfaa
open Go.RowKit Go.Shelf

theorem wpList_append_Fat {w : World} {ops : Array Oper} {rest : List Oper} {o : Oper} {a : Act} {Q : Exit → Act → World → Prop} (hgd : o.guard = none) (s x : Operand)
    (ho : o.op = .call { callee := .builtin .append, args := #[s, x], argTypes := #[40, 40] }) (base : Nat) (v : Value) (es : List Fc) (hs : a.eval s = v) (hO : OwnF w base v es)
    (ad : Addr) (m c : Nat) (fs : List Fc) (hx : a.eval x = .slice (some ad) m c) (hm : fs.length = m) (hy : ∀ j u, (flatF fs)[j]? = some u → w.cell? (ad.add j) = some u)
    (hlen : es.length + m ≤ 1000000000) (hbase : base ≤ w.heap.size)
    (h : ∀ v' w', OwnF w' base v' (es ++ fs) → w.grownBy w' v.ownBlock → (v'.ownBlock = v.ownBlock ∨ v'.ownBlock = some w.heap.size) → wpList Try.prog ops Q rest (a.put o.dst v') w') : wpList Try.prog ops Q (o :: rest) a w := by
  obtain ⟨i0, hi, hz0, hz1, hz2⟩ := info_F'
  subst hm
  refine wpList_append_own_at w hgd s x 40 ho base 47 i0 _ 2 32 under_F hi hz0 hz1 hz2 rfl (by decide) v es.length (flatF es) hs hO ad fs.length c (flatF fs) hx (flatF_len fs) hy (flatF_one fs) (by unfold maxLen; omega) (by omega) hbase ?_
  intro v' w' h1 h2 _ hat
  refine h v' w' ?_ h2 hat
  unfold OwnF
  rw [flatF_app, List.length_append]
  exact h1
theorem flatF_setId (fs : List Fc) (i : Nat) (id : Int) (hi : i < fs.length) : (flatF fs).set (i * 2) (.int .i64 id) = flatF (fs.set i ⟨id, (fcAt fs i).x, (fcAt fs i).n, (fcAt fs i).c, (fcAt fs i).ns⟩) := by
  refine List.ext_getElem? fun j => ?_
  by_cases hj : j < fs.length * 2
  · have e : j = (j / 2) * 2 + j % 2 := by omega
    have hq : j / 2 < fs.length := by omega
    rw [e, flatF_at _ _ _ (by rw [List.length_set]; exact hq) (by omega), fcAt_set hi, List.getElem?_set]
    by_cases h1 : i = j / 2
    · rw [if_pos h1]
      by_cases h2 : j % 2 = 0
      · rw [if_pos (by omega), if_pos (by rw [flatF_len]; omega), h2]
        rfl
      · rw [if_neg (by omega), flatF_at _ _ _ hq (by omega), h1, show j % 2 = 1 by omega]
        rfl
    · rw [if_neg h1, if_neg (by omega), flatF_at _ _ _ hq (by omega)]
  · rw [List.getElem?_eq_none (by rw [List.length_set, flatF_len]; omega), List.getElem?_eq_none (by rw [flatF_len, List.length_set]; omega)]
theorem OwnF.setId {w : World} {base g n cap : Nat} {fs : List Fc} (h : OwnF w base (.slice (some ⟨g, 0, none⟩) n cap) fs) (i : Nat) (hi : i < fs.length) (id : Int) :
    OwnF (w.setCell ⟨g, i * 2, none⟩ (.int .i64 id)) base (.slice (some ⟨g, 0, none⟩) n cap) (fs.set i ⟨id, (fcAt fs i).x, (fcAt fs i).n, (fcAt fs i).c, (fcAt fs i).ns⟩) := by
  rcases h.2 with ⟨hv, -⟩ | ⟨g', cap', cur, hv, h1, h2, h3, h4, h5, h6⟩
  · simp at hv
  · simp only [Value.slice.injEq, Option.some.injEq, Addr.mk.injEq] at hv
    obtain ⟨⟨rfl, -⟩, rfl, rfl⟩ := hv
    refine ⟨flatF_len _, .inr ⟨g, cap, cur.setIfInBounds (i * 2) (.int .i64 id), by rw [List.length_set], h1, heap_setCell_same w g _ _ _ _ h2, by rw [List.length_set]; exact h3, h4, by simpa using h5, ?_⟩⟩
    rw [List.length_set, Array.toList_setIfInBounds, List.take_set, h6, flatF_setId fs i id hi]
theorem OwnF.setE {w : World} {base g n cap : Nat} {fs : List Fc} (h : OwnF w base (.slice (some ⟨g, 0, none⟩) n cap) fs) (i : Nat) (hi : i < fs.length) (e : Fc) :
    OwnF ((w.setCell ⟨g, i * 2, none⟩ (.int .i64 e.id)).setCell ⟨g, i * 2 + 1, none⟩ (.slice e.x e.n e.c)) base (.slice (some ⟨g, 0, none⟩) n cap) (fs.set i e) := by
  have h1 := (h.setId i hi e.id).set i (by rw [List.length_set]; exact hi) e.x e.n e.c e.ns
  rw [List.set_set, fcAt_set hi, if_pos rfl] at h1
  exact h1
theorem riseF_lt {fs : List Fc} (h : riseFB fs = true) : ∀ (i j : Nat), i < j → j < fs.length → (fcAt fs i).id < (fcAt fs j).id
  | i, 0, hij, _ => by omega
  | i, j + 1, hij, hj => by
    have h1 : riseFAt fs (j + 1) = true := by
      unfold riseFB at h
      exact List.all_eq_true.1 h (j + 1) (List.mem_range.2 hj)
    unfold riseFAt at h1
    simp only [Nat.add_sub_cancel, Bool.or_eq_true, decide_eq_true_eq, beq_iff_eq] at h1
    have h2 : (fcAt fs j).id < (fcAt fs (j + 1)).id := by
      rcases h1 with h1 | h1
      · omega
      · exact h1
    by_cases e : i < j
    · have := riseF_lt h i j e (by omega)
      omega
    · obtain rfl : i = j := by omega
      exact h2
theorem chkV_rise {vid : Int} {rn : Nat} {rs : List Rg} {sn : Nat} {ss : List Sb} (h : chkV vid rn rs sn ss = 0) (i : Nat) (hi : i < sn) : riseFB (sbAt ss i).fs = true := by
  obtain ⟨-, -, hs⟩ := chkV_right h
  unfold sbsB at hs
  rw [Bool.and_eq_true, List.all_eq_true] at hs
  have h1 := hs.1 i (by simpa using hi)
  unfold sbsAt fcsB at h1
  simp only [Bool.and_eq_true] at h1
  exact h1.2.1.2
/-- One step of the new face towards its place. -/
theorem swap_ins {xs : List Fc} {e : Fc} {q : Nat} (hq : q < xs.length) : ((xs.take (q + 1) ++ [e] ++ xs.drop (q + 1)).set q e).set (q + 1) (fcAt xs q) = xs.take q ++ [e] ++ xs.drop q := by
  refine List.ext_getElem? fun j => ?_
  have hx : xs[q]? = some (fcAt xs q) := by
    unfold fcAt
    rw [List.getD_eq_getElem?_getD, List.getElem?_eq_getElem hq]
    rfl
  have hl : (xs.take (q + 1) ++ [e] ++ xs.drop (q + 1)).length = xs.length + 1 := by simp; omega
  rw [List.getElem?_set, List.length_set, hl, List.getElem?_set, hl, get_ins xs (q + 1) (by omega), get_ins xs q (by omega)]
  by_cases h1 : q + 1 = j
  · subst h1
    rw [if_pos rfl, if_pos (by omega), if_neg (by omega), if_neg (by omega), Nat.add_sub_cancel, hx]
  · rw [if_neg h1]
    by_cases h2 : q = j
    · subst h2
      rw [if_pos rfl, if_pos (by omega), if_neg (by omega), if_pos rfl]
    · rw [if_neg h2]
      by_cases h3 : j < q
      · rw [if_pos (by omega), if_pos h3]
      · rw [if_neg (by omega), if_neg (by omega), if_neg h3, if_neg (by omega)]
theorem fcAt_ins {ts : List Fc} {p : Nat} (hp : p ≤ ts.length) (e : Fc) (j : Nat) : fcAt (ts.take p ++ [e] ++ ts.drop p) j = if j < p then fcAt ts j else if j = p then e else fcAt ts (j - 1) := by
  unfold fcAt
  rw [List.getD_eq_getElem?_getD, get_ins ts p hp]
  split
  · rw [List.getD_eq_getElem?_getD]
  · split
    · rfl
    · rw [List.getD_eq_getElem?_getD]
/-- The other subnets' faces. -/
def Oth (w : World) (base : Nat) (ts : List Sb) (i gf : Nat) : Prop := ∀ q, q < ts.length → q ≠ i → OFs w base (.slice (sbAt ts q).x (sbAt ts q).n (sbAt ts q).c) (sbAt ts q).fs (sbAt ts q).fs.length ∧ (Value.slice (sbAt ts q).x (sbAt ts q).n (sbAt ts q).c).ownBlock ≠ some gf
/-- A network that is being made, the faces of its subnet i in the block gf. -/
structure FcW (w W : World) (base bo g cap gf n cf i : Nat) (vid : Int) (vR : Value) (rs : List Rg) (ts : List Sb) (cur : List Fc) : Prop where
  ho : W.heap[bo]? = some (vpB vid vR (.slice (some ⟨g, 0, none⟩) ts.length cap))
  hs : W.heap[w.heap.size + 1]? = some (vpB 0 (.slice none 0 0) (.slice none 0 0))
  below : Below w.heap.size w W
  rgs : OwnR W base vR rs
  row : ∀ M, OwnS W base (.slice (some ⟨g, 0, none⟩) ts.length cap) (ts.set i (withF (sbAt ts i) (some ⟨gf, 0, none⟩) n cf M))
  fcs : OwnF W base (.slice (some ⟨gf, 0, none⟩) n cf) cur
  ads : ∀ f ∈ cur, OwnI W base (.slice f.x f.n f.c) f.ns
  oth : Oth W base ts i gf
theorem FcW.later {w W W' : World} {base bo g cap gf n cf i : Nat} {vid : Int} {vR : Value} {rs : List Rg} {ts : List Sb} {cur : List Fc} (h : FcW w W base bo g cap gf n cf i vid vR rs ts cur) (hb : Below W.heap.size W W') : FcW w W' base bo g cap gf n cf i vid vR rs ts cur :=
  ⟨heap_later hb h.ho, heap_later hb h.hs, h.below.trans (hb.mono h.below.size), OwnR.later h.rgs hb, fun M => (h.row M).later hb, h.fcs.later hb, fun f hf => (h.ads f hf).later hb, fun q h1 h2 => ⟨OFs.later (h.oth q h1 h2).1 hb, (h.oth q h1 h2).2⟩⟩
theorem FcW.set1 {w W W' : World} {base bo g cap gf n cf i : Nat} {vid : Int} {vR : Value} {rs : List Rg} {ts : List Sb} {cur cur' : List Fc} (h : FcW w W base bo g cap gf n cf i vid vR rs ts cur) (hg : W.grownBy W' (some gf)) (hw : w.heap.size + 1 < base) (hF : OwnF W' base (.slice (some ⟨gf, 0, none⟩) n cf) cur')
    (hm : ∀ f ∈ cur', OwnI W base (.slice f.x f.n f.c) f.ns) : FcW w W' base bo g cap gf n cf i vid vR rs ts cur' := by
  obtain ⟨hbg, c0, hc0⟩ := h.fcs.block
  have hkI : ∀ {v : Value} {es : List Int}, OwnI W base v es → OwnI W' base v es := fun {v es} hO => hO.kept hg (fun q hq e => by subst e; exact hO.ne hc0 (by decide) hq)
  refine ⟨grown_box hg (fun e => by subst e; have := h.ho; rw [hc0] at this; simp at this) h.ho, grown_box hg (by omega) h.hs, below_grownr h.below hg (fun q e => by cases e; omega), h.rgs.kept hg (fun q hq e => by subst e; exact h.rgs.ne hc0 (by decide) hq),
    fun M => (h.row M).kept hg (fun q hq e => by subst e; exact (h.row M).ne hc0 (by decide) hq), hF, fun f hf => hkI (hm f hf), fun q h1 h2 => ⟨?_, (h.oth q h1 h2).2⟩⟩
  obtain ⟨ho1, ho2⟩ := h.oth q h1 h2
  exact OFs.mk' (ho1.row.kept hg (fun k hk e => by subst e; exact ho2 hk)) (fun f hf => hkI (ho1.each f hf))
/-- A face of the row is written over by one of the row. -/
theorem FcW.put {w W : World} {base bo g cap gf n cf i : Nat} {vid : Int} {vR : Value} {rs : List Rg} {ts : List Sb} {cur : List Fc} (h : FcW w W base bo g cap gf n cf i vid vR rs ts cur) (hw : w.heap.size + 1 < base) (q : Nat) (hq : q < cur.length) (e : Fc) (he : OwnI W base (.slice e.x e.n e.c) e.ns) :
    FcW w ((W.setCell ⟨gf, q * 2, none⟩ (.int .i64 e.id)).setCell ⟨gf, q * 2 + 1, none⟩ (.slice e.x e.n e.c)) base bo g cap gf n cf i vid vR rs ts (cur.set q e) := by
  have hg : W.grownBy ((W.setCell ⟨gf, q * 2, none⟩ (.int .i64 e.id)).setCell ⟨gf, q * 2 + 1, none⟩ (.slice e.x e.n e.c)) (some gf) := by
    have g1 := set_grown W gf (q * 2) (.int .i64 e.id)
    have g2 := set_grown (W.setCell ⟨gf, q * 2, none⟩ (.int .i64 e.id)) gf (q * 2 + 1) (.slice e.x e.n e.c)
    exact ⟨g2.os.trans g1.os, g2.tape.trans g1.tape, g2.output.trans g1.output, Nat.le_trans g1.size g2.size, fun k hk hne => (g2.block k (Nat.lt_of_lt_of_le hk g1.size) hne).trans (g1.block k hk hne)⟩
  refine h.set1 hg hw (h.fcs.setE q hq e) (fun f hf => ?_)
  obtain ⟨k, hk, rfl⟩ := List.getElem_of_mem hf
  rw [List.getElem_set]
  split
  · exact he
  · exact h.ads _ (List.getElem_mem _)
theorem FcW.keepI {w W : World} {base bo g cap gf n cf i : Nat} {vid : Int} {vR : Value} {rs : List Rg} {ts : List Sb} {cur : List Fc} (h : FcW w W base bo g cap gf n cf i vid vR rs ts cur) {v a b : Value} {es : List Int} {q p : Nat} (hO : OwnI W base v es) : OwnI ((W.setCell ⟨gf, q, none⟩ a).setCell ⟨gf, p, none⟩ b) base v es := by
  obtain ⟨hbg, c0, hc0⟩ := h.fcs.block
  have h1 : OwnI (W.setCell ⟨gf, q, none⟩ a) base v es := hO.kept (set_grown _ _ _ _) (fun k hk e => by subst e; exact hO.ne hc0 (by decide) hk)
  exact h1.kept (set_grown _ _ _ _) (fun k hk e => by subst e; exact h1.ne (heap_setCell_same W _ q _ _ a hc0) (by decide) hk)
theorem FcW.cells {w W : World} {base bo g cap gf n cf i : Nat} {vid : Int} {vR : Value} {rs : List Rg} {ts : List Sb} {cur : List Fc} (h : FcW w W base bo g cap gf n cf i vid vR rs ts cur) (q : Nat) (hq : q < cur.length) :
    W.cell? ⟨gf, q * 2, none⟩ = some (.int .i64 (fcAt cur q).id) ∧ W.cell? ⟨gf, q * 2 + 1, none⟩ = some (.slice (fcAt cur q).x (fcAt cur q).n (fcAt cur q).c) ∧ W.frozen? ⟨gf, q * 2, none⟩ = false ∧ W.frozen? ⟨gf, q * 2 + 1, none⟩ = false := by
  obtain ⟨x2, c2, he2, -, -, -, hm'⟩ := h.fcs.mem
  simp only [Value.slice.injEq] at he2
  obtain ⟨b2, o2, he3, c7, c8⟩ := hm' q hq
  rw [← he2.1] at he3
  simp only [Option.some.injEq, Addr.mk.injEq] at he3
  obtain ⟨rfl, rfl, -⟩ := he3
  exact ⟨by simpa using c7, by simpa using c8, h.fcs.frozen _, h.fcs.frozen _⟩
theorem FcW.sub {w W : World} {base bo g cap gf n cf i : Nat} {vid : Int} {vR : Value} {rs : List Rg} {ts : List Sb} {cur : List Fc} (h : FcW w W base bo g cap gf n cf i vid vR rs ts cur) (hi : i < ts.length) : W.cell? ⟨g, i * 4 + 3, none⟩ = some (.slice (some ⟨gf, 0, none⟩) n cf) := by
  obtain ⟨x2, c2, he2, -, -, -, hm'⟩ := (h.row []).mem
  simp only [Value.slice.injEq] at he2
  obtain ⟨b2, o2, he3, -, -, -, c8⟩ := hm' i (by rw [List.length_set]; exact hi)
  rw [← he2.1] at he3
  simp only [Option.some.injEq, Addr.mk.injEq] at he3
  obtain ⟨rfl, rfl, -⟩ := he3
  rw [sbAt_set hi, if_pos rfl] at c8
  simpa [withF] using c8
theorem FcW.nv {w W : World} {base bo g cap gf n cf i : Nat} {vid : Int} {vR : Value} {rs : List Rg} {ts : List Sb} {cur : List Fc} (h : FcW w W base bo g cap gf n cf i vid vR rs ts cur) : NV W vid (.agg #[.int .i64 vid, vR, .slice (some ⟨g, 0, none⟩) ts.length cap]) rs (ts.set i (withF (sbAt ts i) (some ⟨gf, 0, none⟩) n cf cur)) := by
  have hfa : OFa W base (ts.set i (withF (sbAt ts i) (some ⟨gf, 0, none⟩) n cf cur)) := fun s hs => by
    obtain ⟨k, hk, rfl⟩ := List.getElem_of_mem hs
    have hk' : k < ts.length := by simpa using hk
    rw [List.getElem_set]
    by_cases e : i = k
    · rw [if_pos e]; exact OFs.mk' h.fcs h.ads
    · rw [if_neg e]
      have e2 : sbAt ts k = ts[k] := by unfold sbAt; rw [List.getD_eq_getElem?_getD, List.getElem?_eq_getElem hk']; rfl
      rw [← e2]
      exact (h.oth k hk' (fun h => e h.symm)).1
  exact NV.mk h.rgs (h.row cur) hfa.fcb
theorem FcW.res {w W : World} {base bo g cap gf n cf i : Nat} {vid : Int} {vR : Value} {rs : List Rg} {ts : List Sb} {cur : List Fc} {u0 u1 u2 : Value} (h : FcW w W base bo g cap gf n cf i vid vR rs ts cur) (hw : w.heap.size + 1 < base) : NV (((W.setCell ⟨w.heap.size + 1, 0, none⟩ u0).setCell ⟨w.heap.size + 1, 1, none⟩ u1).setCell ⟨w.heap.size + 1, 2, none⟩ u2) vid (.agg #[.int .i64 vid, vR, .slice (some ⟨g, 0, none⟩) ts.length cap]) rs (ts.set i (withF (sbAt ts i) (some ⟨gf, 0, none⟩) n cf cur)) := by
  have hfa : OFa W base (ts.set i (withF (sbAt ts i) (some ⟨gf, 0, none⟩) n cf cur)) := fun s hs => by
    obtain ⟨k, hk, rfl⟩ := List.getElem_of_mem hs
    have hk' : k < ts.length := by simpa using hk
    rw [List.getElem_set]
    by_cases e : i = k
    · rw [if_pos e]; exact OFs.mk' h.fcs h.ads
    · rw [if_neg e]
      have e2 : sbAt ts k = ts[k] := by unfold sbAt; rw [List.getD_eq_getElem?_getD, List.getElem?_eq_getElem hk']; rfl
      rw [← e2]
      exact (h.oth k hk' (fun h => e h.symm)).1
  exact NV.mk (((h.rgs.put hw).put hw).put hw) ((((h.row cur).put hw).put hw).put hw) (((hfa.put hw).put hw).put hw).fcb
/-- Behind the append of a face to the row of the subnet i, and the store of the new slice. -/
theorem FcW.start {w wB w9 : World} {base bo g cap gf n cf i : Nat} {vid : Int} {vR : Value} {rs : List Rg} {ts : List Sb} {c0 : Array Value} {f' : Fc} (hi : i < ts.length) (hwb : w.heap.size + 1 < base) (hOS : OSs wB base (.slice (some ⟨g, 0, none⟩) ts.length cap) ts ts.length)
    (hho : wB.heap[bo]? = some (vpB vid vR (.slice (some ⟨g, 0, none⟩) ts.length cap))) (hs : wB.heap[w.heap.size + 1]? = some (vpB 0 (.slice none 0 0) (.slice none 0 0))) (hB : Below w.heap.size w wB) (hOR : OwnR wB base vR rs) (hgB : wB.heap[g]? = some (.cells c0 42)) (hbog : bo ≠ g) (hbg : base ≤ g)
    (hI : OwnI wB base (.slice f'.x f'.n f'.c) f'.ns) (hF9 : OwnF w9 base (.slice (some ⟨gf, 0, none⟩) n cf) ((sbAt ts i).fs ++ [f'])) (hg9 : wB.grownBy w9 (Value.slice (sbAt ts i).x (sbAt ts i).n (sbAt ts i).c).ownBlock)
    (hat : (Value.slice (some ⟨gf, 0, none⟩) n cf).ownBlock = (Value.slice (sbAt ts i).x (sbAt ts i).n (sbAt ts i).c).ownBlock ∨ (Value.slice (some ⟨gf, 0, none⟩) n cf).ownBlock = some wB.heap.size) :
    FcW w (w9.setCell ⟨g, i * 4 + 3, none⟩ (.slice (some ⟨gf, 0, none⟩) n cf)) base bo g cap gf n cf i vid vR rs ts ((sbAt ts i).fs ++ [f']) := by
  have hO := (hOS.own i hi).row
  have hk : ∀ q, (Value.slice (sbAt ts i).x (sbAt ts i).n (sbAt ts i).c).ownBlock = some q → ∃ cur, wB.heap[q]? = some (.cells cur 47) := fun q e => hO.kind e
  have ho9 := grown_keep hg9 (hO.ne hho (by decide)) hho
  have hs9 := grown_keep hg9 (hO.ne hs (by decide)) hs
  have hgg9 := grown_keep hg9 (hO.ne hgB (by decide)) hgB
  have hB9 := below_grownr hB hg9 (fun q e => by have := (hO.lt q e).1; omega)
  have hR9 : OwnR w9 base vR rs := hOR.keptr hg9 (fun q hq e => by obtain ⟨c, hc⟩ := hk q e; exact hOR.ne hc (by decide) hq)
  have hS9 : OwnS w9 base (.slice (some ⟨g, 0, none⟩) ts.length cap) ts := hOS.row.keptr hg9 (fun q hq e => by obtain ⟨c, hc⟩ := hk q e; exact hOS.row.ne hc (by decide) hq)
  have hkI : ∀ {v : Value} {es : List Int}, OwnI wB base v es → OwnI (w9.setCell ⟨g, i * 4 + 3, none⟩ (.slice (some ⟨gf, 0, none⟩) n cf)) base v es := fun {v es} h1 => by
    have h2 : OwnI w9 base v es := h1.keptr hg9 (fun q hq e => by obtain ⟨c, hc⟩ := hk q e; exact h1.ne hc (by decide) hq)
    exact h2.kept (set_grown _ _ _ _) (fun q hq e => by subst e; exact h2.ne hgg9 (by decide) hq)
  refine ⟨(heap_setCell_other _ _ _ _ hbog).trans ho9, (heap_setCell_other _ _ _ _ (by show w.heap.size + 1 ≠ g; omega)).trans hs9, hB9.setCell (p := ⟨g, i * 4 + 3, none⟩) (by show w.heap.size ≤ g; omega) _, hR9.putBox hgg9 (by decide), fun M => hS9.set i hi _ _ _ M,
    hF9.kept (set_grown _ _ _ _) (fun q hq e => by subst e; exact hF9.ne hgg9 (by decide) hq), fun f hf => ?_, fun q h1 h2 => ⟨?_, fun e => ?_⟩⟩
  · rcases List.mem_append.1 hf with h | h
    · exact hkI ((hOS.own i hi).each f h)
    · obtain rfl : f = f' := by simpa using h
      exact hkI hI
  · have hq := hOS.own q h1
    have hrow : OwnF w9 base (.slice (sbAt ts q).x (sbAt ts q).n (sbAt ts q).c) (sbAt ts q).fs := hq.row.keptr hg9 (fun k hk e => hOS.apart i q hi h1 (fun h => h2 h.symm) k e hk)
    exact OFs.mk' (hrow.kept (set_grown _ _ _ _) (fun k hk e => by subst e; exact hrow.ne hgg9 (by decide) hk)) (fun f hf => hkI (hq.each f hf))
  · rcases hat with h | h
    · exact hOS.apart i q hi h1 (fun h => h2 h.symm) gf (h.symm.trans rfl) e
    · have h3 : gf = wB.heap.size := by simpa [Value.ownBlock] using h
      have := ((hOS.own q h1).row.lt gf e).2
      omega
end Go.Proofs.Ytpdhipjeobchfaa
/- What FaceVpc of the reference comes to: its walk. -/
namespace Go.Proofs.Ytpdhipjeobchfaa
open Go.RowKit Go.Shelf

theorem FaRel.of_err {s : Sb} {id E : Int} (h : faceE0 s id = E) (hE : E ≠ 0) : FaRel s id E 0 := ⟨fun _ => ⟨h.symm, rfl⟩, fun h0 => absurd (h.symm.trans h0) hE⟩
theorem fcAt_some {rs : List Fc} {k : Nat} (h : k < rs.length) : rs[k]? = some (fcAt rs k) := by
  unfold fcAt
  rw [List.getD_eq_getElem?_getD, List.getElem?_eq_getElem h]
  rfl
theorem FaRel.of_give {s : Sb} {id E y : Int} (h : faceE0 s id = 0) (g : GiveOr s E y) : FaRel s id E y := ⟨fun h0 => absurd h h0, fun _ => g⟩

end Go.Proofs.Ytpdhipjeobchfaa
/- What UnfaceVpc of the reference comes to. -/
namespace Go.Proofs.Ytpdhipjeobchfaa
open Go.RowKit Go.Shelf

/-- The worlds that hold there what w held. -/
structure Wk (ps : List Addr) (w : World) : Type where
  val : World
  property : ∀ p ∈ ps, val.cell? p = w.cell? p
end Go.Proofs.Ytpdhipjeobchfaa
/- What MoreVpc of the reference comes to. -/
namespace Go.Proofs.Ytpdhipjeobchfaa
open Go.RowKit Go.Shelf

theorem wpList_append_Iat {w : World} {ops : Array Oper} {rest : List Oper} {o : Oper} {a : Act} {Q : Exit → Act → World → Prop} (hgd : o.guard = none) (s x : Operand)
    (ho : o.op = .call { callee := .builtin .append, args := #[s, x], argTypes := #[45, 45] }) (base : Nat) (v : Value) (es : List Int) (hs : a.eval s = v) (hO : OwnI w base v es)
    (ad : Addr) (m c : Nat) (fs : List Int) (hx : a.eval x = .slice (some ad) m c) (hm : fs.length = m) (hy : ∀ j u, (flatI fs)[j]? = some u → w.cell? (ad.add j) = some u)
    (hlen : es.length + m ≤ 1000000000) (hbase : base ≤ w.heap.size)
    (h : ∀ v' w', OwnI w' base v' (es ++ fs) → w.grownBy w' v.ownBlock → (v'.ownBlock = v.ownBlock ∨ v'.ownBlock = some w.heap.size) → wpList Try.prog ops Q rest (a.put o.dst v') w') : wpList Try.prog ops Q (o :: rest) a w := by
  obtain ⟨i0, hi, hz0, hz1, hz2⟩ := info_I'
  subst hm
  refine wpList_append_own_at w hgd s x 45 ho base 3 i0 _ 1 8 under_I hi hz0 hz1 hz2 rfl (by decide) v es.length (flatI es) hs hO ad fs.length c (flatI fs) hx (by rw [flatI_len]; omega) hy (flatI_one fs) (by unfold maxLen; omega) (by omega) hbase ?_
  intro v' w' h1 h2 _ hat
  refine h v' w' ?_ h2 hat
  unfold OwnI
  rw [flatI_app, List.length_append]
  exact h1
theorem OwnI.frozen {w : World} {base g n cap : Nat} {ns : List Int} (h : OwnI w base (.slice (some ⟨g, 0, none⟩) n cap) ns) (i : Nat) : w.frozen? ⟨g, i, none⟩ = false := by
  rcases h.2 with ⟨hv, -⟩ | ⟨g', cap', cur, hv, h1, h2, -⟩
  · simp at hv
  · simp only [Value.slice.injEq, Option.some.injEq, Addr.mk.injEq] at hv
    obtain ⟨⟨rfl, -⟩, -, rfl⟩ := hv
    simp [World.frozen?, h2]
theorem OwnI.block {w : World} {base g n cap : Nat} {ns : List Int} (h : OwnI w base (.slice (some ⟨g, 0, none⟩) n cap) ns) : base ≤ g ∧ ∃ cur, w.heap[g]? = some (.cells cur 3) := by
  rcases h.2 with ⟨hv, -⟩ | ⟨g', cap', cur, hv, h1, h2, -⟩
  · simp at hv
  · simp only [Value.slice.injEq, Option.some.injEq, Addr.mk.injEq] at hv
    obtain ⟨⟨rfl, -⟩, -, rfl⟩ := hv
    exact ⟨h1, cur, h2⟩
theorem OwnI.set {w : World} {base g n cap : Nat} {ns : List Int} (h : OwnI w base (.slice (some ⟨g, 0, none⟩) n cap) ns) (i : Nat) (v : Int) : OwnI (w.setCell ⟨g, i, none⟩ (.int .i64 v)) base (.slice (some ⟨g, 0, none⟩) n cap) (ns.set i v) := by
  rcases h.2 with ⟨hv, -⟩ | ⟨g', cap', cur, hv, h1, h2, h3, h4, h5, h6⟩
  · simp at hv
  · simp only [Value.slice.injEq, Option.some.injEq, Addr.mk.injEq] at hv
    obtain ⟨⟨rfl, -⟩, rfl, rfl⟩ := hv
    refine ⟨by rw [flatI_len]; simp, .inr ⟨g, cap, cur.setIfInBounds i (.int .i64 v), by rw [List.length_set], h1, heap_setCell_same w g _ _ _ _ h2, by rw [List.length_set]; exact h3, h4, by simpa using h5, ?_⟩⟩
    rw [List.length_set, Array.toList_setIfInBounds, List.take_set, h6]
    simp [flatI, List.map_set]
theorem OwnF.kindr {w : World} {base g : Nat} {v : Value} {es : List Int} (h : OwnI w base v es) (hv : v.ownBlock = some g) : ∃ cur, w.heap[g]? = some (.cells cur 3) := by
  rcases h.2 with ⟨rfl, -⟩ | ⟨g', cap, cur, rfl, -, h3, -⟩
  · cases hv
  · obtain rfl : g' = g := by simpa [Value.ownBlock] using hv
    exact ⟨cur, h3⟩
theorem swap_insI {xs : List Int} {e x : Int} {q : Nat} (hx : xs[q]? = some x) : ((xs.take (q + 1) ++ [e] ++ xs.drop (q + 1)).set q e).set (q + 1) x = xs.take q ++ [e] ++ xs.drop q := by
  have hq : q < xs.length := (List.getElem?_eq_some_iff.1 hx).1
  refine List.ext_getElem? fun j => ?_
  have hl : (xs.take (q + 1) ++ [e] ++ xs.drop (q + 1)).length = xs.length + 1 := by simp; omega
  rw [List.getElem?_set, List.length_set, hl, List.getElem?_set, hl, get_ins xs (q + 1) (by omega), get_ins xs q (by omega)]
  by_cases h1 : q + 1 = j
  · subst h1
    rw [if_pos rfl, if_pos (by omega), if_neg (by omega), if_neg (by omega), Nat.add_sub_cancel, hx]
  · rw [if_neg h1]
    by_cases h2 : q = j
    · subst h2
      rw [if_pos rfl, if_pos (by omega), if_neg (by omega), if_pos rfl]
    · rw [if_neg h2]
      by_cases h3 : j < q
      · rw [if_pos (by omega), if_pos h3]
      · rw [if_neg (by omega), if_neg (by omega), if_neg h3, if_neg (by omega)]
theorem inAt_ins {ts : List Int} {p : Nat} (hp : p ≤ ts.length) (e : Int) (j : Nat) : inAt (ts.take p ++ [e] ++ ts.drop p) j = if j < p then inAt ts j else if j = p then e else inAt ts (j - 1) := by
  unfold inAt
  rw [List.getD_eq_getElem?_getD, get_ins ts p hp]
  split
  · rw [List.getD_eq_getElem?_getD]
  · split
    · rfl
    · rw [List.getD_eq_getElem?_getD]
theorem chkV_riseI {vid : Int} {rn : Nat} {rs : List Rg} {sn : Nat} {ss : List Sb} (h : chkV vid rn rs sn ss = 0) (i : Nat) (hi : i < sn) (j : Nat) (hj : j < (sbAt ss i).n) : riseIB (fcAt (sbAt ss i).fs j).ns = true := by
  obtain ⟨-, -, hs⟩ := chkV_right h
  unfold sbsB at hs
  rw [Bool.and_eq_true, List.all_eq_true] at hs
  have h1 := hs.1 i (by simpa using hi)
  unfold sbsAt fcsB at h1
  simp only [Bool.and_eq_true, List.all_eq_true] at h1
  have h2 := h1.2.1.1 j (by simpa using hj)
  unfold fcsAt adB at h2
  simp only [Bool.and_eq_true] at h2
  exact h2.2.1
/-- A network that is being made; the addresses of its face j of the subnet i are elsewhere, in the block gi. -/
structure MoW (w W : World) (base bo gi n ci i j : Nat) (vid : Int) (vR vS : Value) (rs : List Rg) (ts : List Sb) (cur : List Int) : Prop where
  ho : W.heap[bo]? = some (vpB vid vR vS)
  hs : W.heap[w.heap.size + 1]? = some (vpB 0 (.slice none 0 0) (.slice none 0 0))
  below : Below w.heap.size w W
  rgs : OwnR W base vR rs
  row : OwnS W base vS ts
  fcs : ∀ q, q < ts.length → OwnF W base (.slice (sbAt ts q).x (sbAt ts q).n (sbAt ts q).c) (sbAt ts q).fs
  ads : ∀ q, q < ts.length → ∀ p, p < (sbAt ts q).fs.length → ¬ (q = i ∧ p = j) → OwnI W base (.slice (fcAt (sbAt ts q).fs p).x (fcAt (sbAt ts q).fs p).n (fcAt (sbAt ts q).fs p).c) (fcAt (sbAt ts q).fs p).ns ∧ adK (fcAt (sbAt ts q).fs p) ≠ some gi
  new : OwnI W base (.slice (some ⟨gi, 0, none⟩) n ci) cur
theorem MoW.later {w W W' : World} {base bo gi n ci i j : Nat} {vid : Int} {vR vS : Value} {rs : List Rg} {ts : List Sb} {cur : List Int} (h : MoW w W base bo gi n ci i j vid vR vS rs ts cur) (hb : Below W.heap.size W W') : MoW w W' base bo gi n ci i j vid vR vS rs ts cur :=
  ⟨heap_later hb h.ho, heap_later hb h.hs, h.below.trans (hb.mono h.below.size), OwnR.later h.rgs hb, h.row.later hb, fun q hq => (h.fcs q hq).later hb, fun q hq p hp hn => ⟨(h.ads q hq p hp hn).1.later hb, (h.ads q hq p hp hn).2⟩, h.new.later hb⟩
/-- A number of the new row is written over. -/
theorem MoW.put {w W : World} {base bo gi n ci i j : Nat} {vid : Int} {vR vS : Value} {rs : List Rg} {ts : List Sb} {cur : List Int} (h : MoW w W base bo gi n ci i j vid vR vS rs ts cur) (hw : w.heap.size + 1 < base) (k : Nat) (v : Int) : MoW w (W.setCell ⟨gi, k, none⟩ (.int .i64 v)) base bo gi n ci i j vid vR vS rs ts (cur.set k v) := by
  obtain ⟨hbg, c0, hc0⟩ := h.new.block
  have hg := set_grown W gi k (.int .i64 v)
  refine ⟨grown_box hg (fun e => by subst e; have := h.ho; rw [hc0] at this; simp at this) h.ho, grown_box hg (by omega) h.hs, below_grownr h.below hg (fun q e => by cases e; omega), h.rgs.kept hg (fun q hq e => by subst e; exact h.rgs.ne hc0 (by decide) hq), h.row.kept hg (fun q hq e => by subst e; exact h.row.ne hc0 (by decide) hq),
    fun q hq => (h.fcs q hq).kept hg (fun b hb e => by subst e; exact (h.fcs q hq).ne hc0 (by decide) hb), fun q hq p hp hn => ⟨(h.ads q hq p hp hn).1.kept hg (fun b hb e => by subst e; exact (h.ads q hq p hp hn).2 hb), (h.ads q hq p hp hn).2⟩, h.new.set k v⟩
theorem MoW.cell {w W : World} {base bo gi n ci i j : Nat} {vid : Int} {vR vS : Value} {rs : List Rg} {ts : List Sb} {cur : List Int} (h : MoW w W base bo gi n ci i j vid vR vS rs ts cur) (q : Nat) (hq : q < cur.length) : W.cell? ⟨gi, q, none⟩ = some (.int .i64 (inAt cur q)) ∧ W.frozen? ⟨gi, q, none⟩ = false := by
  obtain ⟨x2, c2, he2, -, -, -, hm'⟩ := h.new.mem
  simp only [Value.slice.injEq] at he2
  obtain ⟨b2, o2, he3, c7⟩ := hm'.cells q hq
  rw [← he2.1] at he3
  simp only [Option.some.injEq, Addr.mk.injEq] at he3
  obtain ⟨rfl, rfl, -⟩ := he3
  exact ⟨by simpa using c7, h.new.frozen _⟩
/-- Behind the append of an address to those of the face j of the subnet i. -/
theorem MoW.start {w wB w9 : World} {base bo gi n ci i j : Nat} {vid : Int} {vR vS : Value} {rs : List Rg} {ts : List Sb} {cur : List Int} (hi : i < ts.length) (hj : j < (sbAt ts i).fs.length) (hwb : w.heap.size + 1 < base) (hOS : OSs wB base vS ts ts.length) (hAp : ApS ts)
    (hho : wB.heap[bo]? = some (vpB vid vR vS)) (hs : wB.heap[w.heap.size + 1]? = some (vpB 0 (.slice none 0 0) (.slice none 0 0))) (hB : Below w.heap.size w wB) (hOR : OwnR wB base vR rs)
    (hI9 : OwnI w9 base (.slice (some ⟨gi, 0, none⟩) n ci) cur) (hg9 : wB.grownBy w9 (adK (fcAt (sbAt ts i).fs j))) (hat : some gi = adK (fcAt (sbAt ts i).fs j) ∨ some gi = some wB.heap.size) :
    MoW w w9 base bo gi n ci i j vid vR vS rs ts cur := by
  have hO := (hOS.own i hi).own j hj
  have hk : ∀ q, adK (fcAt (sbAt ts i).fs j) = some q → ∃ cur, wB.heap[q]? = some (.cells cur 3) := fun q e => OwnF.kindr hO e
  have hap : ∀ q, q < ts.length → ∀ p, p < (sbAt ts q).fs.length → ¬ (q = i ∧ p = j) → ∀ b, adK (fcAt (sbAt ts i).fs j) = some b → adK (fcAt (sbAt ts q).fs p) ≠ some b := fun q hq p hp hn b h1 => by
    by_cases e : i = q
    · subst e
      exact hAp.1 i hi j p hj hp (fun e => hn ⟨rfl, e.symm⟩) b h1
    · exact hAp.2 i q hi hq e j p hj hp b h1
  refine ⟨grown_keep hg9 (hO.ne hho (by decide)) hho, grown_keep hg9 (hO.ne hs (by decide)) hs, below_grownr hB hg9 (fun q e => by have := (hO.lt q e).1; omega), hOR.keptr hg9 (fun q hq e => by obtain ⟨c, hc⟩ := hk q e; exact hOR.ne hc (by decide) hq),
    hOS.row.keptr hg9 (fun q hq e => by obtain ⟨c, hc⟩ := hk q e; exact hOS.row.ne hc (by decide) hq), fun q hq => (hOS.own q hq).row.keptr hg9 (fun b hb e => by obtain ⟨c, hc⟩ := hk b e; exact (hOS.own q hq).row.ne hc (by decide) hb), fun q hq p hp hn => ⟨((hOS.own q hq).own p hp).keptr hg9 (fun b hb e => hap q hq p hp hn b e hb), fun e => ?_⟩, hI9⟩
  rcases hat with h | h
  · exact hap q hq p hp hn gi h.symm e
  · have h3 : gi = wB.heap.size := by simpa using h
    have := (((hOS.own q hq).own p hp).lt gi e).2
    omega
/-- The new row is handed to the face: a network of the call's own. -/
theorem MoW.nvo {w W : World} {base bo gi n ci i j gf m cf : Nat} {vid : Int} {vR vS : Value} {rs : List Rg} {ts : List Sb} {cur : List Int} {u0 u1 u2 : Value} (h : MoW w W base bo gi n ci i j vid vR vS rs ts cur) (hi : i < ts.length) (hj : j < (sbAt ts i).fs.length) (hap : ∀ q, q < ts.length → q ≠ i → (Value.slice (sbAt ts q).x (sbAt ts q).n (sbAt ts q).c).ownBlock ≠ some gf)
    (hvF : Value.slice (sbAt ts i).x (sbAt ts i).n (sbAt ts i).c = .slice (some ⟨gf, 0, none⟩) m cf) (hw : w.heap.size + 1 < base) (hn : n = cur.length) :
    NVo ((((W.setCell ⟨gf, j * 2 + 1, none⟩ (.slice (some ⟨gi, 0, none⟩) n ci)).setCell ⟨w.heap.size + 1, 0, none⟩ u0).setCell ⟨w.heap.size + 1, 1, none⟩ u1).setCell ⟨w.heap.size + 1, 2, none⟩ u2) w.heap.size vid (.agg #[.int .i64 vid, vR, vS]) rs (ts.set i (withF (sbAt ts i) (sbAt ts i).x (sbAt ts i).n (sbAt ts i).c ((sbAt ts i).fs.set j (withA (fcAt (sbAt ts i).fs j) (some ⟨gi, 0, none⟩) cur.length ci cur)))) := by
  subst hn
  have hOF := h.fcs i hi
  rw [hvF] at hOF
  obtain ⟨hbg, c0, hc0⟩ := hOF.block
  have hg := set_grown W gf (j * 2 + 1) (.slice (some ⟨gi, 0, none⟩) cur.length ci)
  have hkI : ∀ {v : Value} {es : List Int}, OwnI W base v es → OwnI (W.setCell ⟨gf, j * 2 + 1, none⟩ (.slice (some ⟨gi, 0, none⟩) cur.length ci)) base v es := fun {v es} hO => hO.kept hg (fun q hq e => by subst e; exact hO.ne hc0 (by decide) hq)
  have hR := h.rgs.kept hg (fun q hq e => by subst e; exact h.rgs.ne hc0 (by decide) hq)
  have hS := (h.row.kept hg (fun q hq e => by subst e; exact h.row.ne hc0 (by decide) hq)).faces i hi ((sbAt ts i).fs.set j (withA (fcAt (sbAt ts i).fs j) (some ⟨gi, 0, none⟩) cur.length ci cur))
  have hFj := hOF.set j hj (some ⟨gi, 0, none⟩) cur.length ci cur
  have hfa : OFa (W.setCell ⟨gf, j * 2 + 1, none⟩ (.slice (some ⟨gi, 0, none⟩) cur.length ci)) base (ts.set i (withF (sbAt ts i) (sbAt ts i).x (sbAt ts i).n (sbAt ts i).c ((sbAt ts i).fs.set j (withA (fcAt (sbAt ts i).fs j) (some ⟨gi, 0, none⟩) cur.length ci cur)))) := fun s hs => by
    obtain ⟨k, hk, rfl⟩ := List.getElem_of_mem hs
    have hk' : k < ts.length := by simpa using hk
    rw [List.getElem_set]
    by_cases e : i = k
    · rw [if_pos e]
      show OFs _ base (.slice (sbAt ts i).x (sbAt ts i).n (sbAt ts i).c) ((sbAt ts i).fs.set j (withA (fcAt (sbAt ts i).fs j) (some ⟨gi, 0, none⟩) cur.length ci cur)) ((sbAt ts i).fs.set j (withA (fcAt (sbAt ts i).fs j) (some ⟨gi, 0, none⟩) cur.length ci cur)).length
      rw [hvF]
      refine OFs.mk' hFj (fun f hf => ?_)
      obtain ⟨p, hp, rfl⟩ := List.getElem_of_mem hf
      have hp' : p < (sbAt ts i).fs.length := by simpa using hp
      rw [List.getElem_set]
      by_cases e2 : j = p
      · rw [if_pos e2]; exact hkI h.new
      · rw [if_neg e2]
        have e3 : fcAt (sbAt ts i).fs p = (sbAt ts i).fs[p] := by unfold fcAt; rw [List.getD_eq_getElem?_getD, List.getElem?_eq_getElem hp']; rfl
        rw [← e3]
        exact hkI (h.ads i hi p hp' (fun hh => e2 hh.2.symm)).1
    · rw [if_neg e]
      have e2 : sbAt ts k = ts[k] := by unfold sbAt; rw [List.getD_eq_getElem?_getD, List.getElem?_eq_getElem hk']; rfl
      rw [← e2]
      refine OFs.mk' ((h.fcs k hk').kept hg (fun q hq e4 => by subst e4; exact hap k hk' (fun h => e h.symm) hq)) (fun f hf => ?_)
      obtain ⟨p, hp, rfl⟩ := List.getElem_of_mem hf
      have e3 : fcAt (sbAt ts k).fs p = (sbAt ts k).fs[p] := by unfold fcAt; rw [List.getD_eq_getElem?_getD, List.getElem?_eq_getElem hp]; rfl
      rw [← e3]
      exact hkI (h.ads k hk' p hp (fun hh => e hh.1.symm)).1
  exact ⟨vR, vS, rfl, (((hR.put hw).put hw).put hw).low (by omega), (((hS.put hw).put hw).put hw).low (by omega), (((hfa.put hw).put hw).put hw).low (by omega)⟩
end Go.Proofs.Ytpdhipjeobchfaa
/- What MoreVpc of the reference comes to: its walk. -/
namespace Go.Proofs.Ytpdhipjeobchfaa
open Go.RowKit Go.Shelf
end Go.Proofs.Ytpdhipjeobchfaa
/- The law VpcFaces. -/
namespace Go.Proofs.Ytpdhipjeobchfaa
open Go.RowKit Go.Shelf

theorem fcAt_cut {ts : List Fc} {p : Nat} (hp : p < ts.length) (j : Nat) : fcAt (ts.take p ++ ts.drop (p + 1)) j = if j < p then fcAt ts j else fcAt ts (j + 1) := by
  unfold fcAt
  rw [List.getD_eq_getElem?_getD, get_cut ts p hp]
  split <;> rw [List.getD_eq_getElem?_getD]
theorem sameFs.ins {a b : List Fc} {p : Nat} {e f : Fc} (h : sameFs a b) (hef : sameF e f) (hp : p ≤ a.length) : sameFs (a.take p ++ [e] ++ a.drop p) (b.take p ++ [f] ++ b.drop p) := by
  have hpb : p ≤ b.length := by rw [← h.1]; exact hp
  refine ⟨by simp [h.1], fun j hj => ?_⟩
  rw [fcAt_ins hp, fcAt_ins hpb]
  have hj' : j < a.length + 1 := by simp at hj; omega
  split
  · exact h.2 j (by omega)
  · split
    · exact hef
    · exact h.2 (j - 1) (by omega)
theorem sameFs.del {a b : List Fc} {p : Nat} (h : sameFs a b) (hp : p < a.length) : sameFs (a.take p ++ a.drop (p + 1)) (b.take p ++ b.drop (p + 1)) := by
  have hpb : p < b.length := by rw [← h.1]; exact hp
  refine ⟨by simp [h.1], fun j hj => ?_⟩
  rw [fcAt_cut hp, fcAt_cut hpb]
  have hj' : j < a.length - 1 := by simp at hj; omega
  split
  · exact h.2 j (by omega)
  · exact h.2 (j + 1) (by omega)
theorem sameFs.setA {a b : List Fc} {p : Nat} {x x' : Option Addr} {n c c' : Nat} {ns : List Int} (h : sameFs a b) (hp : p < a.length) : sameFs (a.set p (withA (fcAt a p) x n c ns)) (b.set p (withA (fcAt b p) x' n c' ns)) := by
  have hpb : p < b.length := by rw [← h.1]; exact hp
  refine ⟨by simp [h.1], fun j hj => ?_⟩
  rw [fcAt_set hp, fcAt_set hpb]
  split
  · exact ⟨(h.2 p hp).1, rfl, rfl⟩
  · exact h.2 j (by simpa using hj)
theorem sameSs.setF {a b : List Sb} {i : Nat} {x x' : Option Addr} {n n' c c' : Nat} {gs hs : List Fc} (h : sameSs a b) (hi : i < a.length) (hn : n = n') (hg : sameFs gs hs) : sameSs (a.set i (withF (sbAt a i) x n c gs)) (b.set i (withF (sbAt b i) x' n' c' hs)) := by
  have hib : i < b.length := by rw [← h.1]; exact hi
  refine ⟨by simp [h.1], fun j hj => ?_⟩
  rw [sbAt_set hi, sbAt_set hib]
  split
  · obtain ⟨h1, h2, h3, -, -⟩ := h.2 i hi
    exact ⟨h1, h2, h3, hn, hg⟩
  · exact h.2 j (by simpa using hj)
theorem PutFc.same {e f : Fc} {a b x y : List Fc} (h : PutFc e a x) (g : PutFc f b y) (hef : sameF e f) (hs : sameFs a b) : sameFs x y := by
  obtain ⟨i, h1, h2, h3, rfl⟩ := h
  obtain ⟨j, g1, g2, g3, rfl⟩ := g
  have hl := hs.1
  have he := hef.1
  obtain rfl : i = j := by
    rcases Nat.lt_trichotomy i j with hij | hij | hij
    · have h4 := g2 i hij; rw [← (hs.2 i (by omega)).1, ← he] at h4; exact absurd (h3 (by omega)) h4
    · exact hij
    · have h4 := h2 j hij; rw [(hs.2 j (by omega)).1, he] at h4; exact absurd (g3 (by omega)) h4
  exact hs.ins hef h1
theorem PutIn.one {e : Int} {a x y : List Int} (h : PutIn e a x) (g : PutIn e a y) : x = y := by
  obtain ⟨i, h1, h2, h3, rfl⟩ := h
  obtain ⟨j, g1, g2, g3, rfl⟩ := g
  obtain rfl : i = j := by
    rcases Nat.lt_trichotomy i j with hij | hij | hij
    · exact absurd (h3 (by omega)) (g2 i hij)
    · exact hij
    · exact absurd (g3 (by omega)) (h2 j hij)
  rfl
theorem FaRel.one {s : Sb} {id E y E' y' : Int} (h : FaRel s id E y) (g : FaRel s id E' y') : E = E' ∧ y = y' := by
  by_cases c : faceE0 s id = 0
  · exact (h.2 c).one (g.2 c)
  · obtain ⟨h1, h2⟩ := h.1 c
    obtain ⟨g1, g2⟩ := g.1 c
    exact ⟨h1.trans g1.symm, h2.trans g2.symm⟩
theorem FaceA.one {vid : Int} {rn : Nat} {rs : List Rg} {sn : Nat} {ss : List Sb} {sub id : Int} {E y E' y' : Int} (h : FaceA vid rn rs sn ss sub id E y) (g : FaceA vid rn rs sn ss sub id E' y') : E = E' ∧ y = y' := by
  unfold FaceA at h g
  by_cases c : chkV vid rn rs sn ss ≠ 0
  · rw [if_pos c] at h g
    exact ⟨h.1.trans g.1.symm, h.2.trans g.2.symm⟩
  · rw [if_neg c] at h g
    rcases h with ⟨h1, h2, h3⟩ | ⟨i, h1, h2⟩
    · rcases g with ⟨-, g2, g3⟩ | ⟨k, g1, -⟩
      · exact ⟨h2.trans g2.symm, h3.trans g3.symm⟩
      · exact absurd g1.sid (h1 k g1.isn)
    · rcases g with ⟨g1, -⟩ | ⟨k, g1, g2⟩
      · exact absurd h1.sid (g1 i h1.isn)
      · obtain rfl := h1.one g1
        exact h2.one g2
theorem MoreA.one {vid : Int} {rn : Nat} {rs : List Rg} {sn : Nat} {ss : List Sb} {sub id : Int} {E y E' y' : Int} (h : MoreA vid rn rs sn ss sub id E y) (g : MoreA vid rn rs sn ss sub id E' y') : E = E' ∧ y = y' := by
  by_cases c : plE vid rn rs sn ss sub id = 0
  · obtain ⟨i, j, h1, h2⟩ := h.2 c
    obtain ⟨k, l, g1, g2⟩ := g.2 c
    obtain ⟨rfl, rfl⟩ := h1.one g1
    unfold MoRel at h2 g2
    split at h2
    · rename_i e
      rw [if_pos e] at g2
      exact ⟨h2.1.trans g2.1.symm, h2.2.trans g2.2.symm⟩
    · rename_i e
      rw [if_neg e] at g2
      exact h2.one g2
  · obtain ⟨h1, h2⟩ := h.1 c
    obtain ⟨g1, g2⟩ := g.1 c
    exact ⟨h1.trans g1.symm, h2.trans g2.symm⟩
def FaceKey (vid : Int) (rn : Nat) (rs : List Rg) (sn : Nat) (ss : List Sb) (sub id : Int) (E y i : Int) (rs' : List Rg) (ss' : List Sb) : Prop := FaceA vid rn rs sn ss sub id E y ∧ (E ≠ 0 → i = 0 ∧ rs' = [] ∧ ss' = []) ∧ (E = 0 → i = vid ∧ rs' = rs ∧ ∃ ts p x n c fx gs, SubAt sn ss sub p ∧ p < ts.length ∧ sameSs ss ts ∧ PutFc ⟨id, fx, 1, 1, [y]⟩ (sbAt ts p).fs gs ∧ n = gs.length ∧ ss' = ts.set p (withF (sbAt ts p) x n c gs))
theorem face_nv {vid : Int} {rn : Nat} {rs : List Rg} {sn : Nat} {ss : List Sb} {sub id : Int} {w w' : World} {e : Ending} (hl : ss.length = sn) (h : VAPost (FaceA vid rn rs sn ss sub id) (FaceR vid rn rs sn ss sub id) w e w') : ∃ i V rs' ss' y E, e = .returned (.tuple #[V, .int .i64 y, .int .i64 E]) ∧ Below w.heap.size w w' ∧ NV w' i V rs' ss' ∧ FaceKey vid rn rs sn ss sub id E y i rs' ss' := by
  obtain ⟨V, y, E, he, hb, hA, hz, hk⟩ := h
  by_cases h0 : E = 0
  · obtain ⟨-, ts, p, x, n, c, fx, gs, h1, h2, h3, h4, h5, h6⟩ := hk h0
    exact ⟨vid, V, rs, _, y, E, he, hb, h6, hA, fun h => absurd h0 h, fun _ => ⟨rfl, rfl, ts, p, x, n, c, fx, gs, h1, by rw [← h3.1, hl]; exact h1.isn, h3, h4, h5, rfl⟩⟩
  · obtain ⟨rfl, rfl⟩ := hz h0
    exact ⟨0, _, [], [], 0, E, he, hb, NV.zero _, hA, fun _ => ⟨rfl, rfl, rfl⟩, fun h => absurd h h0⟩
theorem FaceKey.one {vid : Int} {rn : Nat} {rs : List Rg} {sn : Nat} {ss : List Sb} {sub id : Int} {E y i E' y' j : Int} {rs1 rs2 : List Rg} {ss1 ss2 : List Sb} (h : FaceKey vid rn rs sn ss sub id E y i rs1 ss1) (g : FaceKey vid rn rs sn ss sub id E' y' j rs2 ss2) : E = E' ∧ y = y' ∧ i = j ∧ rs1 = rs2 ∧ sameSs ss1 ss2 := by
  obtain ⟨rfl, rfl⟩ := h.1.one g.1
  refine ⟨rfl, rfl, ?_⟩
  by_cases h0 : E = 0
  · obtain ⟨a1, a2, ts, p, x, n, c, fx, gs, a3, a4, a5, a6, a7, rfl⟩ := h.2.2 h0
    obtain ⟨b1, b2, us, q, x', n', c', fx', gs', b3, b4, b5, b6, b7, rfl⟩ := g.2.2 h0
    obtain rfl := a3.one b3
    have hs := a5.symm.trans b5
    have hg := a6.same b6 ⟨rfl, rfl, rfl⟩ (hs.2 p a4).2.2.2.2
    exact ⟨a1.trans b1.symm, a2.trans b2.symm, hs.setF a4 (by rw [a7, b7, hg.1]) hg⟩
  · obtain ⟨a1, a2, a3⟩ := h.2.1 h0
    obtain ⟨b1, b2, b3⟩ := g.2.1 h0
    exact ⟨a1.trans b1.symm, a2.trans b2.symm, by rw [a3, b3]; exact sameSs.refl _⟩
def MoreKey (vid : Int) (rn : Nat) (rs : List Rg) (sn : Nat) (ss : List Sb) (sub id : Int) (E y i : Int) (rs' : List Rg) (ss' : List Sb) : Prop := MoreA vid rn rs sn ss sub id E y ∧ (E ≠ 0 → i = 0 ∧ rs' = [] ∧ ss' = []) ∧ (E = 0 → i = vid ∧ rs' = rs ∧ ∃ ts p q x c ns, FaceAt sn ss sub id p q ∧ p < ts.length ∧ q < (sbAt ts p).fs.length ∧ sameSs ss ts ∧ PutIn y (fcAt (sbAt ts p).fs q).ns ns ∧ ss' = ts.set p (withF (sbAt ts p) (sbAt ts p).x (sbAt ts p).n (sbAt ts p).c ((sbAt ts p).fs.set q (withA (fcAt (sbAt ts p).fs q) x ns.length c ns))))
theorem more_nv {vid : Int} {rn : Nat} {rs : List Rg} {sn : Nat} {ss : List Sb} {sub id : Int} {w0 w w' : World} {e : Ending} {rx sx : Option Addr} {rc sc : Nat} (hv : Vp w0 rx rn rc rs sx sn sc ss) (h : VAPost (MoreA vid rn rs sn ss sub id) (MoreR vid rn rs sn ss sub id w) w e w') : ∃ i V rs' ss' y E, e = .returned (.tuple #[V, .int .i64 y, .int .i64 E]) ∧ Below w.heap.size w w' ∧ NV w' i V rs' ss' ∧ MoreKey vid rn rs sn ss sub id E y i rs' ss' := by
  obtain ⟨V, y, E, he, hb, hA, hz, hk⟩ := h
  by_cases h0 : E = 0
  · obtain ⟨-, ts, p, q, x, c, ns, h1, h2, h3, h4, h5⟩ := hk h0
    have hp : p < ts.length := by rw [← h3.1, hv.subs.len]; exact h1.isn
    have hsp := h3.2 p (by rw [hv.subs.len]; exact h1.isn)
    have hq : q < (sbAt ts p).fs.length := by rw [← hsp.2.2.2.2.1, (hv.subs.faces p h1.isn).2.2.len]; exact h1.jn
    exact ⟨vid, V, rs, _, y, E, he, hb, h5.nv, hA, fun h => absurd h0 h, fun _ => ⟨rfl, rfl, ts, p, q, x, c, ns, h1, hp, hq, h3, h4, rfl⟩⟩
  · obtain ⟨rfl, rfl⟩ := hz h0
    exact ⟨0, _, [], [], 0, E, he, hb, NV.zero _, hA, fun _ => ⟨rfl, rfl, rfl⟩, fun h => absurd h h0⟩
theorem MoreKey.one {vid : Int} {rn : Nat} {rs : List Rg} {sn : Nat} {ss : List Sb} {sub id : Int} {E y i E' y' j : Int} {rs1 rs2 : List Rg} {ss1 ss2 : List Sb} (h : MoreKey vid rn rs sn ss sub id E y i rs1 ss1) (g : MoreKey vid rn rs sn ss sub id E' y' j rs2 ss2) : E = E' ∧ y = y' ∧ i = j ∧ rs1 = rs2 ∧ sameSs ss1 ss2 := by
  obtain ⟨rfl, rfl⟩ := h.1.one g.1
  refine ⟨rfl, rfl, ?_⟩
  by_cases h0 : E = 0
  · obtain ⟨a1, a2, ts, p, q, x, c, ns, a3, a4, a5, a6, a7, rfl⟩ := h.2.2 h0
    obtain ⟨b1, b2, us, p', q', x', c', ns', b3, b4, b5, b6, b7, rfl⟩ := g.2.2 h0
    obtain ⟨rfl, rfl⟩ := a3.one b3
    have hs := a6.symm.trans b6
    have hp := hs.2 p a4
    have hq := hp.2.2.2.2.2 q a5
    rw [← hq.2.2] at b7
    obtain rfl := a7.one b7
    exact ⟨a1.trans b1.symm, a2.trans b2.symm, hs.setF a4 hp.2.2.2.1 (hp.2.2.2.2.setA a5)⟩
  · obtain ⟨a1, a2, a3⟩ := h.2.1 h0
    obtain ⟨b1, b2, b3⟩ := g.2.1 h0
    exact ⟨a1.trans b1.symm, a2.trans b2.symm, by rw [a3, b3]; exact sameSs.refl _⟩
def UnfaceKey (vid : Int) (rs : List Rg) (sn : Nat) (ss : List Sb) (sub id E i : Int) (rs' : List Rg) (ss' : List Sb) : Prop := (E ≠ 0 → i = 0 ∧ rs' = [] ∧ ss' = []) ∧ (E = 0 → i = vid ∧ rs' = rs ∧ ∃ ts p q x n c, FaceAt sn ss sub id p q ∧ p < ts.length ∧ q < (sbAt ts p).fs.length ∧ sameSs ss ts ∧ n = ((sbAt ts p).fs.take q ++ (sbAt ts p).fs.drop (q + 1)).length ∧ ss' = ts.set p (withF (sbAt ts p) x n c ((sbAt ts p).fs.take q ++ (sbAt ts p).fs.drop (q + 1))))
theorem unface_nv {vid : Int} {rn : Nat} {rs : List Rg} {sn : Nat} {ss : List Sb} {sub id E : Int} {w0 w w' : World} {e : Ending} {rx sx : Option Addr} {rc sc : Nat} (hv : Vp w0 rx rn rc rs sx sn sc ss) (h : VPost E (UnfaceR vid rs sn ss sub id) w e w') :
    ∃ i V rs' ss', e = .returned (.tuple #[V, .int .i64 E]) ∧ Below w.heap.size w w' ∧ NV w' i V rs' ss' ∧ UnfaceKey vid rs sn ss sub id E i rs' ss' := by
  obtain ⟨V, he, hb, hz, hk⟩ := h
  by_cases h0 : E = 0
  · obtain ⟨ts, p, q, x, n, c, h1, h3, h4, h5⟩ := hk h0
    have hp : p < ts.length := by rw [← h3.1, hv.subs.len]; exact h1.isn
    have hsp := h3.2 p (by rw [hv.subs.len]; exact h1.isn)
    have hq : q < (sbAt ts p).fs.length := by rw [← hsp.2.2.2.2.1, (hv.subs.faces p h1.isn).2.2.len]; exact h1.jn
    exact ⟨vid, V, rs, _, he, hb, h5, fun h => absurd h0 h, fun _ => ⟨rfl, rfl, ts, p, q, x, n, c, h1, hp, hq, h3, h4, rfl⟩⟩
  · obtain rfl := hz h0
    exact ⟨0, _, [], [], he, hb, NV.zero _, fun _ => ⟨rfl, rfl, rfl⟩, fun h => absurd h h0⟩
theorem UnfaceKey.one {vid : Int} {rs : List Rg} {sn : Nat} {ss : List Sb} {sub id E i j : Int} {rs1 rs2 : List Rg} {ss1 ss2 : List Sb} (h : UnfaceKey vid rs sn ss sub id E i rs1 ss1) (g : UnfaceKey vid rs sn ss sub id E j rs2 ss2) : i = j ∧ rs1 = rs2 ∧ sameSs ss1 ss2 := by
  by_cases h0 : E = 0
  · obtain ⟨a1, a2, ts, p, q, x, n, c, a3, a4, a5, a6, a7, rfl⟩ := h.2 h0
    obtain ⟨b1, b2, us, p', q', x', n', c', b3, b4, b5, b6, b7, rfl⟩ := g.2 h0
    obtain ⟨rfl, rfl⟩ := a3.one b3
    have hs := a6.symm.trans b6
    have hg := (hs.2 p a4).2.2.2.2.del a5
    exact ⟨a1.trans b1.symm, a2.trans b2.symm, hs.setF a4 (by rw [a7, b7, hg.1]) hg⟩
  · obtain ⟨a1, a2, a3⟩ := h.1 h0
    obtain ⟨b1, b2, b3⟩ := g.1 h0
    exact ⟨a1.trans b1.symm, a2.trans b2.symm, by rw [a3, b3]; exact sameSs.refl _⟩

end Go.Proofs.Ytpdhipjeobchfaa
/- What has of the laws comes to: how often an address is among those of a network's faces. -/
namespace Go.Proofs.Ytpdhipjeobchfaa
open Go.RowKit Go.Shelf

def allAd (ss : List Sb) : List Int := ss.flatMap fun s => allNs s.fs
theorem allAd_snoc (ss : List Sb) (k : Nat) (hk : k < ss.length) : allAd (ss.take (k + 1)) = allAd (ss.take k) ++ allNs (sbAt ss k).fs := by
  rw [take_one (sbAt_some hk)]
  simp [allAd]

set_option maxRecDepth 100000 in
set_option maxHeartbeats 3200000 in
theorem has_any (vid : Int) (rx : Option Addr) (rn rc : Nat) (sx : Option Addr) (sn sc : Nat) (ss : List Sb) (a : Int) (w : World) (hp : SS w sx sn ss) (hsn : sn ≤ 64) (hm : ∀ i, i < sn → (sbAt ss i).n ≤ 64) (hm2 : ∀ i, i < sn → ∀ j, j < (sbAt ss i).n → (fcAt (sbAt ss i).fs j).n ≤ 64) :
    Calls Try.prog 5 #[.agg #[.int .i64 vid, .slice rx rn rc, .slice sx sn sc], .int .i64 a] w fun e w' => e = .returned (.int .i64 ((allAd ss).count a : Nat)) ∧ Below w.heap.size w w' := by
  have hsl : Hid (ss.length = sn) := hp.len
  go_enter Try.func5, Try.ntmps5
  go_upto_region 1 with fail
  obtain ⟨w0, hw0⟩ : ∃ w0, w0 = w.alloc (vpB vid (.slice rx rn rc) (.slice sx sn sc)) := ⟨_, rfl⟩
  rw [← hw0]
  have hB0 : Below w.heap.size w w0 := by rw [hw0]; exact bl1 w _
  have hb0 : w0.heap[w.heap.size]? = some (vpB vid (.slice rx rn rc) (.slice sx sn sc)) := by rw [hw0]; exact heap_new _ rfl
  clear hw0
  have b2 : w0.cell? ⟨w.heap.size, 2, none⟩ = some (.slice sx sn sc) := (box_cells hb0).1 2
  have hp0 := hp.later hB0
  go_wp2
  go_loopw [5, 6] (fun d i wr => ∃ (k t : Nat), d = .int .i64 t ∧ i = .int .i64 k ∧ k ≤ sn ∧ t ≤ 5000 * k ∧ wr = w0 ∧ Hid (t = (allAd (ss.take k)).count a)) (fun _ i _ => sn - (intOf i).toNat)
  case atStart => exact ⟨0, 0, rfl, rfl, by omega, by omega, rfl, by unfold Hid; simp [allAd]⟩
  case round =>
    obtain ⟨k, t, rfl, rfl, hkn, htk, rfl, ht⟩ := hrel
    by_cases hlt : k < sn
    · obtain ⟨b, o, rfl, c0, c1, c2, c3⟩ := hp0.cells k hlt
      have hF := (hp0.faces k hlt).2.2
      have hlth : Hid (k < sn) := hlt
      have hmk := hm k hlt
      have hmk2 := hm2 k hlt
      have hk0 : (0 : Int) ≤ k := by omega
      have hkn2 : (k : Int) < sn := by omega
      clear hlt c0 c1 c2
      go_wp2
      go_loopw [5, 7] (fun d i wq => ∃ (j t' : Nat), d = .int .i64 t' ∧ i = .int .i64 j ∧ j ≤ (sbAt ss k).n ∧ t' ≤ 5000 * k + 70 * j ∧ wq = wr ∧ Hid (t' = t + (allNs ((sbAt ss k).fs.take j)).count a)) (fun _ i _ => (sbAt ss k).n - (intOf i).toNat)
      case atStart => exact ⟨0, t, rfl, rfl, by omega, by omega, by trivial, by unfold Hid; simp [allNs]⟩
      case round =>
        obtain ⟨j, t', rfl, rfl, hjn, htj, rfl, ht'⟩ := hrel
        by_cases hltj : j < (sbAt ss k).n
        · obtain ⟨b2', o2, hx2, q0, q1⟩ := hF.cells j hltj
          obtain ⟨hac, ham, hAS⟩ := hF.addrs j hltj
          have c3' : wr.cell? ⟨b, o + k * 4 + 3, none⟩ = some (.slice (some ⟨b2', o2, none⟩) (sbAt ss k).n (sbAt ss k).c) := by rw [← hx2]; exact c3
          have hc3 : Hid (wr.cell? ⟨b, o + k * 4 + 3, none⟩ = some (.slice (sbAt ss k).x (sbAt ss k).n (sbAt ss k).c)) := c3
          have hltjh : Hid (j < (sbAt ss k).n) := hltj
          have hmj := hmk2 j hltj
          have hj0 : (0 : Int) ≤ j := by omega
          have hjn2 : (j : Int) < (sbAt ss k).n := by omega
          clear hltj hx2 c3 q0
          go_wp2
          go_loopw [5, 8] (fun d i wq => ∃ (m t2 : Nat), d = .int .i64 t2 ∧ i = .int .i64 m ∧ m ≤ (fcAt (sbAt ss k).fs j).n ∧ t2 ≤ 5000 * k + 70 * j + m ∧ wq = wr ∧ Hid (t2 = t' + ((fcAt (sbAt ss k).fs j).ns.take m).count a)) (fun _ i _ => (fcAt (sbAt ss k).fs j).n - (intOf i).toNat)
          case atStart => exact ⟨0, t', rfl, rfl, by omega, by omega, by trivial, by unfold Hid; simp⟩
          case round =>
            obtain ⟨m, t2, rfl, rfl, hmn, htm, rfl, ht2⟩ := hrel
            by_cases hltm : m < (fcAt (sbAt ss k).fs j).n
            · obtain ⟨b3, o3, hx3, r0⟩ := hAS.cells m hltm
              have q1' : wr.cell? ⟨b2', o2 + j * 2 + 1, none⟩ = some (.slice (some ⟨b3, o3, none⟩) (fcAt (sbAt ss k).fs j).n (fcAt (sbAt ss k).fs j).c) := by rw [← hx3]; exact q1
              have hq1 : Hid (wr.cell? ⟨b2', o2 + j * 2 + 1, none⟩ = some (.slice (fcAt (sbAt ss k).fs j).x (fcAt (sbAt ss k).fs j).n (fcAt (sbAt ss k).fs j).c)) := q1
              have hltmh : Hid (m < (fcAt (sbAt ss k).fs j).n) := hltm
              have hm0 : (0 : Int) ≤ m := by omega
              have hmn2 : (m : Int) < (fcAt (sbAt ss k).fs j).n := by omega
              have hnext : Hid (((fcAt (sbAt ss k).fs j).ns.take (m + 1)).count a = ((fcAt (sbAt ss k).fs j).ns.take m).count a + if inAt (fcAt (sbAt ss k).fs j).ns m = a then 1 else 0) := by
                unfold Hid
                rw [take_one (inAt_some (by rw [hAS.len]; exact hltm)), List.count_append, List.count_singleton]
                simp
              clear q1 hltm hx3
              by_cases he : inAt (fcAt (sbAt ss k).fs j).ns m = a
              · go_wp2
                go_roundw
                case rel => exact ⟨m + 1, t2 + 1, by go_num, by go_num, hltmh.out, by omega, by trivial, by unfold Hid; rw [hnext.out, if_pos he, ht2.out]; omega⟩
                case measure => have := hltmh.out; simp [intOf]; omega
              · have he2 : (inAt (fcAt (sbAt ss k).fs j).ns m == a) = false := by simp [he]
                go_wp2
                go_roundw
                case rel => exact ⟨m + 1, t2, by trivial, by go_num, hltmh.out, by omega, by trivial, by unfold Hid; rw [hnext.out, if_neg he, ht2.out]; omega⟩
                case measure => have := hltmh.out; simp [intOf]; omega
            · have hnm : ¬ (m : Int) < (fcAt (sbAt ss k).fs j).n := by omega
              have hend : Hid (t2 = t + (allNs ((sbAt ss k).fs.take (j + 1))).count a) := by
                have e3 : (fcAt (sbAt ss k).fs j).ns.take m = (fcAt (sbAt ss k).fs j).ns := List.take_of_length_le (by rw [hAS.len]; omega)
                unfold Hid
                rw [ht2.out, ht'.out, allNs_snoc _ _ (by rw [hF.len]; exact hltjh.out), List.count_append, e3]
                omega
              go_wp2
              go_roundw
              case rel => exact ⟨j + 1, t2, by trivial, by go_num, hltjh.out, by omega, by trivial, hend⟩
              case measure => have := hltjh.out; simp [intOf]; omega
        · have hnj : ¬ (j : Int) < (sbAt ss k).n := by omega
          have hend : Hid (t' = (allAd (ss.take (k + 1))).count a) := by
            have e3 : (sbAt ss k).fs.take j = (sbAt ss k).fs := List.take_of_length_le (by rw [hF.len]; omega)
            unfold Hid
            rw [ht'.out, ht.out, allAd_snoc _ _ (by rw [hsl.out]; exact hlth.out), List.count_append, e3]
          go_wp2
          go_roundw
          case rel => exact ⟨k + 1, t', by trivial, by go_num, hlth.out, by omega, by trivial, hend⟩
          case measure => have := hlth.out; simp [intOf]; omega
    · have hnk : ¬ (k : Int) < sn := by omega
      have hend : Hid (t = (allAd ss).count a) := by
        unfold Hid
        rw [ht.out, List.take_of_length_le (by rw [hsl.out]; omega)]
      go_wp2
      go_ret
      exact ⟨by rw [← hend.out]; rfl, hB0⟩
end Go.Proofs.Ytpdhipjeobchfaa
/- Mathematics of VpcApart: what an address that is given does to a right network. -/
namespace Go.Proofs.Ytpdhipjeobchfaa
open Go.RowKit Go.Shelf

/-- The slices of a network are as long as they say. -/
structure Lens (sn : Nat) (ss : List Sb) : Prop where
  subs : ss.length = sn
  fcs : ∀ i, i < sn → (sbAt ss i).fs.length = (sbAt ss i).n
  ads : ∀ i, i < sn → ∀ j, j < (sbAt ss i).n → (fcAt (sbAt ss i).fs j).ns.length = (fcAt (sbAt ss i).fs j).n
theorem Vp.lens {w : World} {rx sx : Option Addr} {rn rc sn sc : Nat} {rs : List Rg} {ss : List Sb} (h : Vp w rx rn rc rs sx sn sc ss) : Lens sn ss :=
  ⟨h.subs.len, fun i hi => (h.subs.faces i hi).2.2.len, fun i hi j hj => ((h.subs.faces i hi).2.2.addrs j hj).2.2.len⟩
theorem chkV_at {vid : Int} {rn : Nat} {rs : List Rg} {sn : Nat} {ss : List Sb} (h : chkV vid rn rs sn ss = 0) (i : Nat) (hi : i < sn) : subB rn rs (sbAt ss i).id (sbAt ss i).a (sbAt ss i).l = true ∧ (∀ j, j < i → smB ss (sbAt ss i).a (sbAt ss i).l j = false) ∧ fcsB (sbAt ss i).a (sbAt ss i).l (sbAt ss i).n (sbAt ss i).fs = true := by
  obtain ⟨-, -, hs⟩ := chkV_right h
  unfold sbsB at hs
  rw [Bool.and_eq_true, List.all_eq_true] at hs
  have h1 := hs.1 i (by simpa using hi)
  unfold sbsAt at h1
  simp only [Bool.and_eq_true, Bool.not_eq_true'] at h1
  exact ⟨h1.1.1, anyAt_no.1 h1.1.2, h1.2⟩
theorem fcsB_parts {a l : Int} {n : Nat} {fs : List Fc} (h : fcsB a l n fs = true) : (∀ i, i < n → fcsAt a l fs i = true) ∧ riseFB fs = true ∧ (allNs fs).Nodup := by
  unfold fcsB dupB at h
  simp only [Bool.and_eq_true, List.all_eq_true, Bool.not_not, decide_eq_true_eq] at h
  exact ⟨fun i hi => h.1.1 i (List.mem_range.2 hi), h.1.2, h.2⟩
theorem fcsB_of {a l : Int} {n : Nat} {fs : List Fc} (h1 : ∀ i, i < n → fcsAt a l fs i = true) (h2 : riseFB fs = true) (h3 : (allNs fs).Nodup) : fcsB a l n fs = true := by
  unfold fcsB dupB
  simp only [Bool.and_eq_true, List.all_eq_true, Bool.not_not, decide_eq_true_eq]
  exact ⟨⟨fun i hi => h1 i (List.mem_range.1 hi), h2⟩, h3⟩
theorem fcsAt_us {a l : Int} {fs : List Fc} {j : Nat} (h : fcsAt a l fs j = true) : ∀ m, m < (fcAt fs j).n → usB a l (inAt (fcAt fs j).ns m) = true := fun m hm => by
  unfold fcsAt adB at h
  simp only [Bool.and_eq_true, Bool.not_eq_true'] at h
  have := anyAt_no.1 h.2.2 m hm
  simpa using this
theorem mem_allNs {fs : List Fc} {y : Int} (h : y ∈ allNs fs) : ∃ j, j < fs.length ∧ y ∈ (fcAt fs j).ns := by
  unfold allNs at h
  obtain ⟨f, hf, hy⟩ := List.mem_flatMap.1 h
  obtain ⟨j, hj, rfl⟩ := List.getElem_of_mem hf
  refine ⟨j, hj, ?_⟩
  have e : fcAt fs j = fs[j] := by unfold fcAt; rw [List.getD_eq_getElem?_getD, List.getElem?_eq_getElem hj]; rfl
  rw [e]
  exact hy
theorem mem_ns {ns : List Int} {y : Int} (h : y ∈ ns) : ∃ m, m < ns.length ∧ inAt ns m = y := by
  obtain ⟨m, hm, rfl⟩ := List.getElem_of_mem h
  exact ⟨m, hm, by unfold inAt; rw [List.getD_eq_getElem?_getD, List.getElem?_eq_getElem hm]; rfl⟩
/-- An address that is given was nobody's. -/
theorem nobody {vid : Int} {rn : Nat} {rs : List Rg} {sn : Nat} {ss : List Sb} {y : Int} {i : Nat} (h : chkV vid rn rs sn ss = 0) (hl : Lens sn ss) (hi : i < sn) (hL : Least (sbAt ss i) y) : y ∉ allAd ss := fun hy => by
  unfold allAd at hy
  obtain ⟨s, hs, hy⟩ := List.mem_flatMap.1 hy
  obtain ⟨q, hq, rfl⟩ := List.getElem_of_mem hs
  have e : sbAt ss q = ss[q] := by unfold sbAt; rw [List.getD_eq_getElem?_getD, List.getElem?_eq_getElem hq]; rfl
  rw [← e] at hy
  rw [hl.subs] at hq
  by_cases hqi : q = i
  · subst hqi; exact hL.free hy
  · obtain ⟨j, hj, hyj⟩ := mem_allNs hy
    rw [hl.fcs q hq] at hj
    obtain ⟨m, hm, hym⟩ := mem_ns hyj
    rw [hl.ads q hq j hj] at hm
    have hu := fcsAt_us ((fcsB_parts (chkV_at h q hq).2.2).1 j hj) m hm
    rw [hym] at hu
    have hu2 := hL.use
    unfold usB at hu hu2
    simp only [Bool.and_eq_true, decide_eq_true_eq] at hu hu2
    have hr1 := (chkV_sub h q hq).1
    have hr2 := (chkV_sub h i hi).1
    have hm1 := mts_of hr1 hr2 (by omega) (by omega)
    rcases Nat.lt_or_gt_of_ne hqi with hlt | hlt
    · have := (chkV_at h i hi).2.1 q hlt
      unfold smB at this
      rw [hm1] at this
      cases this
    · have := (chkV_at h q hq).2.1 i hlt
      unfold smB at this
      rw [mts_comm, hm1] at this
      cases this
theorem set_split {ts : List Sb} {i : Nat} {s : Sb} (hi : i < ts.length) : ts.set i s = ts.take i ++ s :: ts.drop (i + 1) ∧ ts = ts.take i ++ sbAt ts i :: ts.drop (i + 1) := by
  refine ⟨List.set_eq_take_append_cons_drop.trans (if_pos hi), ?_⟩
  have e : sbAt ts i = ts[i] := by unfold sbAt; rw [List.getD_eq_getElem?_getD, List.getElem?_eq_getElem hi]; rfl
  rw [e, List.getElem_cons_drop, List.take_append_drop]
theorem count_set {ts : List Sb} {i : Nat} {s : Sb} {a : Int} (hi : i < ts.length) : (allAd (ts.set i s)).count a + (allNs (sbAt ts i).fs).count a = (allAd ts).count a + (allNs s.fs).count a := by
  obtain ⟨h1, h2⟩ := set_split (s := s) hi
  have e1 : (allAd (ts.set i s)).count a = (allAd (ts.take i)).count a + ((allNs s.fs).count a + (allAd (ts.drop (i + 1))).count a) := by rw [h1]; simp [allAd, List.count_append]
  have e2 : (allAd ts).count a = (allAd (ts.take i)).count a + ((allNs (sbAt ts i).fs).count a + (allAd (ts.drop (i + 1))).count a) := by
    conv => lhs; rw [h2]
    simp [allAd, List.count_append]
  omega
theorem sameFs.nss {fs gs : List Fc} (h : sameFs fs gs) : allNs fs = allNs gs := by
  have e : fs.map Fc.ns = gs.map Fc.ns := by
    refine List.ext_getElem (by simp [h.1]) (fun i h1 h2 => ?_)
    have hi : i < fs.length := by simpa using h1
    have hg : i < gs.length := by simpa using h2
    have h3 := (h.2 i hi).2.2
    unfold fcAt at h3
    rw [List.getD_eq_getElem?_getD, List.getElem?_eq_getElem hi, List.getD_eq_getElem?_getD, List.getElem?_eq_getElem hg] at h3
    simpa using h3
  unfold allNs
  rw [List.flatMap_def, List.flatMap_def, e]
theorem sameSs.ads {ss ts : List Sb} (h : sameSs ss ts) : allAd ss = allAd ts := by
  have e : ss.map (fun s => allNs s.fs) = ts.map (fun s => allNs s.fs) := by
    refine List.ext_getElem (by simp [h.1]) (fun i h1 h2 => ?_)
    have hi : i < ss.length := by simpa using h1
    have hg : i < ts.length := by simpa using h2
    have h3 := (h.2 i hi).2.2.2.2.nss
    unfold sbAt at h3
    rw [List.getD_eq_getElem?_getD, List.getElem?_eq_getElem hi, List.getD_eq_getElem?_getD, List.getElem?_eq_getElem hg] at h3
    simpa using h3
  unfold allAd
  rw [List.flatMap_def, List.flatMap_def, e]
theorem perm_ins {fs : List Fc} {e : Fc} {y : Int} {p : Nat} (he : e.ns = [y]) : (allNs (fs.take p ++ [e] ++ fs.drop p)).Perm (y :: allNs fs) := by
  have e1 : allNs (fs.take p ++ [e] ++ fs.drop p) = allNs (fs.take p) ++ y :: allNs (fs.drop p) := by simp [allNs, he]
  have e2 : allNs fs = allNs (fs.take p) ++ allNs (fs.drop p) := by
    have h : allNs (fs.take p ++ fs.drop p) = allNs (fs.take p) ++ allNs (fs.drop p) := by simp only [allNs, List.flatMap_append]
    rw [List.take_append_drop] at h
    exact h
  rw [e1, e2]
  exact List.perm_middle
theorem perm_setA {fs : List Fc} {q : Nat} {x : Option Addr} {n c : Nat} {y : Int} {ns : List Int} (hq : q < fs.length) (h : PutIn y (fcAt fs q).ns ns) : (allNs (fs.set q (withA (fcAt fs q) x n c ns))).Perm (y :: allNs fs) := by
  obtain ⟨p, -, -, -, rfl⟩ := h
  have hs : fs.set q (withA (fcAt fs q) x n c ((fcAt fs q).ns.take p ++ [y] ++ (fcAt fs q).ns.drop p)) = fs.take q ++ withA (fcAt fs q) x n c ((fcAt fs q).ns.take p ++ [y] ++ (fcAt fs q).ns.drop p) :: fs.drop (q + 1) := List.set_eq_take_append_cons_drop.trans (if_pos hq)
  have h2 : fs = fs.take q ++ fcAt fs q :: fs.drop (q + 1) := by
    have e : fcAt fs q = fs[q] := by unfold fcAt; rw [List.getD_eq_getElem?_getD, List.getElem?_eq_getElem hq]; rfl
    rw [e, List.getElem_cons_drop, List.take_append_drop]
  have e1 : allNs (fs.set q (withA (fcAt fs q) x n c ((fcAt fs q).ns.take p ++ [y] ++ (fcAt fs q).ns.drop p))) = (allNs (fs.take q) ++ (fcAt fs q).ns.take p) ++ y :: ((fcAt fs q).ns.drop p ++ allNs (fs.drop (q + 1))) := by
    rw [hs]
    simp [allNs, withA]
  have e2 : allNs fs = (allNs (fs.take q) ++ (fcAt fs q).ns.take p) ++ ((fcAt fs q).ns.drop p ++ allNs (fs.drop (q + 1))) := by
    conv => lhs; rw [h2]
    have e4 : allNs (fs.take q ++ fcAt fs q :: fs.drop (q + 1)) = allNs (fs.take q) ++ ((fcAt fs q).ns ++ allNs (fs.drop (q + 1))) := by simp [allNs]
    rw [e4, List.append_assoc, ← List.append_assoc (List.take p _), List.take_append_drop]
  rw [e1, e2]
  exact List.perm_middle
theorem fcsAt_same {a l : Int} {fs gs : List Fc} {i : Nat} (h : sameF (fcAt fs i) (fcAt gs i)) : fcsAt a l fs i = fcsAt a l gs i := by
  unfold fcsAt
  rw [h.1, h.2.1, h.2.2]
theorem riseF_of {fs : List Fc} (h : ∀ j, j + 1 < fs.length → (fcAt fs j).id < (fcAt fs (j + 1)).id) : riseFB fs = true := by
  refine riseF_yes (fun j hj => ?_)
  unfold riseFAt
  rcases j with _ | j
  · rfl
  · simp only [Nat.add_sub_cancel, Bool.or_eq_true, decide_eq_true_eq]
    exact .inr (h j hj)
theorem fcsB_same {a l : Int} {n : Nat} {fs gs : List Fc} (h : sameFs fs gs) (hn : fs.length = n) (hf : fcsB a l n fs = true) : fcsB a l n gs = true := by
  obtain ⟨h1, h2, h3⟩ := fcsB_parts hf
  refine fcsB_of (fun i hi => ?_) (riseF_of (fun j hj => ?_)) (by rw [← h.nss]; exact h3)
  · rw [← fcsAt_same (h.2 i (by omega))]; exact h1 i hi
  · have hl := h.1
    rw [← (h.2 j (by omega)).1, ← (h.2 (j + 1) (by omega)).1]
    exact riseF_lt h2 j (j + 1) (by omega) (by omega)
/-- The faces with the new one are right. -/
theorem fcsB_ins {a l : Int} {n : Nat} {fs gs : List Fc} {id y : Int} {fx : Option Addr} (hf : fcsB a l n fs = true) (hn : fs.length = n) (hp : PutFc ⟨id, fx, 1, 1, [y]⟩ fs gs) (hid : wth id 1 65536 = true) (hno : ∀ j, j < n → (fcAt fs j).id ≠ id) (hu : usB a l y = true) (hy : y ∉ allNs fs) : fcsB a l gs.length gs = true := by
  obtain ⟨h1, h2, h3⟩ := fcsB_parts hf
  obtain ⟨p, hp1, hp2, hp3, rfl⟩ := hp
  have hl : (fs.take p ++ [(⟨id, fx, 1, 1, [y]⟩ : Fc)] ++ fs.drop p).length = fs.length + 1 := by simp; omega
  refine fcsB_of (fun i hi => ?_) (riseF_of (fun j hj => ?_)) ?_
  · rw [hl] at hi
    have hat : ∀ f : Fc, fcAt (fs.take p ++ [(⟨id, fx, 1, 1, [y]⟩ : Fc)] ++ fs.drop p) i = f → (wth f.id 1 65536 && decide (0 < f.n) && adB a l f.n f.ns) = true → fcsAt a l (fs.take p ++ [(⟨id, fx, 1, 1, [y]⟩ : Fc)] ++ fs.drop p) i = true := fun f e h => by unfold fcsAt; rw [e]; exact h
    rw [fcAt_ins hp1] at hat
    by_cases c1 : i < p
    · exact hat (fcAt fs i) (if_pos c1) (h1 i (by omega))
    · by_cases c2 : i = p
      · refine hat ⟨id, fx, 1, 1, [y]⟩ (by rw [if_neg c1, if_pos c2]) ?_
        have hr : adB a l 1 [y] = true := by
          unfold adB
          have h5 : riseIB [y] = true := by rfl
          rw [h5, Bool.true_and, Bool.not_eq_true']
          refine anyAt_no.2 (fun m hm => ?_)
          obtain rfl : m = 0 := by omega
          simpa [inAt] using hu
        simp [hid, hr]
      · exact hat (fcAt fs (i - 1)) (by rw [if_neg c1, if_neg c2]) (h1 (i - 1) (by omega))
  · rw [hl] at hj
    rw [fcAt_ins hp1, fcAt_ins hp1]
    by_cases c1 : j + 1 < p
    · rw [if_pos (by omega), if_pos c1]
      exact riseF_lt h2 j (j + 1) (by omega) (by omega)
    · by_cases c2 : j + 1 = p
      · rw [if_pos (by omega), if_neg c1, if_pos c2]
        have h5 := hp2 j (by omega)
        have h6 := hno j (by omega)
        simp only at h5 ⊢
        omega
      · by_cases c3 : j = p
        · rw [if_neg (by omega), if_pos c3, if_neg c1, if_neg c2, Nat.add_sub_cancel, c3]
          exact hp3 (by omega)
        · rw [if_neg (by omega), if_neg c3, if_neg c1, if_neg c2, Nat.add_sub_cancel]
          exact riseF_lt h2 (j - 1) j (by omega) (by omega)
  · exact (perm_ins rfl).nodup_iff.2 (List.nodup_cons.2 ⟨hy, h3⟩)
theorem riseI_of {ns : List Int} (h : ∀ j, j + 1 < ns.length → inAt ns j < inAt ns (j + 1)) : riseIB ns = true := by
  unfold riseIB
  rw [List.all_eq_true]
  intro j hj
  have hj' := List.mem_range.1 hj
  unfold riseIAt
  rcases j with _ | j
  · rfl
  · simp only [Nat.add_sub_cancel, Bool.or_eq_true, decide_eq_true_eq]
    exact .inr (h j hj')
/-- The faces with an address more are right. -/
theorem fcsB_more {a l : Int} {n q c : Nat} {fs : List Fc} {y : Int} {x : Option Addr} {ns : List Int} (hf : fcsB a l n fs = true) (hn : fs.length = n) (hq : q < n) (hqn : (fcAt fs q).ns.length = (fcAt fs q).n) (hp : PutIn y (fcAt fs q).ns ns) (hu : usB a l y = true) (hy : y ∉ allNs fs) : fcsB a l n (fs.set q (withA (fcAt fs q) x ns.length c ns)) = true := by
  obtain ⟨h1, h2, h3⟩ := fcsB_parts hf
  have hqf : q < fs.length := by omega
  have hyq : y ∉ (fcAt fs q).ns := fun h => hy (by
    unfold allNs
    exact List.mem_flatMap.2 ⟨_, fcAt_mem hqf, h⟩)
  have hperm := perm_setA (x := x) (n := ns.length) (c := c) hqf hp
  refine fcsB_of (fun i hi => ?_) (riseF_of (fun j hj => ?_)) ?_
  · unfold fcsAt
    rw [fcAt_set hqf]
    by_cases e : q = i
    · subst e
      rw [if_pos rfl]
      have h4 := h1 q hi
      unfold fcsAt adB at h4
      simp only [Bool.and_eq_true, Bool.not_eq_true'] at h4
      obtain ⟨p, hp1, hp2, hp3, rfl⟩ := hp
      have hl : ((fcAt fs q).ns.take p ++ [y] ++ (fcAt fs q).ns.drop p).length = (fcAt fs q).ns.length + 1 := by simp; omega
      have hr : riseIB ((fcAt fs q).ns.take p ++ [y] ++ (fcAt fs q).ns.drop p) = true := riseI_of (fun j hj => by
        rw [hl] at hj
        rw [inAt_ins hp1, inAt_ins hp1]
        by_cases c1 : j + 1 < p
        · rw [if_pos (by omega), if_pos c1]
          exact riseI_lt h4.2.1 j (j + 1) (by omega) (by omega)
        · by_cases c2 : j + 1 = p
          · rw [if_pos (by omega), if_neg c1, if_pos c2]
            have h5 := hp2 j (by omega)
            have h6 : inAt (fcAt fs q).ns j ≠ y := fun e => hyq (by
              rw [← e]
              exact List.mem_of_getElem? (inAt_some (by omega)))
            omega
          · by_cases c3 : j = p
            · rw [if_neg (by omega), if_pos c3, if_neg c1, if_neg c2, Nat.add_sub_cancel, c3]
              exact hp3 (by omega)
            · rw [if_neg (by omega), if_neg c3, if_neg c1, if_neg c2, Nat.add_sub_cancel]
              exact riseI_lt h4.2.1 (j - 1) j (by omega) (by omega))
      have hus : (!anyAt ((fcAt fs q).ns.take p ++ [y] ++ (fcAt fs q).ns.drop p).length fun i => !usB a l (inAt ((fcAt fs q).ns.take p ++ [y] ++ (fcAt fs q).ns.drop p) i)) = true := by
        rw [Bool.not_eq_true']
        refine anyAt_no.2 (fun m hm => ?_)
        rw [hl] at hm
        have hold := fun k hk => anyAt_no.1 h4.2.2 k hk
        rw [inAt_ins hp1]
        by_cases c1 : m < p
        · rw [if_pos c1]; exact hold m (by omega)
        · rw [if_neg c1]
          by_cases c2 : m = p
          · rw [if_pos c2, hu]; rfl
          · rw [if_neg c2]; exact hold (m - 1) (by omega)
      show (wth (fcAt fs q).id 1 65536 && decide (0 < ((fcAt fs q).ns.take p ++ [y] ++ (fcAt fs q).ns.drop p).length) && adB a l ((fcAt fs q).ns.take p ++ [y] ++ (fcAt fs q).ns.drop p).length ((fcAt fs q).ns.take p ++ [y] ++ (fcAt fs q).ns.drop p)) = true
      unfold adB
      rw [hr, hus, h4.1.1, hl]
      simp
    · rw [if_neg e]
      exact h1 i hi
  · rw [List.length_set] at hj
    have hid : ∀ k, (fcAt (fs.set q (withA (fcAt fs q) x ns.length c ns)) k).id = (fcAt fs k).id := fun k => by
      rw [fcAt_set hqf]
      split
      · rename_i e; subst e; rfl
      · rfl
    rw [hid, hid]
    exact riseF_lt h2 j (j + 1) (by omega) (by omega)
  · exact hperm.nodup_iff.2 (List.nodup_cons.2 ⟨hy, h3⟩)
end Go.Proofs.Ytpdhipjeobchfaa
/- VpcApart: what Face, More and Unface make of a right network. -/
namespace Go.Proofs.Ytpdhipjeobchfaa
open Go.RowKit Go.Shelf

theorem chkV_turn {vid : Int} {rn : Nat} {rs : List Rg} {sn : Nat} {ss ss' : List Sb} (h : chkV vid rn rs sn ss = 0) (hl : ss.length = sn) (hl' : ss'.length = sn) (hn : ∀ k, k < sn → (sbAt ss' k).id = (sbAt ss k).id ∧ (sbAt ss' k).a = (sbAt ss k).a ∧ (sbAt ss' k).l = (sbAt ss k).l)
    (hf : ∀ k, k < sn → (sbAt ss' k).n ≤ 8 ∧ (∀ j, j < (sbAt ss' k).n → (fcAt (sbAt ss' k).fs j).n ≤ 4) ∧ fcsB (sbAt ss k).a (sbAt ss k).l (sbAt ss' k).n (sbAt ss' k).fs = true) : chkV vid rn rs sn ss' = 0 := by
  obtain ⟨g1, g2, -, -⟩ := chkV_few h
  obtain ⟨r1, r2, r3⟩ := chkV_right h
  have hm : vmanyB rn sn ss' = false := by
    unfold vmanyB
    have e : anyAt sn (fun i => smanyB (sbAt ss' i)) = false := anyAt_no.2 (fun k hk => by
      obtain ⟨h1, h2, -⟩ := hf k hk
      unfold smanyB
      have e2 : anyAt (sbAt ss' k).n (fun j => decide (4 < (fcAt (sbAt ss' k).fs j).n)) = false := anyAt_no.2 (fun j hj => by have := h2 j hj; simp; omega)
      rw [e2]
      simp
      omega)
    rw [e]
    simp
    omega
  have hs : sbsB rn rs sn ss' = true := by
    unfold sbsB
    rw [Bool.and_eq_true, List.all_eq_true]
    refine ⟨fun k hk => ?_, ?_⟩
    · have hk' := List.mem_range.1 hk
      obtain ⟨h1, h2, h3⟩ := hn k hk'
      obtain ⟨c1, c2, -⟩ := chkV_at h k hk'
      unfold sbsAt
      rw [h1, h2, h3, c1, (hf k hk').2.2]
      have e : anyAt k (smB ss' (sbAt ss k).a (sbAt ss k).l) = false := anyAt_no.2 (fun j hj => by
        have h4 := c2 j hj
        obtain ⟨-, h5, h6⟩ := hn j (by omega)
        unfold smB at h4 ⊢
        rw [h5, h6]
        exact h4)
      rw [e]
      rfl
    · unfold sbsB at r3
      rw [Bool.and_eq_true] at r3
      have r4 := r3.2
      unfold riseSB at r4 ⊢
      rw [List.all_eq_true] at r4 ⊢
      intro k hk
      have hk' := List.mem_range.1 hk
      have h5 := r4 k (List.mem_range.2 (by omega))
      unfold riseSAt at h5 ⊢
      rw [(hn k (by omega)).1, (hn (k - 1) (by omega)).1]
      exact h5
  unfold chkV
  rw [hm, r1, r2, hs]
  rfl
theorem faceE0_zero {s : Sb} {id : Int} (h : faceE0 s id = 0) : wth id 1 65536 = true ∧ (∀ j, j < s.n → (fcAt s.fs j).id ≠ id) ∧ s.n ≠ 8 := by
  unfold faceE0 at h
  by_cases c1 : wth id 1 65536 = false
  · rw [if_pos c1] at h; omega
  · rw [if_neg c1] at h
    by_cases c2 : 0 ≤ fstAt s.n (fun i => (fcAt s.fs i).id == id)
    · rw [if_pos c2] at h; omega
    · rw [if_neg c2] at h
      by_cases c3 : s.n = 8
      · rw [if_pos c3] at h; omega
      · refine ⟨by simpa using c1, fun j hj => ?_, c3⟩
        rcases fstAt_cases s.n (fun i => (fcAt s.fs i).id == id) with ⟨q, -, -, -, hq⟩ | ⟨hno, -⟩
        · rw [hq] at c2; omega
        · simpa using hno j hj
theorem cut_ins {xs : List Fc} {e : Fc} {p : Nat} (hp : p ≤ xs.length) : (xs.take p ++ [e] ++ xs.drop p).take p ++ (xs.take p ++ [e] ++ xs.drop p).drop (p + 1) = xs := by
  have hl : (xs.take p).length = p := by rw [List.length_take]; omega
  have h1 : (xs.take p ++ [e] ++ xs.drop p).take p = xs.take p := by
    rw [List.append_assoc]
    exact List.take_left' hl
  have h2 : (xs.take p ++ [e] ++ xs.drop p).drop (p + 1) = xs.drop p := List.drop_left' (by simp [hl])
  rw [h1, h2, List.take_append_drop]
/-- What a face more makes of a right network. -/
theorem FaceKey.right {vid : Int} {rn : Nat} {rs : List Rg} {sn : Nat} {ss : List Sb} {sub id y i0 : Int} {rs1 : List Rg} {ss1 : List Sb} (hv : Lens sn ss) (hK : FaceKey vid rn rs sn ss sub id 0 y i0 rs1 ss1) :
    i0 = vid ∧ rs1 = rs ∧ ss1.length = sn ∧ chkV vid rn rs sn ss = 0 ∧ (allAd ss).count y = 0 ∧ (allAd ss1).count y = 1 ∧ chkV vid rn rs sn ss1 = 0 ∧
      ∃ i p, FaceAt sn ss1 sub id i p ∧ ∀ us x n c, sameSs ss1 us → n = ((sbAt us i).fs.take p ++ (sbAt us i).fs.drop (p + 1)).length → sameSs (us.set i (withF (sbAt us i) x n c ((sbAt us i).fs.take p ++ (sbAt us i).fs.drop (p + 1)))) ss := by
  obtain ⟨hA, -, hR⟩ := hK
  obtain ⟨rfl, rfl, ts, i, x, n, c, fx, gs, hSA, hit, hss, hput, rfl, rfl⟩ := hR rfl
  have hcz : chkV i0 rn rs1 sn ss = 0 := by
    unfold FaceA at hA
    by_cases c : chkV i0 rn rs1 sn ss ≠ 0
    · rw [if_pos c] at hA; exact absurd hA.1.symm c
    · exact Classical.not_not.1 c
  have hrel : FaRel (sbAt ss i) id 0 y := by
    unfold FaceA at hA
    rw [if_neg (by simp [hcz])] at hA
    rcases hA with ⟨-, h, -⟩ | ⟨k, hk, h⟩
    · exact absurd h (by decide)
    · obtain rfl := hk.one hSA
      exact h
  obtain ⟨hE, hL⟩ := hrel.ok
  obtain ⟨hwid, hno, hn8⟩ := faceE0_zero hE
  have hi := hSA.isn
  obtain ⟨-, -, f3, f4⟩ := chkV_few hcz
  have hsi := hss.2 i (by rw [hv.subs]; exact hi)
  have hFl : (sbAt ts i).fs.length = (sbAt ss i).n := by rw [← hsi.2.2.2.2.1, hv.fcs i hi]
  have hnob := nobody hcz hv hi hL
  have htl : ts.length = sn := by rw [← hss.1, hv.subs]
  have hfts : ∀ k, k < sn → fcsB (sbAt ss k).a (sbAt ss k).l (sbAt ss k).n (sbAt ts k).fs = true := fun k hk => fcsB_same (hss.2 k (by rw [hv.subs]; exact hk)).2.2.2.2 (hv.fcs k hk) (chkV_at hcz k hk).2.2
  have hyi : y ∉ allNs (sbAt ts i).fs := by rw [← hsi.2.2.2.2.nss]; exact hL.free
  obtain ⟨p, hp1, hp2, hp3, hgs⟩ := hput
  have hgl : gs.length = (sbAt ss i).n + 1 := by rw [hgs]; simp; omega
  have hperm : (allNs gs).Perm (y :: allNs (sbAt ts i).fs) := by rw [hgs]; exact perm_ins rfl
  have hc0 : (allAd ss).count y = 0 := List.count_eq_zero.2 hnob
  have hids : ∀ j, j < (sbAt ss i).n → (fcAt (sbAt ts i).fs j).id = (fcAt (sbAt ss i).fs j).id := fun j hj => (hsi.2.2.2.2.2 j (by rw [hv.fcs i hi]; exact hj)).1.symm
  refine ⟨rfl, rfl, by rw [List.length_set]; exact htl, hcz, hc0, ?_, ?_, i, p, ?_, ?_⟩
  · have h1 := count_set (ts := ts) (i := i) (s := withF (sbAt ts i) x gs.length c gs) (a := y) hit
    have h2 : (allNs (sbAt ts i).fs).count y = 0 := List.count_eq_zero.2 hyi
    have h3 : (allAd ts).count y = 0 := by rw [← hss.ads]; exact hc0
    have h4 : (allNs (withF (sbAt ts i) x gs.length c gs).fs).count y = 1 := by
      show (allNs gs).count y = 1
      rw [hperm.count_eq, List.count_cons_self, h2]
    omega
  · refine chkV_turn hcz hv.subs (by rw [List.length_set]; exact htl) (fun k hk => ?_) (fun k hk => ?_)
    · rw [sbAt_set hit]
      have h1 := hss.2 k (by rw [hv.subs]; exact hk)
      split
      · rename_i e; subst e; exact ⟨h1.1.symm, h1.2.1.symm, h1.2.2.1.symm⟩
      · exact ⟨h1.1.symm, h1.2.1.symm, h1.2.2.1.symm⟩
    · rw [sbAt_set hit]
      have h1 := hss.2 k (by rw [hv.subs]; exact hk)
      split
      · rename_i e
        subst e
        refine ⟨by show gs.length ≤ 8; have := f3 i hk; omega, fun j hj => ?_, ?_⟩
        · show (fcAt gs j).n ≤ 4
          have hj' : j < gs.length := hj
          rw [hgs, fcAt_ins hp1]
          split
          · rw [← (hsi.2.2.2.2.2 j (by rw [hv.fcs i hk]; omega)).2.1]; exact f4 i hk j (by omega)
          · split
            · show 1 ≤ 4; omega
            · rw [← (hsi.2.2.2.2.2 (j - 1) (by rw [hv.fcs i hk]; omega)).2.1]; exact f4 i hk (j - 1) (by omega)
        · exact fcsB_ins (hfts i hk) hFl ⟨p, hp1, hp2, hp3, hgs⟩ hwid (fun j hj => by rw [hids j hj]; exact hno j hj) hL.use hyi
      · refine ⟨by rw [← h1.2.2.2.1]; exact f3 k hk, fun j hj => ?_, by rw [← h1.2.2.2.1]; exact hfts k hk⟩
        rw [← h1.2.2.2.1] at hj
        rw [← (h1.2.2.2.2.2 j (by rw [hv.fcs k hk]; exact hj)).2.1]
        exact f4 k hk j hj
  · have hat : ∀ k, (sbAt (ts.set i (withF (sbAt ts i) x gs.length c gs)) k).id = (sbAt ts k).id := fun k => by
      rw [sbAt_set hit]
      split
      · rename_i e; subst e; rfl
      · rfl
    have hid : ∀ k, k < sn → (sbAt ts k).id = (sbAt ss k).id := fun k hk => (hss.2 k (by rw [hv.subs]; exact hk)).1.symm
    have hsi' : sbAt (ts.set i (withF (sbAt ts i) x gs.length c gs)) i = withF (sbAt ts i) x gs.length c gs := by rw [sbAt_set hit, if_pos rfl]
    refine ⟨hi, by rw [hat, hid i hi]; exact hSA.sid, fun k hk => by rw [hat, hid k (by omega)]; exact hSA.sno k hk, ?_, ?_, ?_⟩
    · rw [hsi']; show p < gs.length; omega
    · rw [hsi']; show (fcAt gs p).id = id; rw [hgs, fcAt_ins hp1, if_neg (Nat.lt_irrefl _), if_pos rfl]
    · intro k hk
      rw [hsi']
      show (fcAt gs k).id ≠ id
      rw [hgs, fcAt_ins hp1, if_pos hk, hids k (by omega)]
      exact hno k (by omega)
  · intro us x' n' c' hus hn'
    have hil : i < (ts.set i (withF (sbAt ts i) x gs.length c gs)).length := by rw [List.length_set]; exact hit
    have hui := hus.2 i hil
    rw [sbAt_set hit, if_pos rfl] at hui
    have hgu : sameFs gs (sbAt us i).fs := hui.2.2.2.2
    have hpg : p < gs.length := by omega
    have hcut : sameFs (gs.take p ++ gs.drop (p + 1)) ((sbAt us i).fs.take p ++ (sbAt us i).fs.drop (p + 1)) := hgu.del hpg
    have hcg : gs.take p ++ gs.drop (p + 1) = (sbAt ts i).fs := by rw [hgs]; exact cut_ins hp1
    rw [hcg] at hcut
    have hul : i < us.length := by rw [← hus.1, List.length_set]; exact hit
    refine ⟨by rw [List.length_set, ← hus.1, List.length_set, htl, hv.subs], fun k hk => ?_⟩
    rw [List.length_set, ← hus.1, List.length_set] at hk
    have hk' : k < sn := by omega
    have h1 := hss.2 k (by rw [hv.subs]; exact hk')
    rw [sbAt_set hul]
    by_cases e : i = k
    · subst e
      rw [if_pos rfl]
      refine ⟨hui.1.symm.trans h1.1.symm, hui.2.1.symm.trans h1.2.1.symm, hui.2.2.1.symm.trans h1.2.2.1.symm, ?_, ?_⟩
      · show n' = (sbAt ss i).n
        rw [hn', ← hcut.1, hFl]
      · exact (hcut.symm.trans h1.2.2.2.2.symm)
    · rw [if_neg e]
      have h2 := hus.2 k (by rw [List.length_set]; exact hk)
      rw [sbAt_set hit, if_neg e] at h2
      exact ⟨h2.1.symm.trans h1.1.symm, h2.2.1.symm.trans h1.2.1.symm, h2.2.2.1.symm.trans h1.2.2.1.symm, h2.2.2.2.1.symm.trans h1.2.2.2.1.symm, h2.2.2.2.2.symm.trans h1.2.2.2.2.symm⟩
/-- What an address more makes of a right network. -/
theorem MoreKey.right {vid : Int} {rn : Nat} {rs : List Rg} {sn : Nat} {ss : List Sb} {sub id y i0 : Int} {rs1 : List Rg} {ss1 : List Sb} (hv : Lens sn ss) (hK : MoreKey vid rn rs sn ss sub id 0 y i0 rs1 ss1) (hcz0 : chkV vid rn rs sn ss = 0) :
    i0 = vid ∧ rs1 = rs ∧ ss1.length = sn ∧ (allAd ss).count y = 0 ∧ (allAd ss1).count y = 1 ∧ chkV vid rn rs sn ss1 = 0 := by
  obtain ⟨hA, -, hR⟩ := hK
  obtain ⟨rfl, rfl, ts, i, q, x, c, ns, hFA, hit, hqt, hss, hput, rfl⟩ := hR rfl
  have hcz := hcz0
  have hrel : MoRel (sbAt ss i) (fcAt (sbAt ss i).fs q) 0 y := by
    by_cases c : plE i0 rn rs1 sn ss sub id = 0
    · obtain ⟨k, l, h1, h2⟩ := hA.2 c
      obtain ⟨rfl, rfl⟩ := h1.one hFA
      exact h2
    · exact absurd (hA.1 c).1.symm c
  unfold MoRel at hrel
  by_cases h4 : (fcAt (sbAt ss i).fs q).n = 4
  · rw [if_pos h4] at hrel; exact absurd hrel.1 (by decide)
  rw [if_neg h4] at hrel
  have hL : Least (sbAt ss i) y := by
    rcases hrel with ⟨-, h⟩ | ⟨h, -⟩
    · exact h
    · exact absurd h (by decide)
  have hi := hFA.isn
  obtain ⟨-, -, f3, f4⟩ := chkV_few hcz
  have hsi := hss.2 i (by rw [hv.subs]; exact hi)
  have hFl : (sbAt ts i).fs.length = (sbAt ss i).n := by rw [← hsi.2.2.2.2.1, hv.fcs i hi]
  have hnob := nobody hcz hv hi hL
  have htl : ts.length = sn := by rw [← hss.1, hv.subs]
  have hfts : ∀ k, k < sn → fcsB (sbAt ss k).a (sbAt ss k).l (sbAt ss k).n (sbAt ts k).fs = true := fun k hk => fcsB_same (hss.2 k (by rw [hv.subs]; exact hk)).2.2.2.2 (hv.fcs k hk) (chkV_at hcz k hk).2.2
  have hyi : y ∉ allNs (sbAt ts i).fs := by rw [← hsi.2.2.2.2.nss]; exact hL.free
  have hqn : q < (sbAt ss i).n := hFA.jn
  have hfq := hsi.2.2.2.2.2 q (by rw [hv.fcs i hi]; exact hqn)
  have hnsl : (fcAt (sbAt ts i).fs q).ns.length = (fcAt (sbAt ts i).fs q).n := by rw [← hfq.2.2, ← hfq.2.1]; exact hv.ads i hi q hqn
  have hnl : ns.length = (fcAt (sbAt ss i).fs q).n + 1 := by
    obtain ⟨p, hp, -, -, rfl⟩ := hput
    rw [hnsl, ← hfq.2.1] at hp
    simp
    rw [hnsl, ← hfq.2.1]
    omega
  have hperm := perm_setA (x := x) (n := ns.length) (c := c) hqt hput
  have hc0 : (allAd ss).count y = 0 := List.count_eq_zero.2 hnob
  refine ⟨rfl, rfl, by rw [List.length_set]; exact htl, hc0, ?_, ?_⟩
  · have h1 := count_set (ts := ts) (i := i) (s := withF (sbAt ts i) (sbAt ts i).x (sbAt ts i).n (sbAt ts i).c ((sbAt ts i).fs.set q (withA (fcAt (sbAt ts i).fs q) x ns.length c ns))) (a := y) hit
    have h2 : (allNs (sbAt ts i).fs).count y = 0 := List.count_eq_zero.2 hyi
    have h3 : (allAd ts).count y = 0 := by rw [← hss.ads]; exact hc0
    have h5 : (allNs (withF (sbAt ts i) (sbAt ts i).x (sbAt ts i).n (sbAt ts i).c ((sbAt ts i).fs.set q (withA (fcAt (sbAt ts i).fs q) x ns.length c ns))).fs).count y = 1 := by
      show (allNs ((sbAt ts i).fs.set q (withA (fcAt (sbAt ts i).fs q) x ns.length c ns))).count y = 1
      rw [hperm.count_eq, List.count_cons_self, h2]
    omega
  · refine chkV_turn hcz hv.subs (by rw [List.length_set]; exact htl) (fun k hk => ?_) (fun k hk => ?_)
    · rw [sbAt_set hit]
      have h1 := hss.2 k (by rw [hv.subs]; exact hk)
      split
      · rename_i e; subst e; exact ⟨h1.1.symm, h1.2.1.symm, h1.2.2.1.symm⟩
      · exact ⟨h1.1.symm, h1.2.1.symm, h1.2.2.1.symm⟩
    · rw [sbAt_set hit]
      have h1 := hss.2 k (by rw [hv.subs]; exact hk)
      split
      · rename_i e
        subst e
        refine ⟨by show (sbAt ts i).n ≤ 8; rw [← h1.2.2.2.1]; exact f3 i hk, fun j hj => ?_, ?_⟩
        · show (fcAt ((sbAt ts i).fs.set q (withA (fcAt (sbAt ts i).fs q) x ns.length c ns)) j).n ≤ 4
          have hj' : j < (sbAt ss i).n := by rw [h1.2.2.2.1]; exact hj
          rw [fcAt_set hqt]
          split
          · show ns.length ≤ 4
            have := f4 i hk q hqn
            omega
          · rw [← (hsi.2.2.2.2.2 j (by rw [hv.fcs i hk]; exact hj')).2.1]; exact f4 i hk j hj'
        · show fcsB (sbAt ss i).a (sbAt ss i).l (sbAt ts i).n ((sbAt ts i).fs.set q (withA (fcAt (sbAt ts i).fs q) x ns.length c ns)) = true
          rw [← h1.2.2.2.1]
          exact fcsB_more (hfts i hk) hFl hqn hnsl hput hL.use hyi
      · refine ⟨by rw [← h1.2.2.2.1]; exact f3 k hk, fun j hj => ?_, by rw [← h1.2.2.2.1]; exact hfts k hk⟩
        rw [← h1.2.2.2.1] at hj
        rw [← (h1.2.2.2.2.2 j (by rw [hv.fcs k hk]; exact hj)).2.1]
        exact f4 k hk j hj
theorem plE_zero {vid : Int} {rn : Nat} {rs : List Rg} {sn : Nat} {ss : List Sb} {sub id : Int} {i j : Nat} (h : chkV vid rn rs sn ss = 0) (hF : FaceAt sn ss sub id i j) : plE vid rn rs sn ss sub id = 0 := by
  have e1 : fstAt sn (fun i => (sbAt ss i).id == sub) = i := fstAt_yes hF.isn (by simp [hF.sid]) (fun k hk => by simpa using hF.sno k hk)
  have e2 : fstAt (sbAt ss i).n (fun j => (fcAt (sbAt ss i).fs j).id == id) = j := fstAt_yes hF.jn (by simp [hF.fid]) (fun k hk => by simpa using hF.fno k hk)
  unfold plE
  rw [if_neg (by simp [h]), e1, if_neg (by omega), Int.toNat_natCast, e2, if_neg (by omega)]
theorem MoreA.chk {vid : Int} {rn : Nat} {rs : List Rg} {sn : Nat} {ss : List Sb} {sub id y : Int} (h : MoreA vid rn rs sn ss sub id 0 y) : chkV vid rn rs sn ss = 0 := by
  by_cases c : plE vid rn rs sn ss sub id = 0
  · unfold plE at c
    by_cases c2 : chkV vid rn rs sn ss ≠ 0
    · rw [if_pos c2] at c; exact c
    · exact Classical.not_not.1 c2
  · exact absurd (h.1 c).1.symm c
end Go.Proofs.Ytpdhipjeobchfaa
/- The law VpcApart. -/
namespace Go.Proofs.Ytpdhipjeobchfaa
open Go.RowKit Go.Shelf

/-- What has answers of a right network. -/
theorem has_right {vid : Int} {rx sx : Option Addr} {rn rc sn sc : Nat} {rs : List Rg} {ss : List Sb} {a : Int} {t : Nat} {w : World} (hp : SS w sx sn ss) (hc : chkV vid rn rs sn ss = 0) (ht : (allAd ss).count a = t) :
    Calls Try.prog 5 #[.agg #[.int .i64 vid, .slice rx rn rc, .slice sx sn sc], .int .i64 a] w fun e w' => e = .returned (.int .i64 (t : Int)) ∧ Below w.heap.size w w' := by
  obtain ⟨-, f2, f3, f4⟩ := chkV_few hc
  subst ht
  exact has_any vid rx rn rc sx sn sc ss a w hp (by omega) (fun i hi => by have := f3 i hi; omega) (fun i hi j hj => by have := f4 i hi j hj; omega)

set_option maxRecDepth 100000 in
set_option maxHeartbeats 6400000 in
theorem vpcApart_any (vid : Int) (rx : Option Addr) (rn rc : Nat) (rs : List Rg) (sx : Option Addr) (sn sc : Nat) (ss : List Sb) (sub id : Int) (w : World) (hvp : Vp w rx rn rc rs sx sn sc ss) (hrn : rn ≤ 9223372036854775807) (hsn : sn ≤ 9223372036854775807) (hrc : rc ≤ 9223372036854775807) :
    Calls Try.prog 3 #[.agg #[.int .i64 vid, .slice rx rn rc, .slice sx sn sc], .int .i64 sub, .int .i64 id] w fun e w' => e = .returned (.bool true) ∧ Below w.heap.size w w' := by
  obtain rfl := hvp.ranges.len
  obtain rfl := hvp.subs.len
  have hLen := hvp.lens
  go_enter Try.func3, Try.ntmps3
  go_upto_region 1 with fail
  obtain ⟨w0, hw⟩ : ∃ w0, w0 = w.alloc (.cells #[.int .i64 vid, .slice rx rs.length rc, .slice sx ss.length sc] 25) := ⟨_, rfl⟩
  rw [← hw]
  have hB : Below w.heap.size w w0 := by rw [hw]; exact bl1 w _
  have hv : w0.heap[w.heap.size]? = some (.cells #[.int .i64 vid, .slice rx rs.length rc, .slice sx ss.length sc] 25) := by rw [hw]; exact heap_new _ rfl
  clear hw
  have kv0 : w0.cell? ⟨w.heap.size, 0, none⟩ = some (.int .i64 vid) := (box_cells hv).1 0
  have kv1 : w0.cell? ⟨w.heap.size, 1, none⟩ = some (.slice rx rs.length rc) := (box_cells hv).1 1
  have kv2 : w0.cell? ⟨w.heap.size, 2, none⟩ = some (.slice sx ss.length sc) := (box_cells hv).1 2
  go_wp2_with fail
  refine (vface_any vid rx rs.length rc rs sx ss.length sc ss sub id w0 (hvp.later hB) hrn hsn hrc).mono ?_
  intro e w1 hpost
  obtain ⟨i1, V1, rs1, ss1, a1, e1, rfl, hbw1, hN1, hK1⟩ := face_nv hvp.subs.len hpost
  obtain ⟨x1, c1, y1, d1, hV1, hP1, hc1, hd1⟩ := hN1
  subst hV1
  clear kv0 kv1 kv2
  replace hv := heap_later hbw1 hv
  replace hB := hB.trans (hbw1.mono hB.size)
  go_upto_region 2 with fail
  obtain ⟨w2, hw⟩ : ∃ w2, w2 = (w1.alloc (.cells #[.int .i64 i1, .slice x1 rs1.length c1, .slice y1 ss1.length d1] 25)) := ⟨_, rfl⟩
  rw [← hw]
  have hbn : Below w1.heap.size w1 w2 := by rw [hw]; exact bl1 w1 _ 
  have ha : w2.heap[w1.heap.size]? = some (.cells #[.int .i64 i1, .slice x1 rs1.length c1, .slice y1 ss1.length d1] 25) := by rw [hw]; exact heap_new _ rfl
  clear hw
  replace hv := heap_later hbn hv
  replace hP1 := hP1.later hbn
  replace hB := hB.trans (hbn.mono hB.size)
  clear hbn
  go_cut [41] (fun s wc => s = .bool false ∧ Below w2.heap.size w2 wc)
  case first =>
    by_cases h0 : e1 = 0
    · subst h0
      obtain ⟨g1, g2, hl1, hcz, hz0, hz1, hck1', -⟩ := hK1.right hLen
      have hck1 : chkV vid rs.length rs ss1.length ss1 = 0 := by rw [hl1]; exact hck1'
      clear hck1' hl1
      subst g1
      subst g2
      have kv0 : w2.cell? ⟨w.heap.size, 0, none⟩ = some (.int .i64 i1) := (box_cells hv).1 0
      have kv1 : w2.cell? ⟨w.heap.size, 1, none⟩ = some (.slice rx rs1.length rc) := (box_cells hv).1 1
      have kv2 : w2.cell? ⟨w.heap.size, 2, none⟩ = some (.slice sx ss.length sc) := (box_cells hv).1 2
      have ka0 : w2.cell? ⟨w1.heap.size, 0, none⟩ = some (.int .i64 i1) := (box_cells ha).1 0
      have ka1 : w2.cell? ⟨w1.heap.size, 1, none⟩ = some (.slice x1 rs1.length c1) := (box_cells ha).1 1
      have ka2 : w2.cell? ⟨w1.heap.size, 2, none⟩ = some (.slice y1 ss1.length d1) := (box_cells ha).1 2
      have hq1 := has_right (vid := i1) (rx := rx) (rc := rc) (sc := sc) (t := 0) (hvp.later hB).subs hcz hz0
      rw [show ((0 : Nat) : Int) = 0 from rfl] at hq1
      go_wp2_with fail
      refine hq1.mono ?_
      rintro e wA ⟨rfl, hbA⟩
      clear kv0 kv1 kv2 ka0 ka1 ka2 hq1
      have hvA := heap_later hbA hv
      have hnA := heap_later hbA ha
      have ka0 : wA.cell? ⟨w1.heap.size, 0, none⟩ = some (.int .i64 i1) := (box_cells hnA).1 0
      have ka1 : wA.cell? ⟨w1.heap.size, 1, none⟩ = some (.slice x1 rs1.length c1) := (box_cells hnA).1 1
      have ka2 : wA.cell? ⟨w1.heap.size, 2, none⟩ = some (.slice y1 ss1.length d1) := (box_cells hnA).1 2
      have hq2 := has_right (vid := i1) (rx := x1) (rc := c1) (sc := d1) (t := 1) (hP1.later hbA).subs hck1 hz1
      rw [show ((1 : Nat) : Int) = 1 from rfl] at hq2
      go_wp2_with fail
      refine hq2.mono ?_
      rintro e wC ⟨rfl, hbC⟩
      clear ka0 ka1 ka2 hq2
      have hnC := heap_later hbC hnA
      have hbAC := hbA.trans (hbC.mono hbA.size)
      have ka0 : wC.cell? ⟨w1.heap.size, 0, none⟩ = some (.int .i64 i1) := (box_cells hnC).1 0
      have ka1 : wC.cell? ⟨w1.heap.size, 1, none⟩ = some (.slice x1 rs1.length c1) := (box_cells hnC).1 1
      have ka2 : wC.cell? ⟨w1.heap.size, 2, none⟩ = some (.slice y1 ss1.length d1) := (box_cells hnC).1 2
      have hq3 := checkV_any i1 x1 rs1.length c1 rs1 y1 ss1.length d1 ss1 wC (hP1.later hbAC) (Nat.le_trans hP1.1 hc1) (Nat.le_trans hP1.2 hd1) hc1
      rw [hck1] at hq3
      go_wp2_with fail
      refine hq3.mono ?_
      rintro e wD ⟨rfl, hbD⟩
      go_wp2
      go_meet
      case rel => exact ⟨rfl, hbAC.trans (hbD.mono hbAC.size)⟩
    · go_wp2
      go_meet
      case rel => exact ⟨rfl, Below.refl _ _⟩
  case rest =>
  obtain ⟨rfl, hbcut⟩ := hcut
  obtain ⟨w3, rfl⟩ : ∃ w3, w3 = wc := ⟨_, rfl⟩
  replace hv := heap_later hbcut hv
  replace ha := heap_later hbcut ha
  replace hP1 := hP1.later hbcut
  replace hB := hB.trans (hbcut.mono hB.size)
  clear hbcut
  have kv0 : w3.cell? ⟨w.heap.size, 0, none⟩ = some (.int .i64 vid) := (box_cells hv).1 0
  have kv1 : w3.cell? ⟨w.heap.size, 1, none⟩ = some (.slice rx rs.length rc) := (box_cells hv).1 1
  have kv2 : w3.cell? ⟨w.heap.size, 2, none⟩ = some (.slice sx ss.length sc) := (box_cells hv).1 2
  go_wp2_with fail
  refine (vmore_any vid rx rs.length rc rs sx ss.length sc ss sub id w3 (hvp.later hB) hrn hsn hrc).mono ?_
  intro e w4 hpost
  obtain ⟨i2, V2, rs2, ss2, a2, e2, rfl, hbw4, hN2, hK2⟩ := more_nv hvp hpost
  obtain ⟨x2, c2, y2, d2, hV2, hP2, hc2, hd2⟩ := hN2
  subst hV2
  clear kv0 kv1 kv2
  replace hv := heap_later hbw4 hv
  replace ha := heap_later hbw4 ha
  replace hP1 := hP1.later hbw4
  replace hB := hB.trans (hbw4.mono hB.size)
  go_upto_region 5 with fail
  obtain ⟨w5, hw⟩ : ∃ w5, w5 = (w4.alloc (.cells #[.int .i64 i2, .slice x2 rs2.length c2, .slice y2 ss2.length d2] 25)) := ⟨_, rfl⟩
  rw [← hw]
  have hbn : Below w4.heap.size w4 w5 := by rw [hw]; exact bl1 w4 _ 
  have hb : w5.heap[w4.heap.size]? = some (.cells #[.int .i64 i2, .slice x2 rs2.length c2, .slice y2 ss2.length d2] 25) := by rw [hw]; exact heap_new _ rfl
  clear hw
  replace hv := heap_later hbn hv
  replace ha := heap_later hbn ha
  replace hP1 := hP1.later hbn
  replace hP2 := hP2.later hbn
  replace hB := hB.trans (hbn.mono hB.size)
  clear hbn
  go_cut [68] (fun s wc => s = .bool false ∧ Below w5.heap.size w5 wc)
  case first =>
    by_cases h0 : e2 = 0
    · subst h0
      obtain ⟨g1, g2, hl1, hz0, hz1, hck1'⟩ := hK2.right hLen hK2.1.chk
      have hcz := hK2.1.chk
      have hck1 : chkV vid rs.length rs ss2.length ss2 = 0 := by rw [hl1]; exact hck1'
      clear hck1' hl1
      subst g1
      subst g2
      have kv0 : w5.cell? ⟨w.heap.size, 0, none⟩ = some (.int .i64 i2) := (box_cells hv).1 0
      have kv1 : w5.cell? ⟨w.heap.size, 1, none⟩ = some (.slice rx rs2.length rc) := (box_cells hv).1 1
      have kv2 : w5.cell? ⟨w.heap.size, 2, none⟩ = some (.slice sx ss.length sc) := (box_cells hv).1 2
      have kb0 : w5.cell? ⟨w4.heap.size, 0, none⟩ = some (.int .i64 i2) := (box_cells hb).1 0
      have kb1 : w5.cell? ⟨w4.heap.size, 1, none⟩ = some (.slice x2 rs2.length c2) := (box_cells hb).1 1
      have kb2 : w5.cell? ⟨w4.heap.size, 2, none⟩ = some (.slice y2 ss2.length d2) := (box_cells hb).1 2
      have hq1 := has_right (vid := i2) (rx := rx) (rc := rc) (sc := sc) (t := 0) (hvp.later hB).subs hcz hz0
      rw [show ((0 : Nat) : Int) = 0 from rfl] at hq1
      go_wp2_with fail
      refine hq1.mono ?_
      rintro e wA ⟨rfl, hbA⟩
      clear kv0 kv1 kv2 kb0 kb1 kb2 hq1
      have hvA := heap_later hbA hv
      have hnA := heap_later hbA hb
      have kb0 : wA.cell? ⟨w4.heap.size, 0, none⟩ = some (.int .i64 i2) := (box_cells hnA).1 0
      have kb1 : wA.cell? ⟨w4.heap.size, 1, none⟩ = some (.slice x2 rs2.length c2) := (box_cells hnA).1 1
      have kb2 : wA.cell? ⟨w4.heap.size, 2, none⟩ = some (.slice y2 ss2.length d2) := (box_cells hnA).1 2
      have hq2 := has_right (vid := i2) (rx := x2) (rc := c2) (sc := d2) (t := 1) (hP2.later hbA).subs hck1 hz1
      rw [show ((1 : Nat) : Int) = 1 from rfl] at hq2
      go_wp2_with fail
      refine hq2.mono ?_
      rintro e wC ⟨rfl, hbC⟩
      clear kb0 kb1 kb2 hq2
      have hnC := heap_later hbC hnA
      have hbAC := hbA.trans (hbC.mono hbA.size)
      have kb0 : wC.cell? ⟨w4.heap.size, 0, none⟩ = some (.int .i64 i2) := (box_cells hnC).1 0
      have kb1 : wC.cell? ⟨w4.heap.size, 1, none⟩ = some (.slice x2 rs2.length c2) := (box_cells hnC).1 1
      have kb2 : wC.cell? ⟨w4.heap.size, 2, none⟩ = some (.slice y2 ss2.length d2) := (box_cells hnC).1 2
      have hq3 := checkV_any i2 x2 rs2.length c2 rs2 y2 ss2.length d2 ss2 wC (hP2.later hbAC) (Nat.le_trans hP2.1 hc2) (Nat.le_trans hP2.2 hd2) hc2
      rw [hck1] at hq3
      go_wp2_with fail
      refine hq3.mono ?_
      rintro e wD ⟨rfl, hbD⟩
      go_wp2
      go_meet
      case rel => exact ⟨rfl, hbAC.trans (hbD.mono hbAC.size)⟩
    · go_wp2
      go_meet
      case rel => exact ⟨rfl, Below.refl _ _⟩
  case rest =>
  obtain ⟨rfl, hbcut⟩ := hcut
  obtain ⟨w6, rfl⟩ : ∃ w6, w6 = wc := ⟨_, rfl⟩
  replace hv := heap_later hbcut hv
  replace ha := heap_later hbcut ha
  replace hb := heap_later hbcut hb
  replace hP1 := hP1.later hbcut
  replace hP2 := hP2.later hbcut
  replace hB := hB.trans (hbcut.mono hB.size)
  clear hbcut
  have ka0 : w6.cell? ⟨w1.heap.size, 0, none⟩ = some (.int .i64 i1) := (box_cells ha).1 0
  have ka1 : w6.cell? ⟨w1.heap.size, 1, none⟩ = some (.slice x1 rs1.length c1) := (box_cells ha).1 1
  have ka2 : w6.cell? ⟨w1.heap.size, 2, none⟩ = some (.slice y1 ss1.length d1) := (box_cells ha).1 2
  go_wp2_with fail
  refine (vunface_any i1 x1 rs1.length c1 rs1 y1 ss1.length d1 ss1 sub id w6 hP1 (Nat.le_trans hP1.1 hc1) (Nat.le_trans hP1.2 hd1) hc1).mono ?_
  intro e w7 hpost
  obtain ⟨i3, V3, rs3, ss3, rfl, hbw7, hN3, hK3⟩ := unface_nv hP1 hpost
  obtain ⟨x3, c3, y3, d3, hV3, hP3, hc3, hd3⟩ := hN3
  subst hV3
  clear ka0 ka1 ka2
  replace hv := heap_later hbw7 hv
  replace ha := heap_later hbw7 ha
  replace hb := heap_later hbw7 hb
  replace hP1 := hP1.later hbw7
  replace hP2 := hP2.later hbw7
  replace hB := hB.trans (hbw7.mono hB.size)
  go_upto_region 8 with fail
  obtain ⟨w8, hw⟩ : ∃ w8, w8 = (w7.alloc (.cells #[.int .i64 i3, .slice x3 rs3.length c3, .slice y3 ss3.length d3] 25)) := ⟨_, rfl⟩
  rw [← hw]
  have hbn : Below w7.heap.size w7 w8 := by rw [hw]; exact bl1 w7 _ 
  have hc : w8.heap[w7.heap.size]? = some (.cells #[.int .i64 i3, .slice x3 rs3.length c3, .slice y3 ss3.length d3] 25) := by rw [hw]; exact heap_new _ rfl
  clear hw
  replace hv := heap_later hbn hv
  replace ha := heap_later hbn ha
  replace hb := heap_later hbn hb
  replace hP1 := hP1.later hbn
  replace hP3 := hP3.later hbn
  replace hB := hB.trans (hbn.mono hB.size)
  clear hbn
  have hE3 : Hid (e1 = 0 → plE i1 rs1.length rs1 ss1.length ss1 sub id = 0 ∧ i1 = vid ∧ rs1 = rs ∧ i3 = i1 ∧ rs3 = rs1 ∧ sameSs ss3 ss) := fun h0 => by
    rw [h0] at hK1
    obtain ⟨g1, g2, hl1, hcz, hz0, hz1, hck1, i, p, hF, hback⟩ := hK1.right hLen
    subst g1
    subst g2
    rw [← hl1] at hF hck1
    have hpl := plE_zero hck1 hF
    obtain ⟨b1, b2, us, p', q', x', n', c', b3, b4, b5, b6, b7, b8⟩ := hK3.2 hpl
    obtain ⟨rfl, rfl⟩ := b3.one hF
    exact ⟨hpl, rfl, rfl, b1, b2, by rw [b8]; exact hback us x' n' c' b6 b7⟩
  generalize plE i1 rs1.length rs1 ss1.length ss1 sub id = E3 at *
  clear hK1 hK2 hK3
  go_cut [87] (fun s wc => s = .bool false ∧ Below w8.heap.size w8 wc)
  case first =>
    by_cases h0 : e1 = 0
    · obtain ⟨g0, g1, g2, g3, g4, hsame⟩ := hE3.out h0
      subst h0
      subst g0
      subst g1
      subst g2
      subst g3
      subst g4
      have hvq : Vp w8 rx rs3.length rc rs3 sx ss3.length sc ss := by rw [hsame.1]; exact hvp.later hB
      have hsm := sameVpcs_yes i3 x3 rx rs3.length c3 rc rs3 y3 sx ss3.length d3 sc ss3 ss w8 hP3 hvq hsame hrn (Nat.le_trans hP3.2 hd3)
      have hlen3 : Hid (ss3.length = ss.length) := hsame.1
      rw [show (Value.slice sx ss3.length sc) = .slice sx ss.length sc by rw [hlen3.out]] at hsm
      clear hsame
      have kv0 : w8.cell? ⟨w.heap.size, 0, none⟩ = some (.int .i64 i3) := (box_cells hv).1 0
      have kv1 : w8.cell? ⟨w.heap.size, 1, none⟩ = some (.slice rx rs3.length rc) := (box_cells hv).1 1
      have kv2 : w8.cell? ⟨w.heap.size, 2, none⟩ = some (.slice sx ss.length sc) := (box_cells hv).1 2
      have kc0 : w8.cell? ⟨w7.heap.size, 0, none⟩ = some (.int .i64 i3) := (box_cells hc).1 0
      have kc1 : w8.cell? ⟨w7.heap.size, 1, none⟩ = some (.slice x3 rs3.length c3) := (box_cells hc).1 1
      have kc2 : w8.cell? ⟨w7.heap.size, 2, none⟩ = some (.slice y3 ss3.length d3) := (box_cells hc).1 2
      go_wp2_with fail
      refine hsm.mono ?_
      rintro e wD ⟨rfl, hbD⟩
      go_wp2
      go_meet
      case rel => exact ⟨rfl, hbD⟩
    · go_wp2
      go_meet
      case rel => exact ⟨rfl, Below.refl _ _⟩
  case rest =>
  obtain ⟨rfl, hbcut⟩ := hcut
  replace hB := hB.trans (hbcut.mono hB.size)
  go_wp2_with fail
  refine (vpcBegun_any _).mono ?_
  rintro e w9 ⟨rfl, hb9⟩
  go_wp2
  go_ret
  exact ⟨rfl, hB.trans (hb9.mono hB.size)⟩
end Go.Proofs.Ytpdhipjeobchfaa
