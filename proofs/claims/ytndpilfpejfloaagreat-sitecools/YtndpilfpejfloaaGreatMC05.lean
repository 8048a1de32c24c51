/- A part of the proof. -/
import Derived.Test.YtndpilfpejfloaaGreatMC04
set_option maxRecDepth 100000
set_option maxHeartbeats 20000000
namespace Go.Proofs.YtndpilfpejfloaaGreat
variable {t a l mn mx us co E E' : Int} {ps qs rs : List Po} {w w' W W' w'' W1 : World} {v u : Value} {base g n cap m i j g2 c' k b o c : Nat} {es ls : List Le} {cur : Array Value} {T : TypeId} {r : Option Nat} {p : Po} {cs : List Value} {f : Nat → Bool} {e : Le} {x : Option Addr} {P : Program} {ops : Array Oper} {C : World → Prop} {Q : Exit → Act → World → Prop} {oi : Oper}
open Go.RowKit Go.Shelf
def nN (ps : List Po) (l mn mx us co : Int) : Int := if dF mn mx us co l = false then 1 else if ps.length = 8 then 2 else 0
theorem sL (t a l mn mx us co : Int) (x : Option Addr) (n c : Nat) (ps : List Po) (hl : ps.length = n) (w : World) :
  Calls Tryz.prog 83 #[.agg #[.int .i64 t, .slice x n c], .agg #[.int .i64 a, .int .i64 l], .agg #[.int .i64 mn, .int .i64 mx, .int .i64 us, .int .i64 co]] w fun e w' => e = .returned (.int .i64 (nN ps l mn mx us co)) ∧ Below w.heap.size w w' := by
 unfold nN
 rw [hl]
 have hB : Below w.heap.size w (((w.alloc (.cells #[.int .i64 t, .slice x n c] 25)).alloc (.cells #[.int .i64 a, .int .i64 l] 49)).alloc (.cells #[.int .i64 mn, .int .i64 mx, .int .i64 us, .int .i64 co] 56)) := (cC w _ _).alloc (by simp; omega) _
 have hru := qG mn mx us co a l (((w.alloc (.cells #[.int .i64 t, .slice x n c] 25)).alloc (.cells #[.int .i64 a, .int .i64 l] 49)).alloc (.cells #[.int .i64 mn, .int .i64 mx, .int .i64 us, .int .i64 co] 56))
 cases hr : dF mn mx us co l with
 | false =>
  rw [hr] at hru
  rw [if_pos rfl]
  go_enter Tryz.func83, Tryz.ntmps83
  go_wp2_with fail
  refine hru.mono ?_
  rintro e w1 ⟨rfl, hb1⟩
  go_wp2
  go_ret
  exact ⟨rfl, hB.trans (hb1.mono hB.size)⟩
 | true =>
  rw [hr] at hru
  rw [if_neg (by simp)]
  by_cases h8 : n = 8
  ·rw [if_pos h8]
   subst h8
   go_enter Tryz.func83, Tryz.ntmps83
   go_wp2_with fail
   refine hru.mono ?_
   rintro e w1 ⟨rfl, hb1⟩
   have hx : w1.heap[w.heap.size]? = some (.cells #[.int .i64 t, .slice x 8 c] 25) := aA hb1 (aF _ (aF _ (aB _ rfl)))
   have d1 := aX hx 1 rfl
   have hB2 := hB.trans (hb1.mono hB.size)
   clear hb1
   go_wp2
   go_ret
   exact ⟨rfl, hB2⟩
  ·have h8' : ¬ (n : Int) = 8 := by omega
   rw [if_neg h8]
   go_enter Tryz.func83, Tryz.ntmps83
   go_wp2_with fail
   refine hru.mono ?_
   rintro e w1 ⟨rfl, hb1⟩
   have hx : w1.heap[w.heap.size]? = some (.cells #[.int .i64 t, .slice x n c] 25) := aA hb1 (aF _ (aF _ (aB _ rfl)))
   have d1 := aX hx 1 rfl
   have hB2 := hB.trans (hb1.mono hB.size)
   clear hb1
   go_wp2
   go_ret
   exact ⟨rfl, hB2⟩
def gD (t : Int) (ps : List Po) (id a l mn mx us co : Int) : Int :=
 if aV t ps ≠ 0 then aV t ps else if dE id 1 65536 = false ∨ chk a l ≠ 0 then 3 else if 0 ≤ aP ps id ∨ aL ps.length (kT ps a l) = true then 6 else nN ps l mn mx us co
def gE (t : Int) (ps : List Po) (id a l mn mx us co : Int) (w : World) (r : Ending) (w' : World) : Prop :=
 ∃ v rs t', r = .returned (.tuple #[.agg #[.int .i64 t', v], .int .i64 (gD t ps id a l mn mx us co)]) ∧ Below w.heap.size w w' ∧ dR w' w.heap.size v rs rs.length ∧
  (gD t ps id a l mn mx us co ≠ 0 → t' = 0 ∧ rs = []) ∧ (gD t ps id a l mn mx us co = 0 → t' = t ∧ ∃ qs, cD ps qs ∧ iN ⟨id, 0, a, l, mn, mx, us, co, none, 0, 0, []⟩ qs rs)
theorem gE.err {id : Int} (hE : gD t ps id a l mn mx us co = E ∧ E ≠ 0) (hb : Below w.heap.size w w') :
  gE t ps id a l mn mx us co w (.returned (.tuple #[.agg #[.int .i64 0, .slice none 0 0], .int .i64 E])) w' :=
 ⟨_, [], 0, by rw [hE.1], hb, dR.nil _ _, fun _ => ⟨rfl, rfl⟩, fun h => absurd (hE.1.symm.trans h) hE.2⟩
structure TO (w W : World) (t a l mn mx us co : Int) (v : Value) : Prop where
 hb : W.heap[w.heap.size]? = some (gR t v)
 hp : W.heap[w.heap.size + 1]? = some (.cells #[.int .i64 a, .int .i64 l] 49)
 hu : W.heap[w.heap.size + 2]? = some (.cells #[.int .i64 mn, .int .i64 mx, .int .i64 us, .int .i64 co] 56)
 hs : W.heap[w.heap.size + 3]? = some (gR 0 (.slice none 0 0))
 below : Below w.heap.size w W
theorem TO.later (h : TO w W t a l mn mx us co v) (hb : Below W.heap.size W W') : TO w W' t a l mn mx us co v :=
 ⟨aA hb h.hb, aA hb h.hp, aA hb h.hu, aA hb h.hs, h.below.trans (hb.mono h.below.size)⟩
theorem NY (t : Int) (x : Option Addr) (n c : Nat) (ps : List Po) (id a l mn mx us co : Int) (w : World) (hk : Bk w x n c ps) :
  Calls Tryz.prog 43 #[.agg #[.int .i64 t, .slice x n c], .int .i64 id, .agg #[.int .i64 a, .int .i64 l], .agg #[.int .i64 mn, .int .i64 mx, .int .i64 us, .int .i64 co]] w (gE t ps id a l mn mx us co w) := by
 have hpl : Hid (ps.length = n) := hk.ps.len
 go_enter Tryz.func43, Tryz.ntmps43
 go_upto_region 1 with fail
 obtain ⟨w0, hw0⟩ : ∃ w0, w0 = (((w.alloc (gR t (.slice x n c))).alloc (.cells #[.int .i64 a, .int .i64 l] 49)).alloc (.cells #[.int .i64 mn, .int .i64 mx, .int .i64 us, .int .i64 co] 56)).alloc (gR 0 (.slice none 0 0)) := ⟨_, rfl⟩
 rw [← hw0]
 have hT0 : TO w w0 t a l mn mx us co (.slice x n c) := by
  rw [hw0]
  exact ⟨aF _ (aF _ (aF _ (aB _ rfl))), aF _ (aF _ (aB _ (by simp))), aF _ (aB _ (by simp)), aB _ (by simp), ((cC w _ _).alloc (by simp; omega) _).alloc (by simp; omega) _⟩
 clear hw0
 obtain ⟨b0, b1⟩ := aR hT0.hb rfl rfl
 obtain ⟨a0, a1⟩ := aR hT0.hp rfl rfl
 obtain ⟨u0, u1, u2, u3⟩ := dN hT0.hu rfl rfl rfl rfl
 obtain ⟨s0, s1⟩ := aR hT0.hs rfl rfl
 obtain ⟨zs0, zs1⟩ := cA hT0.hs
 have hck := fN t x n c ps w0 (hk.later hT0.below)
 by_cases hc0 : aV t ps = 0
 ·rw [hc0] at hck
  have hE1 : Hid (gD t ps id a l mn mx us co = if dE id 1 65536 = false ∨ chk a l ≠ 0 then 3 else if 0 ≤ aP ps id ∨ aL ps.length (kT ps a l) = true then 6 else nN ps l mn mx us co) := if_neg (c := aV t ps ≠ 0) (by simp [hc0])
  have hn8 : n ≤ 8 := by rw [← hpl.out]; exact sJ hc0
  go_wp2_with fail
  refine (hck).mono ?_
  rintro e w1 ⟨rfl, hb1⟩
  have hT1 := hT0.later hb1
  clear b0 b1 a0 a1 u0 u1 u2 u3 s0 s1 zs0 zs1
  obtain ⟨b0, b1⟩ := aR hT1.hb rfl rfl
  obtain ⟨a0, a1⟩ := aR hT1.hp rfl rfl
  obtain ⟨u0, u1, u2, u3⟩ := dN hT1.hu rfl rfl rfl rfl
  obtain ⟨s0, s1⟩ := aR hT1.hs rfl rfl
  obtain ⟨zs0, zs1⟩ := cA hT1.hs
  cases hid : dE id 1 65536 with
  | false =>
   have hne : gD t ps id a l mn mx us co = 3 ∧ (3 : Int) ≠ 0 := ⟨hE1.out.trans (if_pos (.inl hid)), by decide⟩
   go_wp2_with fail
   refine (isId_is id false hid _).mono ?_
   rintro e w1 ⟨rfl, rfl⟩
   go_wp2
   refine bodyPost_ret (v := .tuple #[.agg #[.int .i64 0, .slice none 0 0], .int .i64 3]) (by simp [results, Tryz.results43, go_sem, s0, s1]) rfl ?_
   exact gE.err hne ((hT1.below.setCell (p := ⟨w.heap.size + 3, 0, none⟩) (zA) _).setCell (p := ⟨w.heap.size + 3, 1, none⟩) (zA) _)
  | true =>
   go_wp2_with fail
   refine (isId_is id true hid _).mono ?_
   rintro e w1 ⟨rfl, rfl⟩
   have hcp := check_any a l w1
   by_cases hcz : chk a l = 0
   ·rw [hcz] at hcp
    have hE2 : Hid (gD t ps id a l mn mx us co = if 0 ≤ aP ps id ∨ aL ps.length (kT ps a l) = true then 6 else nN ps l mn mx us co) := hE1.out.trans (if_neg (c := dE id 1 65536 = false ∨ chk a l ≠ 0) (by simp [hid, hcz]))
    go_wp2_with fail
    refine (hcp).mono ?_
    rintro e w2 ⟨rfl, hb2⟩
    have hT2 := hT1.later hb2
    clear b0 b1 a0 a1 u0 u1 u2 u3 s0 s1 zs0 zs1
    obtain ⟨b0, b1⟩ := aR hT2.hb rfl rfl
    obtain ⟨a0, a1⟩ := aR hT2.hp rfl rfl
    obtain ⟨u0, u1, u2, u3⟩ := dN hT2.hu rfl rfl rfl rfl
    obtain ⟨s0, s1⟩ := aR hT2.hs rfl rfl
    obtain ⟨zs0, zs1⟩ := cA hT2.hs
    have hpc := pplace_any t id x n c ps w2 (hk.later hT2.below).ps (by omega)
    by_cases hat : aP ps id < 0
    ·have hge : ¬ (0 ≤ aP ps id) := by omega
     go_wp2_with fail
     refine (hpc).mono ?_
     rintro e w3 ⟨rfl, hb3⟩
     have hT3 := hT2.later hb3
     clear b0 b1 a0 a1 u0 u1 u2 u3 s0 s1 zs0 zs1
     obtain ⟨b0, b1⟩ := aR hT3.hb rfl rfl
     obtain ⟨a0, a1⟩ := aR hT3.hp rfl rfl
     obtain ⟨u0, u1, u2, u3⟩ := dN hT3.hu rfl rfl rfl rfl
     obtain ⟨s0, s1⟩ := aR hT3.hs rfl rfl
     obtain ⟨zs0, zs1⟩ := cA hT3.hs
     have hmt := sC a l x n c ps w3 (hk.later hT3.below).ps (by omega)
     cases hany : aL n (kT ps a l) with
     | true =>
      rw [hany] at hmt
      have hne : gD t ps id a l mn mx us co = 6 ∧ (6 : Int) ≠ 0 := ⟨hE2.out.trans (if_pos (.inr (by rw [hpl.out]; exact hany))), by decide⟩
      go_wp2_with fail
      refine (hmt).mono ?_
      rintro e w4 ⟨rfl, hb4⟩
      have hT4 := hT3.later hb4
      clear b0 b1 a0 a1 u0 u1 u2 u3 s0 s1 zs0 zs1
      obtain ⟨b0, b1⟩ := aR hT4.hb rfl rfl
      obtain ⟨a0, a1⟩ := aR hT4.hp rfl rfl
      obtain ⟨u0, u1, u2, u3⟩ := dN hT4.hu rfl rfl rfl rfl
      obtain ⟨s0, s1⟩ := aR hT4.hs rfl rfl
      obtain ⟨zs0, zs1⟩ := cA hT4.hs
      go_wp2
      refine bodyPost_ret (v := .tuple #[.agg #[.int .i64 0, .slice none 0 0], .int .i64 6]) (by simp [results, Tryz.results43, go_sem, s0, s1]) rfl ?_
      exact gE.err hne ((hT4.below.setCell (p := ⟨w.heap.size + 3, 0, none⟩) (zA) _).setCell (p := ⟨w.heap.size + 3, 1, none⟩) (zA) _)
     | false =>
      rw [hany] at hmt
      have hE3 : gD t ps id a l mn mx us co = nN ps l mn mx us co := hE2.out.trans (if_neg (c := 0 ≤ aP ps id ∨ aL ps.length (kT ps a l) = true) (by rw [hpl.out, hany]; simp; omega))
      go_wp2_with fail
      refine (hmt).mono ?_
      rintro e w4 ⟨rfl, hb4⟩
      have hT4 := hT3.later hb4
      clear b0 b1 a0 a1 u0 u1 u2 u3 s0 s1 zs0 zs1
      obtain ⟨b0, b1⟩ := aR hT4.hb rfl rfl
      obtain ⟨a0, a1⟩ := aR hT4.hp rfl rfl
      obtain ⟨u0, u1, u2, u3⟩ := dN hT4.hu rfl rfl rfl rfl
      obtain ⟨s0, s1⟩ := aR hT4.hs rfl rfl
      obtain ⟨zs0, zs1⟩ := cA hT4.hs
      have hae := sL t a l mn mx us co x n c ps hpl.out w4
      by_cases hz : nN ps l mn mx us co = 0
      ·rw [hz] at hae
       have hE0 : gD t ps id a l mn mx us co = 0 := hE3.trans hz
       go_wp2_with fail
       refine (hae).mono ?_
       rintro e w5 ⟨rfl, hb5⟩
       have hT5 := hT4.later hb5
       clear b0 b1 a0 a1 u0 u1 u2 u3 s0 s1 zs0 zs1
       obtain ⟨b0, b1⟩ := aR hT5.hb rfl rfl
       obtain ⟨a0, a1⟩ := aR hT5.hp rfl rfl
       obtain ⟨u0, u1, u2, u3⟩ := dN hT5.hu rfl rfl rfl rfl
       obtain ⟨s0, s1⟩ := aR hT5.hs rfl rfl
       obtain ⟨zs0, zs1⟩ := cA hT5.hs
       have hsz5 : w.heap.size + 3 < w5.heap.size := (zG hT5.hs)
       go_wp2_with fail
       refine (sK t x n c ps ⟨id, 0, a, l, mn, mx, us, co, none, 0, 0, []⟩ w5 (hk.later hT5.below) hn8 rfl rfl rfl rfl).mono ?_
       rintro e w6 ⟨v6, qs, rs, rfl, hb6, hs, hput, hOB⟩
       obtain ⟨x6, c6, rfl, -⟩ := hOB.row.mem
       have hT6 := hT5.later hb6
       clear b0 b1 a0 a1 u0 u1 u2 u3 s0 s1 zs0 zs1
       obtain ⟨b0, b1⟩ := aR hT6.hb rfl rfl
       obtain ⟨a0, a1⟩ := aR hT6.hp rfl rfl
       obtain ⟨u0, u1, u2, u3⟩ := dN hT6.hu rfl rfl rfl rfl
       obtain ⟨s0, s1⟩ := aR hT6.hs rfl rfl
       obtain ⟨zs0, zs1⟩ := cA hT6.hs
       go_wp2
       refine bodyPost_ret (v := .tuple #[.agg #[.int .i64 t, .slice x6 rs.length c6], .int .i64 0]) (by simp [results, Tryz.results43, go_sem, s0, s1]) rfl ?_
       have hfin := (hT6.below.setCell (p := ⟨w.heap.size + 3, 0, none⟩) (zA) (.int .i64 t)).setCell (p := ⟨w.heap.size + 3, 1, none⟩) (zA) (.slice x6 rs.length c6)
       have hob := ((hOB.put (o := 0) (u := .int .i64 t) hsz5).put (o := 1) (u := .slice x6 rs.length c6) hsz5).low hT5.below.size
       exact ⟨_, rs, t, by rw [hE0], hfin, hob, fun h => absurd hE0 h, fun _ => ⟨rfl, qs, hs, hput⟩⟩
      ·have hne : gD t ps id a l mn mx us co = nN ps l mn mx us co ∧ nN ps l mn mx us co ≠ 0 := ⟨hE3, hz⟩
       go_wp2_with fail
       refine (hae).mono ?_
       rintro e w5 ⟨rfl, hb5⟩
       have hT5 := hT4.later hb5
       clear b0 b1 a0 a1 u0 u1 u2 u3 s0 s1 zs0 zs1
       obtain ⟨b0, b1⟩ := aR hT5.hb rfl rfl
       obtain ⟨a0, a1⟩ := aR hT5.hp rfl rfl
       obtain ⟨u0, u1, u2, u3⟩ := dN hT5.hu rfl rfl rfl rfl
       obtain ⟨s0, s1⟩ := aR hT5.hs rfl rfl
       obtain ⟨zs0, zs1⟩ := cA hT5.hs
       go_wp2
       refine bodyPost_ret (v := .tuple #[.agg #[.int .i64 0, .slice none 0 0], .int .i64 (nN ps l mn mx us co)]) (by simp [results, Tryz.results43, go_sem, s0, s1]) rfl ?_
       exact gE.err hne ((hT5.below.setCell (p := ⟨w.heap.size + 3, 0, none⟩) (zA) _).setCell (p := ⟨w.heap.size + 3, 1, none⟩) (zA) _)
    ·have hge : 0 ≤ aP ps id := by omega
     have hne : gD t ps id a l mn mx us co = 6 ∧ (6 : Int) ≠ 0 := ⟨hE2.out.trans (if_pos (.inl (by omega))), by decide⟩
     go_wp2_with fail
     refine (hpc).mono ?_
     rintro e w3 ⟨rfl, hb3⟩
     have hT3 := hT2.later hb3
     clear b0 b1 a0 a1 u0 u1 u2 u3 s0 s1 zs0 zs1
     obtain ⟨b0, b1⟩ := aR hT3.hb rfl rfl
     obtain ⟨a0, a1⟩ := aR hT3.hp rfl rfl
     obtain ⟨u0, u1, u2, u3⟩ := dN hT3.hu rfl rfl rfl rfl
     obtain ⟨s0, s1⟩ := aR hT3.hs rfl rfl
     obtain ⟨zs0, zs1⟩ := cA hT3.hs
     go_wp2
     refine bodyPost_ret (v := .tuple #[.agg #[.int .i64 0, .slice none 0 0], .int .i64 6]) (by simp [results, Tryz.results43, go_sem, s0, s1]) rfl ?_
     exact gE.err hne ((hT3.below.setCell (p := ⟨w.heap.size + 3, 0, none⟩) (zA) _).setCell (p := ⟨w.heap.size + 3, 1, none⟩) (zA) _)
   ·have hne : gD t ps id a l mn mx us co = 3 ∧ (3 : Int) ≠ 0 := ⟨hE1.out.trans (if_pos (.inr hcz)), by decide⟩
    go_wp2_with fail
    refine (hcp).mono ?_
    rintro e w2 ⟨rfl, hb2⟩
    have hT2 := hT1.later hb2
    clear b0 b1 a0 a1 u0 u1 u2 u3 s0 s1 zs0 zs1
    obtain ⟨b0, b1⟩ := aR hT2.hb rfl rfl
    obtain ⟨a0, a1⟩ := aR hT2.hp rfl rfl
    obtain ⟨u0, u1, u2, u3⟩ := dN hT2.hu rfl rfl rfl rfl
    obtain ⟨s0, s1⟩ := aR hT2.hs rfl rfl
    obtain ⟨zs0, zs1⟩ := cA hT2.hs
    go_wp2
    refine bodyPost_ret (v := .tuple #[.agg #[.int .i64 0, .slice none 0 0], .int .i64 3]) (by simp [results, Tryz.results43, go_sem, s0, s1]) rfl ?_
    exact gE.err hne ((hT2.below.setCell (p := ⟨w.heap.size + 3, 0, none⟩) (zA) _).setCell (p := ⟨w.heap.size + 3, 1, none⟩) (zA) _)
 ·have hne : gD t ps id a l mn mx us co = aV t ps ∧ aV t ps ≠ 0 := ⟨if_pos hc0, hc0⟩
  go_wp2_with fail
  refine (hck).mono ?_
  rintro e w1 ⟨rfl, hb1⟩
  have hT1 := hT0.later hb1
  clear b0 b1 a0 a1 u0 u1 u2 u3 s0 s1 zs0 zs1
  obtain ⟨b0, b1⟩ := aR hT1.hb rfl rfl
  obtain ⟨a0, a1⟩ := aR hT1.hp rfl rfl
  obtain ⟨u0, u1, u2, u3⟩ := dN hT1.hu rfl rfl rfl rfl
  obtain ⟨s0, s1⟩ := aR hT1.hs rfl rfl
  obtain ⟨zs0, zs1⟩ := cA hT1.hs
  go_wp2
  refine bodyPost_ret (v := .tuple #[.agg #[.int .i64 0, .slice none 0 0], .int .i64 (aV t ps)]) (by simp [results, Tryz.results43, go_sem, s0, s1]) rfl ?_
  exact gE.err hne ((hT1.below.setCell (p := ⟨w.heap.size + 3, 0, none⟩) (zA) _).setCell (p := ⟨w.heap.size + 3, 1, none⟩) (zA) _)
theorem cJ.take (h : cJ w base (.slice (some ⟨g, 0, none⟩) n cap) es) (i : Nat) (hi : i ≤ es.length) : cJ w base (.slice (some ⟨g, 0, none⟩) i cap) (es.take i) := by
 have := EK h i hi
 unfold cJ
 rw [CQ flatL gZ uA es i, List.length_take, Nat.min_eq_left hi]
 exact this
theorem HC (hO : cJ w base (.slice (some ⟨g, 0, none⟩) m cap) es) (n c : Nat) (hn : 0 < n) (hm : es.length + n ≤ cap) (ty : TypeId) :
  ∃ w', (Builtin.clear_ #[57] ty #[.slice (some ⟨g, es.length * 5, none⟩) n c]).run Tryz.prog w = .ok (.tuple #[]) w' ∧ cJ w' base (.slice (some ⟨g, 0, none⟩) m cap) es ∧ w.grownBy w' (some g) := BK Q4 hO n c hn hm ty
theorem EW (base g k cap i j : Nat) (es : List Le) (w : World) (hO : cJ w base (.slice (some ⟨g, 0, none⟩) (k + 1) cap) es) (hn : es.length = k + 1) (hi : i ≤ k) (hj : j = i + 1) (hn64 : k ≤ 64) (hnc : k + 1 ≤ cap) (hcm : cap ≤ 9223372036854775807) :
  Calls Tryz.prog 132 #[.slice (some ⟨g, 0, none⟩) (k + 1) cap, .int .i64 i, .int .i64 j] w fun e w' => e = .returned (.slice (some ⟨g, 0, none⟩) k cap) ∧ cJ w' base (.slice (some ⟨g, 0, none⟩) k cap) (es.take i ++ es.drop j) ∧ w.grownBy w' (some g) :=
 (pK.1 _ _ Q4 base g k cap i j (flatL es) w (by unfold cJ at hO; rw [hn] at hO; exact hO) (pO es) hi hj hn64 hnc hcm).mono fun e w1 h => ⟨h.1, pI flatL gZ uA hn (by omega) hj h.2.1, h.2.2⟩
theorem EX (base g k cap i j : Nat) (es : List Po) (w : World) (hO : dP w base (.slice (some ⟨g, 0, none⟩) (k + 1) cap) es) (hn : es.length = k + 1) (hi : i ≤ k) (hj : j = i + 1) (hn64 : k ≤ 64) (hnc : k + 1 ≤ cap) (hcm : cap ≤ 9223372036854775807) :
  Calls Tryz.prog 91 #[.slice (some ⟨g, 0, none⟩) (k + 1) cap, .int .i64 i, .int .i64 j] w fun e w' => e = .returned (.slice (some ⟨g, 0, none⟩) k cap) ∧ dP w' base (.slice (some ⟨g, 0, none⟩) k cap) (es.take i ++ es.drop j) ∧ w.grownBy w' (some g) :=
 (pK.2.1 _ _ TK base g k cap i j (flatP es) w (by unfold dP at hO; rw [hn] at hO; exact hO) (pP es) hi hj hn64 hnc hcm).mono fun e w1 h => ⟨h.1, pI flatP eQ BN hn (by omega) hj h.2.1, h.2.2⟩
structure dW (base : Nat) (w w' : World) : Prop where
 os : w'.os = w.os
 tape : w'.tape = w.tape
 output : w'.output = w.output
 size : w.heap.size ≤ w'.heap.size
 low : ∀ k, k < base → w'.heap[k]? = w.heap[k]?
 box : ∀ (k : Nat) (cs : Array Value) (t : TypeId), w.heap[k]? = some (.cells cs t) → t ≠ 59 → t ≠ 138 → w'.heap[k]? = some (.cells cs t)
theorem dW.below (h : dW base w w') : Below base w w' := ⟨h.os, h.tape, h.output, h.size, h.low⟩
theorem dW.trans (h : dW base w w') (h2 : dW base w' w'') : dW base w w'' :=
 ⟨h2.os.trans h.os, h2.tape.trans h.tape, h2.output.trans h.output, Nat.le_trans h.size h2.size, fun k hk => (h2.low k hk).trans (h.low k hk), fun k cs t hc h1 h3 => h2.box k cs t (h.box k cs t hc h1 h3) h1 h3⟩
theorem dW.of_below (hb : Below w.heap.size w w') (hs : base ≤ w.heap.size) : dW base w w' :=
 ⟨hb.os, hb.tape, hb.output, hb.size, fun k hk => hb.block k (Nat.lt_of_lt_of_le hk hs), fun _ _ _ h _ _ => aA hb h⟩
theorem dW.of_grown (hg : w.grownBy w' (some g)) (hb : base ≤ g) (hs : base ≤ w.heap.size) (hc : w.heap[g]? = some (.cells cur T)) (hT : T = 59 ∨ T = 138) : dW base w w' :=
 ⟨hg.os, hg.tape, hg.output, hg.size, fun k hk => hg.block k (Nat.lt_of_lt_of_le hk hs) (fun e => by simp only [Option.some.injEq] at e; omega), fun k cs t h h1 h2 => fU hg h (lT hc h (fun e => by rcases hT with rfl | rfl; exact h1 e.symm; exact h2 e.symm))⟩
theorem eJ (h3 : w.grownBy w' r) (h6 : w'.grownBy w'' r) : w.grownBy w'' r :=
 ⟨h6.os.trans h3.os, h6.tape.trans h3.tape, h6.output.trans h3.output, Nat.le_trans h3.size h6.size, fun m hm hne => (h6.block m (Nat.lt_of_lt_of_le hm h3.size) hne).trans (h3.block m hm hne)⟩
theorem yD {ps : List Le} {p : Le} (hi : i < ps.length) : aO (ps.set i p) j = if i = j then p else aO ps j := by
 unfold aO
 rw [zF, zF, List.getElem?_set]
 by_cases h : i = j
 ·subst h; rw [if_pos rfl, if_pos rfl, if_pos hi]; rfl
 ·rw [if_neg h, if_neg h]
theorem KP (es : List Le) (j : Nat) (e : Le) (hj : j < es.length) :
  (((((flatL es).set (j * 5) (.int .i64 e.a)).set (j * 5 + 1) (.int .i64 e.l)).set (j * 5 + 2) (.int .i64 e.kd)).set (j * 5 + 3) (.int .i64 e.ow)).set (j * 5 + 4) (.int .i64 e.un) = flatL (es.set j e) := by
 refine List.ext_getElem? fun q => ?_
 by_cases hq : q < es.length * 5
 ·have hi : q / 5 < es.length := by omega
  have hr : q % 5 < 5 := by omega
  have e1 : q = (q / 5) * 5 + q % 5 := by omega
  rw [e1]
  generalize q / 5 = i at hi
  generalize q % 5 = r at hr
  clear hq e1
  rw [yA _ _ _ (by rw [List.length_set]; exact hi) hr, yD hj]
  simp only [List.getElem?_set, List.length_set, gZ]
  by_cases h1 : j = i
  ·subst h1
   rw [if_pos rfl]
   rcases r with _ | _ | _ | _ | _ | r
   case succ.succ.succ.succ.succ => omega
   all_goals simp only [cL, List.getElem?_cons_zero, List.getElem?_cons_succ]
   all_goals repeat (first | rw [if_pos trivial] | rw [if_pos (by omega)] | rw [if_neg (by omega)])
  ·rw [if_neg h1, if_neg (by omega), if_neg (by omega), if_neg (by omega), if_neg (by omega), if_neg (by omega), yA _ _ _ hi hr]
 ·rw [List.getElem?_eq_none (by simp only [List.length_set, gZ]; omega), List.getElem?_eq_none (by rw [gZ, List.length_set]; omega)]
theorem iO {z : Nat} (h : w.ownsRow base T z (.slice (some ⟨g, 0, none⟩) n cap) m cs) (k : Nat) (u : Value) (hk : k < m * z) :
  (w.setCell ⟨g, k, none⟩ u).ownsRow base T z (.slice (some ⟨g, 0, none⟩) n cap) m (cs.set k u) := by
 rcases h.2 with ⟨hv, -⟩ | ⟨g', cap', cur, hv, h1, h2, h3, h4, h5, h6⟩
 ·simp at hv
 ·simp only [Value.slice.injEq, Option.some.injEq, Addr.mk.injEq] at hv
  obtain ⟨⟨rfl, -⟩, rfl, rfl⟩ := hv
  refine ⟨by rw [List.length_set]; exact h.1, .inr ⟨g, cap, cur.setIfInBounds k u, rfl, h1, heap_setCell_same w g _ _ _ _ h2, h3, h4, by simpa using h5, ?_⟩⟩
  rw [Array.toList_setIfInBounds, List.take_set, h6]
theorem cJ.set (h : cJ w base (.slice (some ⟨g, 0, none⟩) n cap) es) (j : Nat) (e : Le) (hj : j < es.length) :
  cJ (((((w.setCell ⟨g, j * 5, none⟩ (.int .i64 e.a)).setCell ⟨g, j * 5 + 1, none⟩ (.int .i64 e.l)).setCell ⟨g, j * 5 + 2, none⟩ (.int .i64 e.kd)).setCell ⟨g, j * 5 + 3, none⟩ (.int .i64 e.ow)).setCell ⟨g, j * 5 + 4, none⟩ (.int .i64 e.un)) base (.slice (some ⟨g, 0, none⟩) n cap) (es.set j e) := by
 unfold cJ at h ⊢
 rw [← KP es j e hj, List.length_set]
 exact iO (iO (iO (iO (iO h _ _ (by omega)) _ _ (by omega)) _ _ (by omega)) _ _ (by omega)) _ _ (by omega)
theorem yE (w : World) (g o1 o2 o3 o4 o5 : Nat) (a b c d e : Value) : w.grownBy (((((w.setCell ⟨g, o1, none⟩ a).setCell ⟨g, o2, none⟩ b).setCell ⟨g, o3, none⟩ c).setCell ⟨g, o4, none⟩ d).setCell ⟨g, o5, none⟩ e) (some g) :=
 eJ (eJ (eJ (eJ (aH _ _ _ _) (aH _ _ _ _)) (aH _ _ _ _)) (aH _ _ _ _)) (aH _ _ _ _)
theorem cJ.block (h : cJ w base (.slice (some ⟨g, 0, none⟩) n cap) es) : base ≤ g ∧ ∃ cur, w.heap[g]? = some (.cells cur 138) := pH h
theorem HD (qs : List Po) (i : Nat) (hi : i < qs.length) (ls : List Le) : flatP (qs.set i (aT (poAt qs i) (poAt qs i).x (poAt qs i).n (poAt qs i).c ls)) = flatP qs := by
 refine List.ext_getElem? fun q => ?_
 by_cases hq : q < qs.length * 9
 ·have e1 : q = (q / 9) * 9 + q % 9 := by omega
  rw [e1, lS _ _ _ (by rw [List.length_set]; omega) (by omega), lS _ _ _ (by omega) (by omega), cY hi]
  by_cases h1 : i = q / 9
  ·rw [if_pos h1, ← h1]; rfl
  ·rw [if_neg h1]
 ·rw [List.getElem?_eq_none (by rw [eQ, List.length_set]; omega), List.getElem?_eq_none (by rw [eQ]; omega)]
theorem dR.turned (h : dR W base (.slice (some ⟨g, 0, none⟩) n cap) qs qs.length) (hi : i < qs.length) (hx : (poAt qs i).x = some ⟨g2, 0, none⟩) (hg : W.grownBy W1 (some g2)) (ho : cJ W1 base (.slice (some ⟨g2, 0, none⟩) m c') ls) :
  dP W1 base (.slice (some ⟨g, 0, none⟩) n cap) qs ∧ g ≠ g2 ∧ (∀ j, j < qs.length → cJ W1 base (.slice (poAt (qs.set i (aT (poAt qs i) (some ⟨g2, 0, none⟩) m c' ls)) j).x (poAt (qs.set i (aT (poAt qs i) (some ⟨g2, 0, none⟩) m c' ls)) j).n (poAt (qs.set i (aT (poAt qs i) (some ⟨g2, 0, none⟩) m c' ls)) j).c) (poAt (qs.set i (aT (poAt qs i) (some ⟨g2, 0, none⟩) m c' ls)) j).ls) ∧
   (∀ j k, j < qs.length → k < qs.length → j ≠ k → ∀ b, (Value.slice (poAt (qs.set i (aT (poAt qs i) (some ⟨g2, 0, none⟩) m c' ls)) j).x (poAt (qs.set i (aT (poAt qs i) (some ⟨g2, 0, none⟩) m c' ls)) j).n (poAt (qs.set i (aT (poAt qs i) (some ⟨g2, 0, none⟩) m c' ls)) j).c).ownBlock = some b → (Value.slice (poAt (qs.set i (aT (poAt qs i) (some ⟨g2, 0, none⟩) m c' ls)) k).x (poAt (qs.set i (aT (poAt qs i) (some ⟨g2, 0, none⟩) m c' ls)) k).n (poAt (qs.set i (aT (poAt qs i) (some ⟨g2, 0, none⟩) m c' ls)) k).c).ownBlock ≠ some b) := by
 obtain ⟨hbg, cur, hgc⟩ := h.row.block
 have hob : (Value.slice (poAt qs i).x (poAt qs i).n (poAt qs i).c).ownBlock = some g2 := by rw [hx]; rfl
 have hne : g ≠ g2 := fun e => (h.own i hi).ne hgc (by decide) (by rw [hob, e])
 refine ⟨h.row.kept hg (fun k hk => ?_), hne, fun j hj => ?_, fun j k hj hk hjk b hbj hbk => ?_⟩
 ·simp only [Value.ownBlock, Option.some.injEq] at hk
  rw [← hk]
  exact hne
 ·rw [cY hi]
  by_cases e : i = j
  ·rw [if_pos e]; exact ho
  ·rw [if_neg e]
   exact (h.own j hj).kept hg (fun k hk e2 => h.apart j i hj hi (fun e3 => e e3.symm) k hk (by rw [hob, e2]))
 ·rw [cY hi] at hbj hbk
  by_cases e : i = j
  ·rw [if_pos e] at hbj
   rw [if_neg (by omega)] at hbk
   have hb2 : some g2 = some b := hbj
   exact h.apart i k hi hk (by omega) b (by rw [hob, hb2]) hbk
  ·rw [if_neg e] at hbj
   by_cases e2 : i = k
   ·rw [if_pos e2] at hbk
    have hb2 : some g2 = some b := hbk
    exact h.apart j i hj hi (fun e3 => e e3.symm) b hbj (by rw [hob, hb2])
   ·rw [if_neg e2] at hbk
    exact h.apart j k hj hk hjk b hbj hbk
theorem dR.turn (h : dR W base (.slice (some ⟨g, 0, none⟩) n cap) qs qs.length) (hi : i < qs.length) (hx : (poAt qs i).x = some ⟨g2, 0, none⟩) (hg : W.grownBy W1 (some g2)) (ho : cJ W1 base (.slice (some ⟨g2, 0, none⟩) m c') ls) :
  dR (W1.setCell ⟨g, i * 9 + 8, none⟩ (.slice (some ⟨g2, 0, none⟩) m c')) base (.slice (some ⟨g, 0, none⟩) n cap) (qs.set i (aT (poAt qs i) (some ⟨g2, 0, none⟩) m c' ls)) (qs.set i (aT (poAt qs i) (some ⟨g2, 0, none⟩) m c' ls)).length := by
 obtain ⟨hr, hne, hall, hap⟩ := h.turned hi hx hg ho
 obtain ⟨-, cur, hgc⟩ := hr.block
 have hlen : (qs.set i (aT (poAt qs i) (some ⟨g2, 0, none⟩) m c' ls)).length = qs.length := List.length_set
 exact ⟨hr.set i hi _ _ c' _, fun j hj => (hall j (by omega)).kept (aH _ _ _ _) (fun q hq e => by subst e; exact (hall j (by omega)).ne hgc (by decide) hq), fun j hj hj2 => by omega, fun j k hj hk => hap j k (by omega) (by omega)⟩
theorem dR.turnIn (h : dR W base (.slice (some ⟨g, 0, none⟩) n cap) qs qs.length) (hi : i < qs.length) (hx : (poAt qs i).x = some ⟨g2, 0, none⟩) (hg : W.grownBy W1 (some g2)) (ho : cJ W1 base (.slice (some ⟨g2, 0, none⟩) (poAt qs i).n (poAt qs i).c) ls) :
  dR W1 base (.slice (some ⟨g, 0, none⟩) n cap) (qs.set i (aT (poAt qs i) (some ⟨g2, 0, none⟩) (poAt qs i).n (poAt qs i).c ls)) (qs.set i (aT (poAt qs i) (some ⟨g2, 0, none⟩) (poAt qs i).n (poAt qs i).c ls)).length := by
 obtain ⟨hr, hne, hall, hap⟩ := h.turned hi hx hg ho
 have hlen : (qs.set i (aT (poAt qs i) (some ⟨g2, 0, none⟩) (poAt qs i).n (poAt qs i).c ls)).length = qs.length := List.length_set
 refine ⟨?_, fun j hj => hall j (by omega), fun j hj hj2 => by omega, fun j k hj hk => hap j k (by omega) (by omega)⟩
 have e := HD qs i hi ls
 rw [hx] at e
 unfold dP at hr ⊢
 rw [e, hlen]
 exact hr
theorem NZ {v : Int} (h1 : -4611686018427387904 ≤ v) (h2 : v ≤ 4611686018427387904) : IntKind.i64.wrap v = v := by
 rw [IntKind.wrap_i64]
 omega
def bS (p : Po) (j : Nat) (t : Int) : List Le := if p.co = 0 then p.ls.take j ++ p.ls.drop (j + 1) else p.ls.set j ⟨(aO p.ls j).a, (aO p.ls j).l, 3, 0, t + p.co⟩
def N2 (base g n cap : Nat) (qs : List Po) (i j : Nat) (t : Int) (w : World) (r : Ending) (w' : World) : Prop :=
 r = .returned (.tuple #[]) ∧ ∃ x' c', dR w' base (.slice (some ⟨g, 0, none⟩) n cap) (qs.set i (aT (poAt qs i) x' (bS (poAt qs i) j t).length c' (bS (poAt qs i) j t))) (qs.set i (aT (poAt qs i) x' (bS (poAt qs i) j t).length c' (bS (poAt qs i) j t))).length ∧ dW base w w'
theorem EY (base g n cap : Nat) (qs : List Po) (i j : Nat) (t : Int) (w : World) (h : dR w base (.slice (some ⟨g, 0, none⟩) n cap) qs qs.length) (hi : i < qs.length) (hj : j < (poAt qs i).n) (hn : (poAt qs i).n ≤ 32) (hwb : base ≤ w.heap.size) (ht0 : 0 ≤ t) (ht1 : t ≤ 1073741824) (hc0 : 0 ≤ (poAt qs i).co) (hc1 : (poAt qs i).co ≤ 1024) :
  Calls Tryz.prog 89 #[.pointer (some ⟨g, i * 9, none⟩), .int .i64 j, .int .i64 t] w (N2 base g n cap qs i j t w) := by
 obtain ⟨hbg, cur, hg⟩ := h.row.block
 obtain ⟨xv, cv, he2, -, -, -, hm⟩ := h.row.mem
 obtain ⟨b2, o2, he3, -, -, -, -, -, -, -, c7, c8⟩ := hm i hi
 simp only [Value.slice.injEq] at he2
 obtain ⟨hx2, -, -⟩ := he2
 rw [← hx2] at he3
 simp only [Option.some.injEq, Addr.mk.injEq] at he3
 obtain ⟨rfl, rfl, -⟩ := he3
 clear hx2 hm
 have hO := h.own i hi
 obtain ⟨hLS, hll, hnc, hc63⟩ := hO.ls
 obtain ⟨g2, hxs⟩ : ∃ g2, (poAt qs i).x = some ⟨g2, 0, none⟩ := by
  rcases hO.2 with ⟨hv, -⟩ | ⟨g2, cap2, cur2, hv, -⟩
  ·simp only [Value.slice.injEq] at hv; omega
  ·simp only [Value.slice.injEq] at hv; exact ⟨_, hv.1⟩
 rw [hxs] at c8 hO hLS
 obtain ⟨hb2, cur2, hg2⟩ := hO.block
 obtain ⟨b3, o3, hx3, d0, d1, d2, d3, d4⟩ := hLS.cells j hj
 simp only [Option.some.injEq, Addr.mk.injEq] at hx3
 obtain ⟨rfl, rfl, -⟩ := hx3
 have c7' : w.cell? ⟨g, i * 9 + 7, none⟩ = some (.int .i64 (poAt qs i).co) := by simpa using c7
 have c8' : w.cell? ⟨g, i * 9 + 8, none⟩ = some (.slice (some ⟨g2, 0, none⟩) (poAt qs i).n (poAt qs i).c) := by simpa using c8
 have d0' : w.cell? ⟨g2, j * 5, none⟩ = some (.int .i64 (aO (poAt qs i).ls j).a) := by simpa using d0
 have d1' : w.cell? ⟨g2, j * 5 + 1, none⟩ = some (.int .i64 (aO (poAt qs i).ls j).l) := by simpa using d1
 have d2' : w.cell? ⟨g2, j * 5 + 2, none⟩ = some (.int .i64 (aO (poAt qs i).ls j).kd) := by simpa using d2
 have d3' : w.cell? ⟨g2, j * 5 + 3, none⟩ = some (.int .i64 (aO (poAt qs i).ls j).ow) := by simpa using d3
 have d4' : w.cell? ⟨g2, j * 5 + 4, none⟩ = some (.int .i64 (aO (poAt qs i).ls j).un) := by simpa using d4
 clear c7 c8 d0 d1 d2 d3 d4
 by_cases hco : (poAt qs i).co = 0
 ·obtain ⟨k, hk⟩ : ∃ k, (poAt qs i).n = k + 1 := ⟨(poAt qs i).n - 1, by omega⟩
  rw [hk] at hO hll hnc c8'
  have hdel := EW base g2 k (poAt qs i).c j (j + 1) (poAt qs i).ls w hO hll (by omega) rfl (by omega) hnc hc63
  rw [show ((j + 1 : Nat) : Int) = (j : Int) + 1 by omega] at hdel
  have hcl : Hid (bS (poAt qs i) j t = (poAt qs i).ls.take j ++ (poAt qs i).ls.drop (j + 1)) := if_pos hco
  have hlen : (bS (poAt qs i) j t).length = k := by rw [hcl.out]; simp; omega
  rw [hco] at c7'
  have hjk : (j : Int) ≤ 32 := by omega
  have hj0 : (0 : Int) ≤ j := by omega
  go_enter Tryz.func89, Tryz.ntmps89
  go_wp2_with fail
  refine hdel.mono ?_
  rintro e w1 ⟨rfl, hO1, hg1⟩
  rw [← hcl.out] at hO1
  have hk1 := dW.of_grown hg1 hb2 hwb hg2 (.inr rfl)
  obtain ⟨hr1, hne, -, -⟩ := h.turned hi hxs hg1 hO1
  obtain ⟨-, cur1, hgc1⟩ := hr1.block
  have f8 := (aE hgc1).2 (i * 9 + 8)
  obtain ⟨xw, cw, he4, -, -, -, hm4⟩ := hr1.mem
  obtain ⟨b4, o4, he5, -, -, -, -, -, -, -, -, k8⟩ := hm4 i hi
  simp only [Value.slice.injEq] at he4
  rw [← he4.1] at he5
  simp only [Option.some.injEq, Addr.mk.injEq] at he5
  obtain ⟨rfl, rfl, -⟩ := he5
  simp only [Nat.zero_add] at k8
  clear hm4 he4 c7' c8'
  have hOB := h.turn hi hxs hg1 hO1
  go_wp2
  refine bodyPost_end (results_none Tryz.results89 _ _ _) rfl ?_
  refine ⟨rfl, some ⟨g2, 0, none⟩, (poAt qs i).c, by rw [hlen]; exact hOB, hk1.trans (dW.of_grown (aH _ _ _ _) hbg (Nat.le_trans hwb hk1.size) hgc1 (.inl rfl))⟩
 ·have hcl : Hid (bS (poAt qs i) j t = (poAt qs i).ls.set j ⟨(aO (poAt qs i).ls j).a, (aO (poAt qs i).ls j).l, 3, 0, t + (poAt qs i).co⟩) := if_neg hco
  have hlen : (bS (poAt qs i) j t).length = (poAt qs i).n := by rw [hcl.out, List.length_set]; exact hll
  have hj0 : (0 : Int) ≤ j := by omega
  have hjn : (j : Int) < (poAt qs i).n := by omega
  have z0 := (aE hg2).2
  have hO1 := hO.set j ⟨(aO (poAt qs i).ls j).a, (aO (poAt qs i).ls j).l, 3, 0, t + (poAt qs i).co⟩ (by omega)
  rw [← hcl.out] at hO1
  have hgr := yE w g2 (j * 5) (j * 5 + 1) (j * 5 + 2) (j * 5 + 3) (j * 5 + 4) (.int .i64 (aO (poAt qs i).ls j).a) (.int .i64 (aO (poAt qs i).ls j).l) (.int .i64 3) (.int .i64 0) (.int .i64 (t + (poAt qs i).co))
  have hOB := (h.turnIn hi hxs hgr hO1).later (zD).drew
  rw [← hlen] at hOB
  have hKe : dW base w _ := (dW.of_grown hgr hb2 hwb hg2 (.inr rfl)).trans (dW.of_below (zD).drew (Nat.le_trans hwb hgr.size))
  have hwr : Hid (IntKind.i64.wrap (t + (poAt qs i).co) = t + (poAt qs i).co) := NZ (by omega) (by omega)
  go_enter Tryz.func89, Tryz.ntmps89
  go_upto_region 2 with fail
  go_region_with fail
  all_goals refine bodyPost_end (results_none Tryz.results89 _ _ _) rfl ?_
  all_goals rw [hwr.out]
  all_goals exact ⟨rfl, some ⟨g2, 0, none⟩, (poAt qs i).c, hOB, hKe⟩
def gF (E : Int) (R : Int → List Po → Prop) (w : World) (r : Ending) (w' : World) : Prop :=
 ∃ v rs t', r = .returned (.tuple #[.agg #[.int .i64 t', v], .int .i64 E]) ∧ Below w.heap.size w w' ∧ dR w' w.heap.size v rs rs.length ∧ (E ≠ 0 → t' = 0 ∧ rs = [] ∧ v = .slice none 0 0) ∧ (E = 0 → R t' rs)
theorem gF.err {R : Int → List Po → Prop} (hE : E' = E ∧ E ≠ 0) (hb : Below w.heap.size w w') :
  gF E' R w (.returned (.tuple #[.agg #[.int .i64 0, .slice none 0 0], .int .i64 E])) w' :=
 ⟨_, [], 0, by rw [hE.1], hb, dR.nil _ _, fun _ => ⟨rfl, rfl, rfl⟩, fun h => absurd (hE.1.symm.trans h) hE.2⟩
theorem hZ (h : aV t ps = 0) : ps.length ≤ 8 ∧ (0 ≤ t ∧ t ≤ 1073741824) ∧ lR ps.length ps = true ∧ gT ps = true ∧ ∀ i, i < ps.length → kZ t ps ps.length (poAt ps i) = true := by
 refine ⟨sJ h, ?_⟩
 unfold aV at h
 rw [if_neg (by have := sJ h; omega)] at h
 split at h
 ·rename_i h2
  simp only [zH] at h2
  obtain ⟨h3, h4, h5, h6⟩ := h2
  refine ⟨by unfold dE at h3; simpa using h3, h4, h5, fun i hi => ?_⟩
  unfold oE at h6
  rw [List.all_eq_true] at h6
  exact h6 i (by simpa using hi)
 ·cases h
theorem eI (h : kZ t ps n p = true) : kS p.a p.l p.n (lp p.ls) = 0 ∧ dF p.mn p.mx p.us p.co p.l = true ∧ lD ps n p = true ∧ AV t ps p = true := by
 unfold kZ at h
 simp only [zH] at h
 obtain ⟨h1, h2, h3, h4⟩ := h
 exact ⟨by simpa using h1, h2, h3, h4⟩
theorem C4 (h : dF mn mx us co l = true) : l ≤ mn ∧ mn ≤ us ∧ us ≤ mx ∧ mx ≤ 16 ∧ 0 ≤ co ∧ co ≤ 1024 := by
 unfold dF dE at h
 simp only [zH, decide_eq_true_eq] at h
 omega
theorem iP (h : aV t ps = 0) (i : Nat) (hi : i < ps.length) : (poAt ps i).n ≤ 32 ∧ 0 ≤ (poAt ps i).co ∧ (poAt ps i).co ≤ 1024 := by
 obtain ⟨-, -, -, -, hp⟩ := hZ h
 obtain ⟨h1, h2, -, -⟩ := eI (hp i hi)
 exact ⟨(iG h1).1, (C4 h2).2.2.2.2⟩
def qF (ls : List Le) (a l : Int) (i : Nat) : Bool := ((aO ls i).kd == 1) && (decide ((aO ls i).a = a) && decide ((aO ls i).l = l))
theorem KQ (a l : Int) (p : Le) (b : Nat) (w : World) (h0 : w.cell? ⟨b, 0, none⟩ = some (.int .i64 a)) (h1 : w.cell? ⟨b, 1, none⟩ = some (.int .i64 l)) :
  Calls Tryz.prog 135 #[.agg #[.int .i64 p.a, .int .i64 p.l, .int .i64 p.kd, .int .i64 p.ow, .int .i64 p.un], .pointer (some ⟨b, 0, none⟩)] w fun e w' => e = .returned (.bool ((p.kd == 1) && (decide (p.a = a) && decide (p.l = l)))) ∧ Below w.heap.size w w' := by
 have k0 : ∀ q, (w.alloc q).cell? ⟨b, 0, none⟩ = some (.int .i64 a) := fun q => cell_later (bl1 w q) h0
 have k1 : ∀ q, (w.alloc q).cell? ⟨b, 1, none⟩ = some (.int .i64 l) := fun q => aG (bl1 w q) h1
 cases hk : (p.kd == 1)
 ·go_enter Tryz.func135, Tryz.ntmps135
  go_wp2
  go_ret
  exact ⟨rfl, bl1 w _⟩
 ·go_enter Tryz.func135, Tryz.ntmps135
  go_wp2
  all_goals go_ret
  all_goals first | exact ⟨rfl, bl1 w _⟩ | exact ⟨by simp_all, bl1 w _⟩
theorem HE (args : Array Value) (W : World) : (callFunc 135 args).run Tryz.prog W = .ok (.enter 135 args) W := by simp [go_sem]
theorem Q7 (a l : Int) (b n : Nat) (ls : List Le) (w : World) (h0 : w.cell? ⟨b, 0, none⟩ = some (.int .i64 a)) (h1 : w.cell? ⟨b, 1, none⟩ = some (.int .i64 l)) :
  tV 135 #[.pointer (some ⟨b, 0, none⟩)] n ls (qF ls a l) w := fun i _ W hW => KQ a l (aO ls i) b W (cell_later hW h0) (aG hW h1)
theorem oH (g : Nat) (cap : Array Value) (x : Option Addr) (n c : Nat) (ps : List Le) (f : Nat → Bool) (w : World) (hp : LS w x n ps) (hn : n ≤ 1048576) (hF : tV g cap n ps f w)
  (hg : ∀ args W, (callFunc g args).run Tryz.prog W = .ok (.enter g args) W) :
  Calls Tryz.prog 131 #[.slice x n c, .func (.func g) #[] cap] w fun e w' => e = .returned (.int .i64 (bM n f)) ∧ Below w.heap.size w w' := by
 refine (iX g cap x n c ps f w hp hn hF hg).mono ?_
 rintro e w' ⟨⟨r, rfl, hr⟩, hb⟩
 rcases hr with ⟨i, hi, h1, h2, rfl⟩ | ⟨h1, rfl⟩
 ·exact ⟨by rw [kY hi h1 h2], hb⟩
 ·exact ⟨by rw [rD h1], hb⟩
structure SL (w W : World) (t a l : Int) (v : Value) : Prop where
 hb : W.heap[w.heap.size]? = some (gR t v)
 hp : W.heap[w.heap.size + 1]? = some (.cells #[.int .i64 a, .int .i64 l] 49)
 hs : W.heap[w.heap.size + 2]? = some (gR 0 (.slice none 0 0))
 below : Below w.heap.size w W
theorem SL.later (h : SL w W t a l v) (hb : Below W.heap.size W W') : SL w W' t a l v :=
 ⟨aA hb h.hb, aA hb h.hp, aA hb h.hs, h.below.trans (hb.mono h.below.size)⟩
theorem SL.kept (h : SL w W t a l v) (hk : dW base W W') (hb : w.heap.size ≤ base) : SL w W' t a l v :=
 ⟨hk.box _ _ _ h.hb (by decide) (by decide), hk.box _ _ _ h.hp (by decide) (by decide), hk.box _ _ _ h.hs (by decide) (by decide), h.below.trans (hk.below.mono hb)⟩
def fB (t : Int) (ps : List Po) (id a l : Int) : Int :=
 if aV t ps ≠ 0 then aV t ps else if aP ps id < 0 then 5 else if bM (poAt ps (aP ps id).toNat).n (qF (poAt ps (aP ps id).toNat).ls a l) < 0 then 5 else 0
def C7 (ps : List Po) (i j : Nat) (t : Int) (rs : List Po) : Prop := ∃ qs x' c', cD ps qs ∧ rs = qs.set i (aT (poAt qs i) x' (bS (poAt ps i) j t).length c' (bS (poAt ps i) j t))
def sM (t : Int) (ps : List Po) (id a l : Int) (t' : Int) (rs : List Po) : Prop :=
 t' = t ∧ C7 ps (aP ps id).toNat (bM (poAt ps (aP ps id).toNat).n (qF (poAt ps (aP ps id).toNat).ls a l)).toNat t rs
def N3 (t : Int) (ps : List Po) (id a l : Int) (w : World) : Ending → World → Prop := gF (fB t ps id a l) (sM t ps id a l) w
theorem yF {q : Po} (h : sH p q) (j : Nat) (t : Int) : bS q j t = bS p j t := by
 obtain ⟨-, -, -, -, -, -, -, h1, -, h2⟩ := h
 unfold bS
 rw [h1, h2]
theorem fC (h : ¬ bM n f < 0) : ∃ i : Nat, i < n ∧ bM n f = i ∧ f i = true := by
 rcases firstAt_any (n := n) (f := f) with ⟨-, i, h1, h2, -, h3⟩ | ⟨-, -, h3⟩
 ·exact ⟨i, h1, h3, h2⟩
 ·rw [h3] at h; exact absurd (by decide) h
theorem EZ (t : Int) (x : Option Addr) (n c : Nat) (ps : List Po) (id a l : Int) (w : World) (hk : Bk w x n c ps) :
  Calls Tryz.prog 96 #[.agg #[.int .i64 t, .slice x n c], .int .i64 id, .agg #[.int .i64 a, .int .i64 l]] w (N3 t ps id a l w) := by
 have hpl : Hid (ps.length = n) := hk.ps.len
 go_enter Tryz.func96, Tryz.ntmps96
 go_upto_region 1 with fail
 obtain ⟨w0, hw0⟩ : ∃ w0, w0 = ((w.alloc (gR t (.slice x n c))).alloc (.cells #[.int .i64 a, .int .i64 l] 49)).alloc (gR 0 (.slice none 0 0)) := ⟨_, rfl⟩
 rw [← hw0]
 have hT0 : SL w w0 t a l (.slice x n c) := by
  rw [hw0]
  exact ⟨aF _ (aF _ (aB _ rfl)), aF _ (aB _ (by simp)), aB _ (by simp), (cC w _ _).alloc (by simp; omega) _⟩
 clear hw0
 obtain ⟨b0, b1⟩ := aR hT0.hb rfl rfl
 obtain ⟨a0, a1⟩ := aR hT0.hp rfl rfl
 obtain ⟨s0, s1⟩ := aR hT0.hs rfl rfl
 obtain ⟨zs0, zs1⟩ := cA hT0.hs
 have hck := fN t x n c ps w0 (hk.later hT0.below)
 by_cases hc0 : aV t ps = 0
 ·rw [hc0] at hck
  go_wp2_with fail
  refine hck.mono ?_
  rintro e w1 ⟨rfl, hb1⟩
  have hT1 := hT0.later hb1
  obtain ⟨hn8, ⟨ht0, ht1⟩, -⟩ := hZ hc0
  rw [hpl.out] at hn8
  clear b0 b1 a0 a1 s0 s1 zs0 zs1 hb1 hck
  obtain ⟨b0, b1⟩ := aR hT1.hb rfl rfl
  obtain ⟨a0, a1⟩ := aR hT1.hp rfl rfl
  obtain ⟨s0, s1⟩ := aR hT1.hs rfl rfl
  obtain ⟨zs0, zs1⟩ := cA hT1.hs
  have hpc := pplace_any t id x n c ps w1 (hk.later hT1.below).ps (by omega)
  have hE1 : Hid (fB t ps id a l = if aP ps id < 0 then 5 else if bM (poAt ps (aP ps id).toNat).n (qF (poAt ps (aP ps id).toNat).ls a l) < 0 then 5 else 0) := if_neg (c := aV t ps ≠ 0) (by simp [hc0])
  by_cases hat : aP ps id < 0
  ·have hne : fB t ps id a l = 5 ∧ (5 : Int) ≠ 0 := ⟨hE1.out.trans (if_pos hat), by decide⟩
   go_wp2_with fail
   refine hpc.mono ?_
   rintro e w2 ⟨rfl, hb2⟩
   have hT2 := hT1.later hb2
   clear b0 b1 a0 a1 s0 s1 zs0 zs1 hb2 hE1
   obtain ⟨b0, b1⟩ := aR hT2.hb rfl rfl
   obtain ⟨a0, a1⟩ := aR hT2.hp rfl rfl
   obtain ⟨s0, s1⟩ := aR hT2.hs rfl rfl
   obtain ⟨zs0, zs1⟩ := cA hT2.hs
   go_wp2
   refine bodyPost_ret (v := .tuple #[.agg #[.int .i64 0, .slice none 0 0], .int .i64 5]) (by simp [results, Tryz.results96, go_sem, s0, s1]) rfl ?_
   exact gF.err hne ((hT2.below.setCell (p := ⟨w.heap.size + 2, 0, none⟩) (zA) _).setCell (p := ⟨w.heap.size + 2, 1, none⟩) (zA) _)
  ·obtain ⟨i, hi, hati, -⟩ := aQ hat
   have hcp := iP hc0 i hi
   rw [hpl.out] at hi
   have hto : (aP ps id).toNat = i := by rw [hati]; rfl
   have hR : Hid (∀ j t' rs, bM (poAt ps i).n (qF (poAt ps i).ls a l) = ((j : Nat) : Int) → t' = t → C7 ps i j t rs → sM t ps id a l t' rs) := fun j t' rs h1 h2 h3 => ⟨h2, by rw [hto, h1]; exact h3⟩
   have hE2 : Hid (fB t ps id a l = if bM (poAt ps i).n (qF (poAt ps i).ls a l) < 0 then 5 else 0) := by
    have h := hE1.out
    rw [if_neg hat, hto] at h
    exact h
   rw [hati] at hpc
   clear hat hati hto hE1
   go_wp2_with fail
   refine hpc.mono ?_
   rintro e w2 ⟨rfl, hb2⟩
   have hT2 := hT1.later hb2
   have hi0 : (0 : Int) ≤ i := by omega
   clear b0 b1 a0 a1 s0 s1 zs0 zs1 hb2 hpc
   obtain ⟨b0, b1⟩ := aR hT2.hb rfl rfl
   obtain ⟨a0, a1⟩ := aR hT2.hp rfl rfl
   obtain ⟨s0, s1⟩ := aR hT2.hs rfl rfl
   obtain ⟨zs0, zs1⟩ := cA hT2.hs
   have hk2 := hk.later hT2.below
   obtain ⟨b, o, rfl, c0, c1, c2, c3, c4, c5, c6, c7, c8⟩ := hk2.ps.cells i hi
   obtain ⟨hlc, hlm, hLS⟩ := hk2.ps.leases i hi
   have hin : (i : Int) < n := by omega
   have hix := oH 135 #[.pointer (some ⟨w.heap.size + 1, 0, none⟩)] (poAt ps i).x (poAt ps i).n (poAt ps i).c (poAt ps i).ls (qF (poAt ps i).ls a l) w2 hLS hlm (Q7 a l (w.heap.size + 1) _ _ w2 a0 a1) HE
   by_cases hfi : bM (poAt ps i).n (qF (poAt ps i).ls a l) < 0
   ·have hne : fB t ps id a l = 5 ∧ (5 : Int) ≠ 0 := ⟨hE2.out.trans (if_pos hfi), by decide⟩
    clear hR hE2
    go_wp2_with fail
    refine hix.mono ?_
    rintro e w3 ⟨rfl, hb3⟩
    have hT3 := hT2.later hb3
    clear b0 b1 a0 a1 s0 s1 zs0 zs1 hb3 c0 c1 c2 c3 c4 c5 c6 c7 c8
    obtain ⟨b0, b1⟩ := aR hT3.hb rfl rfl
    obtain ⟨a0, a1⟩ := aR hT3.hp rfl rfl
    obtain ⟨s0, s1⟩ := aR hT3.hs rfl rfl
    obtain ⟨zs0, zs1⟩ := cA hT3.hs
    go_wp2
    refine bodyPost_ret (v := .tuple #[.agg #[.int .i64 0, .slice none 0 0], .int .i64 5]) (by simp [results, Tryz.results96, go_sem, s0, s1]) rfl ?_
    exact gF.err hne ((hT3.below.setCell (p := ⟨w.heap.size + 2, 0, none⟩) (zA) _).setCell (p := ⟨w.heap.size + 2, 1, none⟩) (zA) _)
   ·have hE0 : Hid (fB t ps id a l = 0) := hE2.out.trans (if_neg hfi)
    obtain ⟨j, hj, hfj, -⟩ := fC hfi
    rw [hfj] at hix
    have hR2 : Hid (∀ t' rs, t' = t → C7 ps i j t rs → sM t ps id a l t' rs) := fun t' rs => hR.out j t' rs hfj
    clear hfi hfj hE2 hR
    go_wp2_with fail
    refine hix.mono ?_
    rintro e w3 ⟨rfl, hb3⟩
    have hT3 := hT2.later hb3
    clear b0 b1 a0 a1 s0 s1 zs0 zs1 hb3 c0 c1 c2 c3 c4 c5 c6 c7 c8 hix
    obtain ⟨b0, b1⟩ := aR hT3.hb rfl rfl
    obtain ⟨a0, a1⟩ := aR hT3.hp rfl rfl
    obtain ⟨s0, s1⟩ := aR hT3.hs rfl rfl
    obtain ⟨zs0, zs1⟩ := cA hT3.hs
    go_wp2_with fail
    refine (dZ t (some ⟨b, o, none⟩) n c ps w3 (hk.later hT3.below) (by omega)).mono ?_
    rintro e w5 ⟨v5, qs, rfl, hs, hOB, hb5⟩
    have hql : i < qs.length := by rw [← hs.1, hpl.out]; exact hi
    rcases hOB.row.2 with ⟨-, h0⟩ | ⟨g, cap, cur, rfl, hg1, hg2, -⟩
    ·omega
    clear b0 b1 a0 a1 s0 s1 zs0 zs1
    go_upto_region 11 with fail
    obtain ⟨w6, hw6⟩ : ∃ w6, w6 = w5.alloc (gR t (.slice (some ⟨g, 0, none⟩) qs.length cap)) := ⟨_, rfl⟩
    rw [← hw6]
    have hT6 : SL w w6 t a l (.slice (some ⟨b, o, none⟩) n c) := by rw [hw6]; exact (hT3.later hb5).later (bl1 _ _)
    have hn6 : w6.heap[w5.heap.size]? = some (gR t (.slice (some ⟨g, 0, none⟩) qs.length cap)) := by rw [hw6]; exact aB _ rfl
    have hOB6 : dR w6.drew w3.heap.size (.slice (some ⟨g, 0, none⟩) qs.length cap) qs qs.length := by
     rw [hw6]
     exact hOB.later (bl1 _ _).drew
    have hs6 : w3.heap.size ≤ w6.drew.heap.size := by rw [hw6]; have := hb5.size; simp; omega
    clear hw6 hOB hb5 hg2
    have hsp := hs.2 i (by rw [hpl.out]; exact hi)
    have hsp2 := hsp
    obtain ⟨-, -, -, -, -, -, -, hqc, hqn, -⟩ := hsp2
    have hql2 : (i : Int) < qs.length := by omega
    obtain ⟨m0, m1⟩ := aR hn6 rfl rfl
    have hcool := EY w3.heap.size g qs.length cap qs i j t w6.drew hOB6 hql (by rw [← hqn]; exact hj) (by rw [← hqn]; exact hcp.1) hs6 ht0 ht1 (by rw [← hqc]; exact hcp.2.1) (by rw [← hqc]; exact hcp.2.2)
    go_region_with (go_at_call 89; refine hcool.mono ?_; rintro e w7 ⟨rfl, x', c', hOB7, hK7⟩)
    all_goals have hK : dW w3.heap.size w6 w7 := ⟨hK7.os, hK7.tape, hK7.output, hK7.size, hK7.low, hK7.box⟩
    all_goals have hT7 := hT6.kept hK hT3.below.size
    all_goals have hn7 := hK.box _ _ _ hn6 (by decide) (by decide)
    all_goals clear m0 m1 hcool
    all_goals obtain ⟨m0, m1⟩ := aR hn7 rfl rfl
    all_goals obtain ⟨s0, s1⟩ := aR hT7.hs rfl rfl
    all_goals obtain ⟨zs0, zs1⟩ := cA hT7.hs
    all_goals have hsz : w.heap.size + 2 < w3.heap.size := (zG hT3.hs)
    all_goals go_wp2
    all_goals refine bodyPost_ret (v := .tuple #[.agg #[.int .i64 t, .slice (some ⟨g, 0, none⟩) qs.length cap], .int .i64 0]) (by simp [results, Tryz.results96, go_sem, s0, s1]) rfl ?_
    all_goals have hfin := (hT7.below.setCell (p := ⟨w.heap.size + 2, 0, none⟩) (zA) (.int .i64 t)).setCell (p := ⟨w.heap.size + 2, 1, none⟩) (zA) (.slice (some ⟨g, 0, none⟩) qs.length cap)
    all_goals have hob := ((hOB7.put (o := 0) (u := .int .i64 t) hsz).put (o := 1) (u := .slice (some ⟨g, 0, none⟩) qs.length cap) hsz).low hT3.below.size
    all_goals exact ⟨_, _, t, by rw [hE0.out], hfin, hob, fun h => absurd hE0.out h, fun _ => hR2.out t _ rfl ⟨qs, x', c', hs, by rw [yF hsp]⟩⟩
 ·have hne : fB t ps id a l = aV t ps ∧ aV t ps ≠ 0 := ⟨if_pos hc0, hc0⟩
  go_wp2_with fail
  refine hck.mono ?_
  rintro e w1 ⟨rfl, hb1⟩
  have hT1 := hT0.later hb1
  clear b0 b1 a0 a1 s0 s1 zs0 zs1 hck hb1
  obtain ⟨b0, b1⟩ := aR hT1.hb rfl rfl
  obtain ⟨a0, a1⟩ := aR hT1.hp rfl rfl
  obtain ⟨s0, s1⟩ := aR hT1.hs rfl rfl
  obtain ⟨zs0, zs1⟩ := cA hT1.hs
  go_wp2
  refine bodyPost_ret (v := .tuple #[.agg #[.int .i64 0, .slice none 0 0], .int .i64 (aV t ps)]) (by simp [results, Tryz.results96, go_sem, s0, s1]) rfl ?_
  exact gF.err hne ((hT1.below.setCell (p := ⟨w.heap.size + 2, 0, none⟩) (zA) _).setCell (p := ⟨w.heap.size + 2, 1, none⟩) (zA) _)
def yG (gf : Nat) (cp : Array Value) (es : List Le) (d : Le → Bool) (base : Nat) (w : World) : Prop :=
 ∀ i, i < es.length → ∀ W, dW base w W → Calls Tryz.prog gf (#[.agg #[.int .i64 (aO es i).a, .int .i64 (aO es i).l, .int .i64 (aO es i).kd, .int .i64 (aO es i).ow, .int .i64 (aO es i).un]] ++ cp) W fun e W' => e = .returned (.bool (d (aO es i))) ∧ Below W.heap.size W W'
theorem pQ (hk : k < es.length) : es.take (k + 1) = es.take k ++ [aO es k] := by
 rw [List.take_add_one, aO, zF, List.getElem?_eq_getElem hk]
 rfl
theorem sN {d : Le → Bool} (hk : k ≤ es.length) (h : ∀ j, j < k → d (aO es j) = false) : (es.take k).filter (fun e => !d e) = es.take k := by
 rw [List.filter_eq_self]
 intro e he
 obtain ⟨j, hj, rfl⟩ := List.mem_iff_getElem.1 he
 have hj2 : j < k := by rw [List.length_take] at hj; omega
 have h2 := h j hj2
 rw [aO, zF, List.getElem?_eq_getElem (by omega), Option.getD_some] at h2
 rw [List.getElem_take, h2]
 rfl
theorem N4 {cs : List Le} {a : Nat} (ha : a < cs.length) : (cs.set a e).take (a + 1) = cs.take a ++ [e] := by
 rw [pQ (by rw [List.length_set]; exact ha), yD ha, if_pos rfl, List.take_set_of_le (zE)]
structure N5 (w wr : World) (base g2 n c : Nat) (es : List Le) (d : Le → Bool) (a k : Nat) : Prop where
 ak : a < k
 kn : k ≤ n
 row : ∃ cs, cJ wr base (.slice (some ⟨g2, 0, none⟩) n c) cs ∧ cs.length = n ∧ cs.take a = (es.take k).filter (fun e => !d e) ∧ ∀ q, k ≤ q → q < n → aO cs q = aO es q
 kept : w.grownBy wr (some g2)
theorem wG (gf : Nat) (cp : Array Value) (base : Nat) (x : Option Addr) (n c : Nat) (es : List Le) (d : Le → Bool) (w : World) (hO : cJ w base (.slice x n c) es) (hn : n ≤ 64) (hbs : base ≤ w.heap.size) (hF : yG gf cp es d base w)
  (hgf : ∀ args W, (callFunc gf args).run Tryz.prog W = .ok (.enter gf args) W) :
  Calls Tryz.prog 92 #[.slice x n c, .func (.func gf) #[] cp] w fun e w' => e = .returned (.slice x (es.filter (fun e => !d e)).length c) ∧ cJ w' base (.slice x (es.filter (fun e => !d e)).length c) (es.filter (fun e => !d e)) ∧ ((x = none ∧ Below w.heap.size w w') ∨ ∃ g2, x = some ⟨g2, 0, none⟩ ∧ w.grownBy w' (some g2)) := by
 have HF : Hid (yG gf cp es d base w) := hF
 clear hF
 obtain ⟨hLS, hll, hnc, hc63⟩ := hO.ls
 have hll' : Hid (es.length = n) := hll
 have hix := oH gf cp x n c es (fun i => d (aO es i)) w hLS (by omega) (fun i hi W hW => HF.out i (by omega) W (dW.of_below hW hbs)) hgf
 by_cases hfi : bM n (fun i => d (aO es i)) < 0
 ·have hno : ∀ j, j < n → d (aO es j) = false := by
   rcases firstAt_any (n := n) (f := fun i => d (aO es i)) with ⟨-, i, -, -, -, h3⟩ | ⟨-, h2, h3⟩
   ·omega
   ·exact h2
  have hm1 : bM n (fun i => d (aO es i)) = -1 := by
   rcases firstAt_any (n := n) (f := fun i => d (aO es i)) with ⟨-, i, -, -, -, h3⟩ | ⟨-, h2, h3⟩
   ·omega
   ·exact h3
  have hfe : Hid (es.filter (fun e => !d e) = es) := by
   have := sN (es := es) (d := d) (k := n) (by omega) hno
   rw [List.take_of_length_le (by omega)] at this
   exact this
  rw [hm1] at hix
  clear hno hm1 hfi hll
  go_enter Tryz.func92, Tryz.ntmps92
  go_wp2_with fail
  refine hix.mono ?_
  rintro e w1 ⟨rfl, hb1⟩
  have hO1 := hO.later hb1
  go_wp2
  go_ret
  rw [hfe.out, hll'.out]
  refine ⟨rfl, hO1, ?_⟩
  rcases hO.2 with ⟨hv, -⟩ | ⟨g2, cap2, cur2, hv, -⟩
  ·simp only [Value.slice.injEq] at hv; exact .inl ⟨hv.1, hb1⟩
  ·simp only [Value.slice.injEq] at hv; exact .inr ⟨g2, hv.1, hb1.os, hb1.tape, hb1.output, hb1.size, fun k hk _ => hb1.block k hk⟩
 ·obtain ⟨i, hi, hfe, hdi⟩ := fC hfi
  have hno : ∀ j, j < i → d (aO es j) = false := by
   rcases firstAt_any (n := n) (f := fun i => d (aO es i)) with ⟨-, i2, -, -, h2, h3⟩ | ⟨-, -, h3⟩
   ·have : i2 = i := by omega
    subst this
    exact h2
   ·omega
  obtain ⟨g2, rfl⟩ : ∃ g2, x = some ⟨g2, 0, none⟩ := by
   rcases hO.2 with ⟨hv, -⟩ | ⟨g2, cap2, cur2, hv, -⟩
   ·simp only [Value.slice.injEq] at hv; omega
   ·simp only [Value.slice.injEq] at hv; exact ⟨_, hv.1⟩
  obtain ⟨hb2, cur2, hg2⟩ := hO.block
  have hst : Hid (∀ w1, Below w.heap.size w w1 → N5 w w1 base g2 n c es d i (i + 1)) := fun w1 hb1 => ⟨by omega, by omega, ⟨es, hO.later hb1, hll'.out, by rw [pQ (by omega), List.filter_append, sN (by omega) hno]; simp [hdi], fun _ _ _ => rfl⟩, hb1.os, hb1.tape, hb1.output, hb1.size, fun k hk _ => hb1.block k hk⟩
  rw [hfe] at hix
  have hi0 : (0 : Int) ≤ i := by omega
  have hi64 : (i : Int) < 64 := by omega
  have hiz : i < n := hi
  clear hno hfi hfe hdi hLS hll hi hO
  go_enter Tryz.func92, Tryz.ntmps92
  go_wp2_with fail
  refine hix.mono ?_
  rintro e w1 ⟨rfl, hb1⟩
  have hI1 := hst.out w1 hb1
  clear hix hst hb1
  go_wp2
  go_loopw [5, 6] (fun p q wr => ∃ a k : Nat, p = .int .i64 a ∧ q = .int .i64 k ∧ N5 w wr base g2 n c es d a k) (fun _ q _ => n - (intOf q).toNat)
  case atStart => exact ⟨i, i + 1, rfl, by go_num, hI1⟩
  case round =>
   obtain ⟨a, k, rfl, rfl, hI⟩ := hrel
   obtain ⟨hak, hkn, ⟨cs, hOc, hcl, hct, hcr⟩, hgr⟩ := hI
   have hct' : Hid (cs.take a = (es.take k).filter (fun e => !d e)) := hct
   have hcr' : Hid (∀ q, k ≤ q → q < n → aO cs q = aO es q) := hcr
   clear hct hcr
   by_cases hlt : k < n
   ·obtain ⟨b3, o3, hx3, c0, c1, c2, c3, c4⟩ := hOc.ls.1.cells k hlt
    simp only [Option.some.injEq, Addr.mk.injEq] at hx3
    obtain ⟨rfl, rfl, -⟩ := hx3
    rw [hcr'.out k (zE) hlt] at c0 c1 c2 c3 c4
    simp only [Nat.zero_add] at c0 c1 c2 c3 c4
    go_upto_region 8 with fail
    obtain ⟨w2, hw2⟩ : ∃ w2, w2 = wr.alloc (.cells #[.int .i64 (aO es k).a, .int .i64 (aO es k).l, .int .i64 (aO es k).kd, .int .i64 (aO es k).ow, .int .i64 (aO es k).un] 138) := ⟨_, rfl⟩
    rw [← hw2]
    have hB2 : Below wr.heap.size wr w2 := by rw [hw2]; exact bl1 _ _
    have hv2 : w2.heap[wr.heap.size]? = some (.cells #[.int .i64 (aO es k).a, .int .i64 (aO es k).l, .int .i64 (aO es k).kd, .int .i64 (aO es k).ow, .int .i64 (aO es k).un] 138) := by rw [hw2]; exact aB _ rfl
    clear hw2 c0 c1 c2 c3 c4
    obtain ⟨v0, v1, v2, v3, v4⟩ := WS hv2 rfl rfl rfl rfl rfl
    have hK2 : dW base w w2 := (dW.of_grown hgr hb2 hbs hg2 (.inr rfl)).trans (dW.of_below hB2 (Nat.le_trans hbs hgr.size))
    have hcall := HF.out k (by rw [hll'.out]; exact hlt) w2 hK2
    go_wp2_with fail
    refine hcall.mono ?_
    rintro e w3 ⟨rfl, hb3⟩
    have hB3 : Below wr.heap.size wr w3 := hB2.trans (hb3.mono hB2.size)
    have hv3 := aA hb3 hv2
    clear v0 v1 v2 v3 v4 hcall hb3 hB2 hv2 hK2
    have hO3 := hOc.later hB3
    have hg3 : w.grownBy w3 (some g2) := eJ hgr ⟨hB3.os, hB3.tape, hB3.output, hB3.size, fun k hk _ => hB3.block k hk⟩
    cases hd : d (aO es k)
    ·obtain ⟨v0, v1, v2, v3, v4⟩ := WS hv3 rfl rfl rfl rfl rfl
     obtain ⟨-, cur3, hg23⟩ := hO3.block
     have z0 := (aE hg23).2
     obtain ⟨b4, o4, hx4, y0, y1, y2, y3, y4⟩ := hO3.ls.1.cells a (by omega)
     simp only [Option.some.injEq, Addr.mk.injEq] at hx4
     obtain ⟨rfl, rfl, -⟩ := hx4
     simp only [Nat.zero_add] at y0 y1 y2 y3 y4
     have han : (a : Int) < n := by omega
     have ha0 : (0 : Int) ≤ a := by omega
     have hS := hO3.set a (aO es k) (by rw [hcl]; omega)
     have hgS : w.grownBy _ (some g2) := eJ hg3 (yE w3 g2 (a * 5) (a * 5 + 1) (a * 5 + 2) (a * 5 + 3) (a * 5 + 4) (.int .i64 (aO es k).a) (.int .i64 (aO es k).l) (.int .i64 (aO es k).kd) (.int .i64 (aO es k).ow) (.int .i64 (aO es k).un))
     go_wp2
     go_roundw
     case rel =>
      refine ⟨_, _, _, _, _, _, _, _, _, _, _, _, _, _, _, _, _, _, _, _, _, _, _, ?_, rfl⟩
      refine ⟨a + 1, k + 1, by go_num, by go_num, by omega, by omega, ⟨_, hS, by rw [List.length_set]; exact hcl, ?_, fun q hq hqn => ?_⟩, hgS⟩
      ·rw [N4 (by rw [hcl]; omega), pQ (by rw [hll'.out]; exact hlt), List.filter_append, hct'.out]
       simp [hd]
      ·rw [yD (by rw [hcl]; omega), if_neg (by omega)]
       exact hcr'.out q (by omega) hqn
     case measure => simp [intOf]; omega
    ·go_wp2
     go_roundw
     case rel =>
      refine ⟨_, _, _, _, _, _, _, _, _, _, _, _, _, _, _, _, _, _, _, _, _, _, _, ?_, rfl⟩
      refine ⟨a, k + 1, rfl, by go_num, by omega, by omega, ⟨cs, hO3, hcl, ?_, fun q hq hqn => hcr'.out q (by omega) hqn⟩, hg3⟩
      rw [pQ (by rw [hll'.out]; exact hlt), List.filter_append, hct'.out]
      simp [hd]
     case measure => simp [intOf]; omega
   ·have hkn2 : k = n := by omega
    have hfl : Hid (cs.take a = es.filter (fun e => !d e)) := by
     have h1 := hct'.out
     rw [hkn2, List.take_of_length_le (l := es) (by rw [hll'.out]; exact zE)] at h1
     exact h1
    have hla : (es.filter (fun e => !d e)).length = a := by rw [← hfl.out, List.length_take, hcl]; omega
    have hOa := hOc.take a (by rw [hcl]; omega)
    have hlt2 : (cs.take a).length = a := by rw [List.length_take, hcl]; omega
    obtain ⟨wb, h4, h5, h6⟩ := HC hOa (n - a) (c - a) (by omega) (by rw [hlt2]; omega) 0
    rw [hlt2] at h4
    rw [hfl.out] at h5
    clear hfl
    have hcl2 : ∀ ty, (Builtin.clear_ #[57] ty #[.slice (some ⟨g2, a * 5, none⟩) (n - a) (c - a)]).run Tryz.prog wr = .ok (.tuple #[]) wb := fun ty => h4
    have e2 : a ≤ c := by omega
    have e3 : ¬ c = a := by omega
    have e4 : (a : Int) ≤ n := by omega
    have e5 : (a : Int) ≤ c := by omega
    have e6 : (0 : Int) ≤ a := by omega
    have hne : ¬ (k : Int) < n := by omega
    clear h4 hlt2 hOa hct' hcr' hkn2 hlt
    go_wp2
    go_ret
    exact ⟨rfl, h5, eJ hgr h6⟩
def lE (T : Int) (e : Le) : Bool := (e.kd == 3) && decide (e.un ≤ T)
theorem KR (T : Int) (p : Le) (b : Nat) (w : World) (h0 : w.cell? ⟨b, 0, none⟩ = some (.int .i64 T)) :
  Calls Tryz.prog 93 #[.agg #[.int .i64 p.a, .int .i64 p.l, .int .i64 p.kd, .int .i64 p.ow, .int .i64 p.un], .pointer (some ⟨b, 0, none⟩)] w fun e w' => e = .returned (.bool (lE T p)) ∧ Below w.heap.size w w' := by
 have k0 : ∀ q, (w.alloc q).cell? ⟨b, 0, none⟩ = some (.int .i64 T) := fun q => cell_later (bl1 w q) h0
 unfold lE
 cases hk : (p.kd == 3)
 ·go_enter Tryz.func93, Tryz.ntmps93
  go_wp2
  go_ret
  exact ⟨rfl, bl1 w _⟩
 ·go_enter Tryz.func93, Tryz.ntmps93
  go_wp2
  all_goals go_ret
  all_goals first | exact ⟨rfl, bl1 w _⟩ | exact ⟨by simp_all, bl1 w _⟩
theorem HG (args : Array Value) (W : World) : (callFunc 93 args).run Tryz.prog W = .ok (.enter 93 args) W := by simp [go_sem]
theorem Q8 (T : Int) (v : Value) (b base : Nat) (es : List Le) (w : World) (h0 : w.heap[b]? = some (gR T v)) :
  yG 93 #[.pointer (some ⟨b, 0, none⟩)] es (lE T) base w := fun i _ W hW => KR T (aO es i) b W ((aE (hW.box _ _ _ h0 (by decide) (by decide))).1 0)
theorem dR.sifted (h : dR W base (.slice (some ⟨g, 0, none⟩) n cap) qs qs.length) (hi : i < qs.length) (hbs : base ≤ W.heap.size) (ho : cJ W1 base (.slice (poAt qs i).x m c') ls)
  (hx : ((poAt qs i).x = none ∧ Below W.heap.size W W1) ∨ ∃ g2, (poAt qs i).x = some ⟨g2, 0, none⟩ ∧ W.grownBy W1 (some g2)) :
  dW base W W1 ∧ dP W1 base (.slice (some ⟨g, 0, none⟩) n cap) qs ∧ dR (W1.setCell ⟨g, i * 9 + 8, none⟩ (.slice (poAt qs i).x m c')) base (.slice (some ⟨g, 0, none⟩) n cap) (qs.set i (aT (poAt qs i) (poAt qs i).x m c' ls)) (qs.set i (aT (poAt qs i) (poAt qs i).x m c' ls)).length := by
 rcases hx with ⟨hx, hb⟩ | ⟨g2, hx, hg⟩
 ·rw [hx] at ho ⊢
  have ho2 : cJ W1 W.heap.size (.slice none m c') ls := by
   refine ⟨ho.1, ?_⟩
   rcases ho.2 with h1 | ⟨g2, cap2, cur2, hv, -⟩
   ·exact .inl h1
   ·simp at hv
  exact ⟨dW.of_below hb hbs, h.row.later hb, h.swap hi hb ho2 hbs⟩
 ·rw [hx] at ho ⊢
  have hOi := h.own i hi
  rw [hx] at hOi
  obtain ⟨hb2, cur2, hg2⟩ := hOi.block
  exact ⟨dW.of_grown hg hb2 hbs hg2 (.inr rfl), (h.turned hi hx hg ho).1, h.turn hi hx hg ho⟩
theorem dP.cell8 (h : dP w base (.slice (some ⟨g, 0, none⟩) n cap) ps) (i : Nat) (hi : i < ps.length) : w.cell? ⟨g, i * 9 + 8, none⟩ = some (.slice (poAt ps i).x (poAt ps i).n (poAt ps i).c) ∧ w.frozen? ⟨g, i * 9 + 8, none⟩ = false := by
 obtain ⟨xw, cw, he4, -, -, -, hm4⟩ := h.mem
 obtain ⟨b4, o4, he5, -, -, -, -, -, -, -, -, k8⟩ := hm4 i hi
 simp only [Value.slice.injEq] at he4
 rw [← he4.1] at he5
 simp only [Option.some.injEq, Addr.mk.injEq] at he5
 obtain ⟨rfl, rfl, -⟩ := he5
 simp only [Nat.zero_add] at k8
 obtain ⟨-, cur, hg⟩ := h.block
 exact ⟨k8, (aE hg).2 _⟩
structure TC (w W : World) (t : Int) (v : Value) : Prop where
 hb : W.heap[w.heap.size]? = some (gR t v)
 hs : W.heap[w.heap.size + 1]? = some (gR 0 (.slice none 0 0))
 below : Below w.heap.size w W
theorem TC.later (h : TC w W t v) (hb : Below W.heap.size W W') : TC w W' t v :=
 ⟨aA hb h.hb, aA hb h.hs, h.below.trans (hb.mono h.below.size)⟩
theorem TC.kept (h : TC w W t v) (hk : dW base W W') (hb : w.heap.size ≤ base) : TC w W' t v :=
 ⟨hk.box _ _ _ h.hb (by decide) (by decide), hk.box _ _ _ h.hs (by decide) (by decide), h.below.trans (hk.below.mono hb)⟩
theorem TC.put (h : TC w W t v) (hb : w.heap.size + 1 < b) : TC w (W.setCell ⟨b, o, none⟩ u) t v :=
 ⟨(heap_setCell_other W ⟨b, o, none⟩ _ u (by show w.heap.size ≠ b; omega)).trans h.hb, (heap_setCell_other W ⟨b, o, none⟩ _ u (by show w.heap.size + 1 ≠ b; omega)).trans h.hs, h.below.setCell (p := ⟨b, o, none⟩) (by show w.heap.size ≤ b; omega) u⟩
def qL (t : Int) (ps : List Po) (m : Int) : Int := if aV t ps ≠ 0 then aV t ps else if m < 1 ∨ 1073741824 - t < m then 3 else 0
def iQ (T : Int) (ls : List Le) : List Le := ls.filter (fun e => !lE T e)
def jY (T : Int) (qs : List Po) (k : Nat) (rs : List Po) : Prop :=
 rs.length = qs.length ∧ ∀ j, j < qs.length → (j < k → ∃ x c, poAt rs j = aT (poAt qs j) x (iQ T (poAt qs j).ls).length c (iQ T (poAt qs j).ls)) ∧ (k ≤ j → poAt rs j = poAt qs j)
def SM (t : Int) (ps : List Po) (m : Int) (t' : Int) (rs : List Po) : Prop := t' = t + m ∧ ∃ qs, cD ps qs ∧ jY (t + m) qs qs.length rs
def N6 (t : Int) (ps : List Po) (m : Int) (w : World) : Ending → World → Prop := gF (qL t ps m) (SM t ps m) w
theorem jY.step {T : Int} (h : jY T qs k rs) (hk : k < rs.length) : jY T qs (k + 1) (rs.set k (aT (poAt rs k) x (iQ T (poAt rs k).ls).length c (iQ T (poAt rs k).ls))) := by
 refine ⟨by rw [List.length_set]; exact h.1, fun j hj => ?_⟩
 obtain ⟨h1, h2⟩ := h.2 j hj
 rw [cY hk]
 refine ⟨fun hjk => ?_, fun hjk => ?_⟩
 ·by_cases e : k = j
  ·rw [if_pos e, e, h2 (by omega)]
   exact ⟨_, _, rfl⟩
  ·rw [if_neg e]
   exact h1 (by omega)
 ·rw [if_neg (by omega)]
  exact h2 (by omega)
structure C8 (w wr : World) (t T : Int) (v : Value) (base nb : Nat) (xq : Option Addr) (capq : Nat) (qs : List Po) (k : Nat) : Prop where
 kn : k ≤ qs.length
 tc : TC w wr t v
 nx : wr.heap[nb]? = some (gR T (.slice xq qs.length capq))
 size : base ≤ wr.heap.size
 rs : ∃ rs, dR wr base (.slice xq qs.length capq) rs rs.length ∧ jY T qs k rs
theorem N7 (t : Int) (x : Option Addr) (n c : Nat) (ps : List Po) (m : Int) (w : World) (hk : Bk w x n c ps) :
  Calls Tryz.prog 46 #[.agg #[.int .i64 t, .slice x n c], .int .i64 m] w (N6 t ps m w) := by
 have hpl : Hid (ps.length = n) := hk.ps.len
 go_enter Tryz.func46, Tryz.ntmps46
 go_upto_region 1 with fail
 obtain ⟨w0, hw0⟩ : ∃ w0, w0 = (w.alloc (gR t (.slice x n c))).alloc (gR 0 (.slice none 0 0)) := ⟨_, rfl⟩
 rw [← hw0]
 have hT0 : TC w w0 t (.slice x n c) := by
  rw [hw0]
  exact ⟨aF _ (aB _ rfl), aB _ (by simp), cC w _ _⟩
 clear hw0
 obtain ⟨b0, b1⟩ := aR hT0.hb rfl rfl
 obtain ⟨s0, s1⟩ := aR hT0.hs rfl rfl
 obtain ⟨zs0, zs1⟩ := cA hT0.hs
 have hck := fN t x n c ps w0 (hk.later hT0.below)
 by_cases hc0 : aV t ps = 0
 ·rw [hc0] at hck
  obtain ⟨hn8, ⟨ht0, ht1⟩, -⟩ := hZ hc0
  rw [hpl.out] at hn8
  have hE1 : Hid (qL t ps m = if m < 1 ∨ 1073741824 - t < m then 3 else 0) := if_neg (c := aV t ps ≠ 0) (by simp [hc0])
  by_cases hr1 : m < 1
  ·have hne : Hid (qL t ps m = 3 ∧ (3 : Int) ≠ 0) := ⟨hE1.out.trans (if_pos (.inl hr1)), by decide⟩
   go_wp2_with fail
   refine hck.mono ?_
   rintro e w1 ⟨rfl, hb1⟩
   have hT1 := hT0.later hb1
   clear b0 b1 s0 s1 zs0 zs1 hb1 hck hE1
   obtain ⟨b0, b1⟩ := aR hT1.hb rfl rfl
   obtain ⟨s0, s1⟩ := aR hT1.hs rfl rfl
   obtain ⟨zs0, zs1⟩ := cA hT1.hs
   go_wp2
   refine bodyPost_ret (v := .tuple #[.agg #[.int .i64 0, .slice none 0 0], .int .i64 3]) (by simp [results, Tryz.results46, go_sem, s0, s1]) rfl ?_
   exact gF.err hne.out ((hT1.below.setCell (p := ⟨w.heap.size + 1, 0, none⟩) (zA) _).setCell (p := ⟨w.heap.size + 1, 1, none⟩) (zA) _)
  by_cases hr2 : 1073741824 - t < m
  ·have hne : Hid (qL t ps m = 3 ∧ (3 : Int) ≠ 0) := ⟨hE1.out.trans (if_pos (.inr hr2)), by decide⟩
   go_wp2_with fail
   refine hck.mono ?_
   rintro e w1 ⟨rfl, hb1⟩
   have hT1 := hT0.later hb1
   clear b0 b1 s0 s1 zs0 zs1 hb1 hck hE1
   obtain ⟨b0, b1⟩ := aR hT1.hb rfl rfl
   obtain ⟨s0, s1⟩ := aR hT1.hs rfl rfl
   obtain ⟨zs0, zs1⟩ := cA hT1.hs
   go_wp2
   refine bodyPost_ret (v := .tuple #[.agg #[.int .i64 0, .slice none 0 0], .int .i64 3]) (by simp [results, Tryz.results46, go_sem, s0, s1]) rfl ?_
   exact gF.err hne.out ((hT1.below.setCell (p := ⟨w.heap.size + 1, 0, none⟩) (zA) _).setCell (p := ⟨w.heap.size + 1, 1, none⟩) (zA) _)
  have hE0 : Hid (qL t ps m = 0) := hE1.out.trans (if_neg (by omega))
  have hm0 : 1 ≤ m := by omega
  have hm2 : t + m ≤ 1073741824 := by omega
  have hm3 : 0 ≤ t + m := by omega
  go_wp2_with fail
  refine hck.mono ?_
  rintro e w1 ⟨rfl, hb1⟩
  have hT1 := hT0.later hb1
  clear b0 b1 s0 s1 zs0 zs1 hb1 hck hE1
  obtain ⟨b0, b1⟩ := aR hT1.hb rfl rfl
  obtain ⟨s0, s1⟩ := aR hT1.hs rfl rfl
  obtain ⟨zs0, zs1⟩ := cA hT1.hs
  go_wp2_with fail
  refine (dZ t x n c ps w1 (hk.later hT1.below) (by omega)).mono ?_
  rintro e w5 ⟨v5, qs, rfl, hs, hOB, hb5⟩
  have hql : Hid (qs.length = n) := hs.1.symm.trans hpl.out
  obtain ⟨xq, capq, rfl, hq1, hq2, -, -⟩ := hOB.row.mem
  clear b0 b1 s0 s1 zs0 zs1
  go_upto_region 7 with fail
  obtain ⟨w6, hw6⟩ : ∃ w6, w6 = w5.alloc (gR t (.slice xq qs.length capq)) := ⟨_, rfl⟩
  rw [← hw6]
  have hT6 : TC w w6 t (.slice x n c) := by rw [hw6]; exact (hT1.later hb5).later (bl1 _ _)
  have hn6 : w6.heap[w5.heap.size]? = some (gR t (.slice xq qs.length capq)) := by rw [hw6]; exact aB _ rfl
  have hOB6 : dR w6 w1.heap.size (.slice xq qs.length capq) qs qs.length := by
   rw [hw6]
   exact hOB.later (bl1 _ _)
  have hs6 : w1.heap.size ≤ w6.heap.size := by rw [hw6]; have := hb5.size; simp; omega
  have hsz1 : w.heap.size + 1 < w1.heap.size := (zG hT1.hs)
  have hnb : w.heap.size + 1 < w5.heap.size := by have := hb5.size; omega
  clear hw6 hOB hb5
  have m0 := aX hn6 0 rfl
  have zm0 := (aE hn6).2 0
  go_upto_region 8 with fail
  obtain ⟨w7, hw7⟩ : ∃ w7, w7 = w6.setCell ⟨w5.heap.size, 0, none⟩ (.int .i64 (t + m)) := ⟨_, rfl⟩
  rw [← hw7]
  have hI0 : C8 w w7 t (t + m) (.slice x n c) w1.heap.size w5.heap.size xq capq qs 0 := by
   rw [hw7]
   refine ⟨by omega, hT6.put hnb, ?_, by simpa using hs6, qs, hOB6.putBox hn6 (by decide) (by decide), rfl, fun j hj => ⟨fun h => by omega, fun _ => rfl⟩⟩
   have := heap_setCell_same w6 w5.heap.size 0 _ _ (.int .i64 (t + m)) hn6
   simpa [gR] using this
  clear hw7 m0 zm0 hT6 hn6 hOB6 hs6
  have m1 := aX hI0.nx 1 rfl
  have hq8 : qs.length ≤ 8 := by rw [hql.out]; exact hn8
  go_wp2
  go_loopw [36] (fun i wr => ∃ k : Nat, i = .int .i64 k ∧ C8 w wr t (t + m) (.slice x n c) w1.heap.size w5.heap.size xq capq qs k) (fun i _ => qs.length - (intOf i).toNat)
  case atStart => exact ⟨0, rfl, hI0⟩
  case round =>
   obtain ⟨k, rfl, hI⟩ := hrel
   clear m1 hI0
   have hkn := hI.kn
   have hT7 := hI.tc
   have hs7 := hI.size
   obtain ⟨rs, hOBr, hpt⟩ := hI.rs
   obtain ⟨m0, m1⟩ := aR hI.nx rfl rfl
   by_cases hlt : k < qs.length
   ·have hkr : k < rs.length := by rw [hpt.1]; exact hlt
    obtain ⟨g, rfl⟩ : ∃ g, xq = some ⟨g, 0, none⟩ := by
     rcases hOBr.row.2 with ⟨hv, h0⟩ | ⟨g, cap, cur, hv, -⟩
     ·simp only [Value.slice.injEq] at hv; omega
     ·simp only [Value.slice.injEq] at hv; exact ⟨g, hv.1⟩
    have hrq := (hpt.2 k hlt).2 (zE)
    have hcp := iP hc0 k (by rw [hs.1]; exact hlt)
    have hsp := hs.2 k (by rw [hs.1]; exact hlt)
    have hrn : (poAt rs k).n ≤ 64 := by rw [hrq, ← hsp.2.2.2.2.2.2.2.2.1]; omega
    have hdf := wG 93 #[.pointer (some ⟨w5.heap.size, 0, none⟩)] w1.heap.size (poAt rs k).x (poAt rs k).n (poAt rs k).c (poAt rs k).ls (lE (t + m)) wr (hOBr.own k hkr) hrn hs7 (Q8 (t + m) _ w5.heap.size _ _ wr hI.nx) HG
    obtain ⟨c8, -⟩ := hOBr.row.cell8 k hkr
    have hkn2 : (k : Int) < qs.length := by omega
    have hk0 : (0 : Int) ≤ k := by omega
    have hk8 : (k : Int) < 8 := by omega
    have hnx := hI.nx
    have hHs : Hid (jY (t + m) qs k rs) := hpt
    clear hrq hsp hcp hI hpt
    go_wp2_with fail
    refine hdf.mono ?_
    rintro e w8 ⟨rfl, hO8, hx8⟩
    have hstep : jY (t + m) qs (k + 1) _ := jY.step (x := (poAt rs k).x) (c := (poAt rs k).c) hHs.out hkr
    have hsift : dW w1.heap.size wr w8 ∧ dP w8 w1.heap.size (.slice (some ⟨g, 0, none⟩) qs.length capq) rs ∧ dR (w8.setCell ⟨g, k * 9 + 8, none⟩ (.slice (poAt rs k).x (iQ (t + m) (poAt rs k).ls).length (poAt rs k).c)) w1.heap.size (.slice (some ⟨g, 0, none⟩) qs.length capq) (rs.set k (aT (poAt rs k) (poAt rs k).x (iQ (t + m) (poAt rs k).ls).length (poAt rs k).c (iQ (t + m) (poAt rs k).ls))) (rs.set k (aT (poAt rs k) (poAt rs k).x (iQ (t + m) (poAt rs k).ls).length (poAt rs k).c (iQ (t + m) (poAt rs k).ls))).length := hOBr.sifted hkr hs7 hO8 hx8
    obtain ⟨hK8, hr8, hOB8⟩ := hsift
    obtain ⟨d8, f8⟩ := hr8.cell8 k hkr
    obtain ⟨hbg, cur8, hg8⟩ := hr8.block
    have hK9 : dW w1.heap.size wr (w8.setCell ⟨g, k * 9 + 8, none⟩ (.slice (poAt rs k).x (iQ (t + m) (poAt rs k).ls).length (poAt rs k).c)) := hK8.trans (dW.of_grown (aH _ _ _ _) hbg (Nat.le_trans hs7 hK8.size) hg8 (.inl rfl))
    have hI9 : C8 w (w8.setCell ⟨g, k * 9 + 8, none⟩ (.slice (poAt rs k).x (iQ (t + m) (poAt rs k).ls).length (poAt rs k).c)) t (t + m) (.slice x n c) w1.heap.size w5.heap.size (some ⟨g, 0, none⟩) capq qs (k + 1) :=
     ⟨hlt, hT7.kept hK9 hT1.below.size, hK9.box _ _ _ hnx (by decide) (by decide), Nat.le_trans hs7 hK9.size, _, hOB8, hstep⟩
    clear c8 m0 m1 hdf hO8 hx8 hOB8 hstep hK8 hr8
    go_wp2
    go_roundw
    case rel => exact ⟨k + 1, by go_num, hI9⟩
    case measure => simp [intOf]; omega
   ·have hne : ¬ (k : Int) < qs.length := by omega
    have hkq : Hid (k = qs.length) := by unfold Hid; omega
    obtain ⟨s0, s1⟩ := aR hT7.hs rfl rfl
    obtain ⟨zs0, zs1⟩ := cA hT7.hs
    have hp2 : Hid (jY (t + m) qs qs.length rs) := by
     have := hpt
     rw [hkq.out] at this
     exact this
    clear hpt hI
    go_wp2
    refine bodyPost_ret (v := .tuple #[.agg #[.int .i64 (t + m), .slice xq qs.length capq], .int .i64 0]) (by simp [results, Tryz.results46, go_sem, s0, s1]) rfl ?_
    have hfin := (hT7.below.setCell (p := ⟨w.heap.size + 1, 0, none⟩) (zA) (.int .i64 (t + m))).setCell (p := ⟨w.heap.size + 1, 1, none⟩) (zA) (.slice xq qs.length capq)
    have hob := ((hOBr.put (o := 0) (u := .int .i64 (t + m)) hsz1).put (o := 1) (u := .slice xq qs.length capq) hsz1).low hT1.below.size
    exact ⟨_, _, t + m, by rw [hE0.out], hfin, hob, fun h => absurd hE0.out h, fun _ => ⟨rfl, qs, hs, hp2.out⟩⟩
 ·have hne : Hid (qL t ps m = aV t ps ∧ aV t ps ≠ 0) := ⟨if_pos hc0, hc0⟩
  go_wp2_with fail
  refine hck.mono ?_
  rintro e w1 ⟨rfl, hb1⟩
  have hT1 := hT0.later hb1
  clear b0 b1 s0 s1 zs0 zs1 hck hb1
  obtain ⟨b0, b1⟩ := aR hT1.hb rfl rfl
  obtain ⟨s0, s1⟩ := aR hT1.hs rfl rfl
  obtain ⟨zs0, zs1⟩ := cA hT1.hs
  go_wp2
  refine bodyPost_ret (v := .tuple #[.agg #[.int .i64 0, .slice none 0 0], .int .i64 (aV t ps)]) (by simp [results, Tryz.results46, go_sem, s0, s1]) rfl ?_
  exact gF.err hne.out ((hT1.below.setCell (p := ⟨w.heap.size + 1, 0, none⟩) (zA) _).setCell (p := ⟨w.heap.size + 1, 1, none⟩) (zA) _)
open Go.RowKit
def E0 (P : Program) (md : Region.Mode) (ops : Array Oper) (C : World → Prop) (n : Nat) (L : Array Bool → Act → Prop) : Nat → Array Bool → Act → Prop
 | 0, listed, a => L listed a
 | f + 1, listed, a => Region.ready md ops listed ≠ [] ∧ ∀ i ∈ Region.ready md ops listed, i < n ∧ qOp P ops C i (E0 P md ops C n L f (listed.setIfInBounds i true)) a
theorem E1 {md : Region.Mode} {L : Array Bool → Act → Prop} (hL : ∀ listed a w, C w → L listed a → wpAny P md ops Q g listed a w) (f : Nat) :
  ∀ (listed : Array Bool) (a : Act) (w : World), C w → E0 P md ops C n L f listed a → wpAny P md ops Q (f + g) listed a w := by
 induction f with
 | zero => intro listed a w hw h; rw [Nat.zero_add]; exact hL _ _ _ hw h
 | succ f ih =>
  intro listed a w hw h
  rw [Nat.succ_add]
  refine ⟨fun h0 => absurd h0 h.1, fun i hi => ?_⟩
  exact wpOp_of_qOp hw (fun a' w' hw' h' => ih _ a' w' hw' h') (h.2 i hi).2
theorem E2 {md : Region.Mode} {L : Array Bool → Act → Prop} (hi : ops[i]? = some oi) (hsel : ∀ (j : Nat) (o : Oper) cs b, ops[j]? = some o → o.op ≠ .select cs b)
  (hs : Region.sinkB md ops n = true) (hc : Region.chainB md ops n = true) (hn : n < ops.size) (hin : i < n) (hL : ∀ listed a, L listed a → ∀ j ∈ Region.ready md ops listed, n ≤ j) (f : Nat) :
  ∀ (listed : Array Bool) (a : Act), HeadInv md ops n listed → (∀ j oj, ops[j]? = some oj → j ≠ i → listed.getD j true = false → (∀ e ∈ oj.after, Region.binds md e = true → e.on ≠ i) → oi.apart ops oj = true) →
   i ∈ Region.ready md ops listed → YieldsIn P ops C oi v a → E0 P md ops C n L f (listed.setIfInBounds i true) (a.put oi.dst v) → E0 P md ops C n L (f + 1) listed a := by
 induction f with
 | zero =>
  intro listed a inv hfree hr hy H
  refine ⟨List.ne_nil_of_mem hr, fun j hj => ?_⟩
  have hjn : j < n := Nat.lt_of_not_le fun h => tail_waits hs hc hn inv _ i rfl hin (mem_ready.1 hr).1 j h hj
  refine ⟨hjn, ?_⟩
  by_cases e : j = i
  ·subst e; exact hy.qOp hi H
  ·exact absurd (hL _ _ H j (ready_mono hj e)) (by omega)
 | succ f ih =>
  intro listed a inv hfree hr hy H
  refine ⟨List.ne_nil_of_mem hr, fun j hj => ?_⟩
  have hjn : j < n := Nat.lt_of_not_le fun h => tail_waits hs hc hn inv _ i rfl hin (mem_ready.1 hr).1 j h hj
  refine ⟨hjn, ?_⟩
  by_cases e : j = i
  ·subst e; exact hy.qOp hi H
  obtain ⟨hun, oj, hoj, hall⟩ := mem_ready.1 hj
  have hno : ∀ x ∈ oj.after, Region.binds md x = true → x.on ≠ i := fun x hx hb he => by
   have h1 := hall x hx hb
   rw [he, getD_both (mem_ready.1 hr).1] at h1
   cases h1
  have h2 := qOp_put hoj (hfree j oj hoj e hun hno) (fun cs b => hsel i oi cs b hi) (fun cs b => hsel j oj cs b hoj) hy (H.2 j (ready_mono hj e)).2
  refine qOp_mono (fun a' h3 => ih _ a' (inv.set hj hjn) (fun k ok hk hki hku => ?_) (ready_mono hr (Ne.symm e)) h3.1 ?_) h2
  ·refine hfree k ok hk hki ?_
   by_cases hjk : j = k
   ·subst hjk; exact hun
   ·rw [getD_set_ne true hjk] at hku; exact hku
  ·rw [Array.setIfInBounds_comm _ _ e]
   exact h3.2
theorem KS {md : Region.Mode} {K : Act → Prop} (hsel : Region.noSelect ops = true) (hs : Region.sinkB md ops n = true) (hc : Region.chainB md ops n = true) (hn : n < ops.size) (l : List Oper) :
  ∀ (k : Nat) (listed : Array Bool) (a : Act), (∀ j, j < l.length → l[j]? = ops[k + j]?) → k + l.length = n → HeadInv md ops n listed → Region.lexHead md ops g l.length k listed = true → wpQuiet P ops C K l a →
   E0 P md ops C n (fun listed' a' => Region.seqB md ops g n listed' = true ∧ K a') l.length listed a := by
 induction l with
 | nil =>
  intro k listed a _ hk _ hB h
  obtain rfl : k = n := by simpa using hk
  exact ⟨by simpa [Region.lexHead] using hB, h⟩
 | cons o l ih =>
  intro k listed a hl hk inv hB h
  have h0 : ops[k]? = some o := by simpa using (hl 0 (by simp)).symm
  simp only [List.length_cons, Region.lexHead, zH] at hB
  have hkn : k < n := by simp only [List.length_cons] at hk; omega
  have hr : k ∈ Region.ready md ops listed := by simpa using hB.1.1
  have hq : qOp P ops C k (wpQuiet P ops C K l) a := by unfold qOp; simp only [h0]; exact h
  obtain ⟨v, hy, hK⟩ := yieldsIn_of_qOp h0 hq
  refine E2 h0 (Region.noSelect_spec hsel) hs hc hn hkn (fun _ _ hL => seqB_ready hL.1) l.length listed a inv (Region.free_spec h0 hB.1.2) hr hy ?_
  exact ih (k + 1) _ _ (fun j hj => by have := hl (j + 1) (by simp; omega); simpa [Nat.add_assoc, Nat.add_comm 1 j] using this) (by simp only [List.length_cons] at hk; omega) (inv.set hr hkn) hB.2 hK
theorem jZ {id : Nat} {a : Act} {l : List Oper} (m n : Nat) (hm : P.follows .mixedOrders = true) (hB : Region.lexTailB .any l.toArray n = true)
  (h : wpQuiet P l.toArray (fun w' => ∃ u : Ws m w, w' = u.val) (fun a' => ∀ u : Ws m w, wpList P l.toArray Q (l.drop n) a' u.val) (l.take n) a) : (Code.region id l.toArray true).wp P Q a w := by
 simp only [Region.lexTailB, zH, decide_eq_true_eq] at hB
 obtain ⟨⟨⟨⟨hsel, hn⟩, hs⟩, hc⟩, hlex⟩ := hB
 have htl : (l.take n).length = n := by simp at hn ⊢; omega
 have hdl : (l.drop n).length = l.toArray.size - n := by simp
 have inv0 : HeadInv .any l.toArray n (Array.replicate l.toArray.size false) :=
  ⟨by simp, fun j oj _ hl => (by rw [getD_replicate_false] at hl; cases hl), fun t _ ht => getD_in (by simpa using ht) (getD_replicate_false _ _)⟩
 have H := KS (md := .any) (g := l.toArray.size - n) hsel hs hc hn (l.take n) 0 _ a (fun j hj => by rw [htl] at hj; simp [hj]) (by simpa using htl) inv0 (by rw [htl]; exact hlex) h
 refine wp_region_any hm ?_
 have h2 := E1 (Q := Q) (g := l.toArray.size - n) (C := fun w' => ∃ u : Ws m w, w' = u.val) (fun listed a' w' hw' hL => by
  obtain ⟨u, rfl⟩ := hw'
  have h3 := wpAny_of_seq (md := .any) (Q' := Q) (l.drop n) n listed a' u.val (fun j => by simp [List.getElem?_drop]) (by rw [hdl]; exact hL.1) (hL.2 u)
  rwa [hdl] at h3) _ _ _ _ ⟨⟨_, (Below.refl m w).drew⟩, rfl⟩ H
 rw [htl, show n + (l.toArray.size - n) = l.toArray.size by omega] at h2
 exact h2
end Go.Proofs.YtndpilfpejfloaaGreat
