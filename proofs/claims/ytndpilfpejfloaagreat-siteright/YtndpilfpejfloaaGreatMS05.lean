/- A part of the proof. -/
import Derived.Test.YtndpilfpejfloaaGreatMS04
set_option maxRecDepth 100000
set_option maxHeartbeats 3200000
namespace Go.Proofs.YtndpilfpejfloaaGreat
variable {qs ps rs : List Po} {i base n cap k q c c' d j : Nat} {W W' w w' : World} {g f : Nat → Bool} {m t up z E mn mx us co T a l ow t' : Int} {p : Po} {v : Value} {e : Le} {ls ls' : List Le} {x x' : Option Addr}
open Go.RowKit Go.Shelf
theorem oC (hi : i < qs.length) (j : Nat) : poAt (qs.take i ++ qs.drop (i + 1)) j = if j < i then poAt qs j else poAt qs (j + 1) := by
 unfold poAt
 rw [List.getD_eq_getElem?_getD, List.getD_eq_getElem?_getD, List.getD_eq_getElem?_getD]
 have hl : (qs.take i).length = i := by rw [List.length_take]; omega
 by_cases h1 : j < i
 ·rw [if_pos h1, List.getElem?_append_left (by omega), List.getElem?_take_of_lt h1]
 ·rw [if_neg h1, List.getElem?_append_right (by omega), hl, List.getElem?_drop, show i + 1 + (j - i) = j + 1 by omega]
theorem dN.del {g m : Nat} (h : dN W base (.slice (some ⟨g, 0, none⟩) n cap) qs qs.length) (hi : i < qs.length) (hg : W.grownBy W' (some g)) (hr : dL W' base (.slice (some ⟨g, 0, none⟩) m cap) (qs.take i ++ qs.drop (i + 1))) :
  dN W' base (.slice (some ⟨g, 0, none⟩) m cap) (qs.take i ++ qs.drop (i + 1)) (qs.take i ++ qs.drop (i + 1)).length := by
 have hl : (qs.take i ++ qs.drop (i + 1)).length + 1 = qs.length := by simp; omega
 obtain ⟨-, cur, hgc⟩ := h.row.block
 have hk : ∀ j, j < qs.length → cJ W' base (.slice (poAt qs j).x (poAt qs j).n (poAt qs j).c) (poAt qs j).ls := fun j hj => (h.own j hj).kept hg (fun k hk e => by subst e; exact (h.own j hj).ne hgc (by decide) hk)
 refine ⟨hr, fun j hj => ?_, fun j hj hj2 => by omega, fun j k hj hk hjk b hbj hbk => ?_⟩
 ·rw [oC hi]
  by_cases c1 : j < i
  ·rw [if_pos c1]; exact hk j (by omega)
  ·rw [if_neg c1]; exact hk (j + 1) (by omega)
 ·rw [oC hi] at hbj hbk
  by_cases c1 : j < i
  ·rw [if_pos c1] at hbj
   by_cases d1 : k < i
   ·rw [if_pos d1] at hbk; exact h.apart j k (by omega) (by omega) hjk b hbj hbk
   ·rw [if_neg d1] at hbk; exact h.apart j (k + 1) (by omega) (by omega) (by omega) b hbj hbk
  ·rw [if_neg c1] at hbj
   by_cases d1 : k < i
   ·rw [if_pos d1] at hbk; exact h.apart (j + 1) k (by omega) (by omega) (by omega) b hbj hbk
   ·rw [if_neg d1] at hbk; exact h.apart (j + 1) (k + 1) (by omega) (by omega) (by omega) b hbj hbk
theorem rC {id : Int} (h : aN ps id = i) : i < ps.length ∧ (poAt ps i).id = id ∧ ∀ j, j < i → (poAt ps j).id ≠ id := by
 unfold aN at h
 cases hf : ps.findIdx? (fun p => p.id == id) with
 | none => rw [hf] at h; simp only at h; omega
 | some k =>
  rw [hf] at h
  simp only at h
  obtain rfl : k = i := by omega
  rw [List.findIdx?_eq_some_iff_getElem] at hf
  obtain ⟨hi, h1, h2⟩ := hf
  refine ⟨hi, by rw [bC hi]; simpa using h1, fun j hj => ?_⟩
  have := h2 j hj
  rw [bC (by omega)]
  simpa using this
theorem gT {id : Int} (h : aN ps id < 0) : ∀ j, j < ps.length → (poAt ps j).id ≠ id := by
 intro j hj e
 unfold aN at h
 cases hf : ps.findIdx? (fun p => p.id == id) with
 | none =>
  rw [List.findIdx?_eq_none_iff] at hf
  have := hf _ (List.getElem_mem hj)
  rw [bC hj] at e
  simp [e] at this
 | some k => rw [hf] at h; simp only at h; omega
theorem AT (h : cT ps qs) (id : Int) : aN qs id = aN ps id := by
 by_cases h1 : aN ps id < 0
 ·have h2 := gT h1
  rw [rS (ps := ps) h2, rS]
  intro j hj
  rw [← h.1] at hj
  rw [← (h.2 j hj).1]
  exact h2 j hj
 ·obtain ⟨i, hi, hat, -⟩ := aR h1
  obtain ⟨-, h3, h4⟩ := rC hat
  rw [hat]
  refine nQ (by rw [← h.1]; exact hi) (by rw [← (h.2 i hi).1]; exact h3) (fun j hj => ?_)
  rw [← (h.2 j (by omega)).1]
  exact h4 j hj
theorem SQ (h : lO ps.length ps = true) (i : Nat) (hi : i < ps.length) : 1 ≤ (poAt ps i).id ∧ (poAt ps i).id ≤ 65536 := by
 unfold lO at h
 simp only [Bool.and_eq_true, Bool.not_eq_true'] at h
 have h2 := h.2
 by_cases hw : dH (poAt ps i).id 1 65536 = true
 ·unfold dH at hw; simpa using hw
 ·have := aT (n := ps.length) (f := fun i => !dH (poAt ps i).id 1 65536) hi (by simpa using hw)
  rw [this] at h2
  cases h2
theorem SR (h : aS t ps = 0) (hi : i < ps.length) (hk : aN ps (poAt ps i).up = k) : ∃ j : Nat, j < (poAt ps k).n ∧ bM (poAt ps k).n (fN (poAt ps k).ls (poAt ps i).id) = j := by
 obtain ⟨-, -, hids, -, hp⟩ := gS h
 obtain ⟨-, -, hup, -⟩ := eB (hp i hi)
 obtain ⟨hkl, hkid, -⟩ := rC hk
 have hu : (poAt ps i).up ≠ 0 := by have := SQ hids k hkl; omega
 obtain ⟨f, hf⟩ : ∃ f, ps.length = f + 1 := ⟨ps.length - 1, by omega⟩
 rw [hf] at hup
 unfold lH at hup
 rw [if_neg hu, hk, if_neg (by omega)] at hup
 simp only [Int.toNat_natCast] at hup
 split at hup
 ·rename_i ha
  obtain ⟨j, hj, h1, h2⟩ := xI ha
  exact ⟨j, hj, kS hj h1 h2⟩
 ·cases hup
theorem dL.cells9 {g : Nat} (h : dL w base (.slice (some ⟨g, 0, none⟩) n cap) ps) (i : Nat) (hi : i < ps.length) : w.cell? ⟨g, i * 9, none⟩ = some (.int .i64 (poAt ps i).id) ∧ w.cell? ⟨g, i * 9 + 1, none⟩ = some (.int .i64 (poAt ps i).up) ∧ w.cell? ⟨g, i * 9 + 2, none⟩ = some (.int .i64 (poAt ps i).a) ∧ w.cell? ⟨g, i * 9 + 3, none⟩ = some (.int .i64 (poAt ps i).l) ∧ w.cell? ⟨g, i * 9 + 4, none⟩ = some (.int .i64 (poAt ps i).mn) ∧ w.cell? ⟨g, i * 9 + 5, none⟩ = some (.int .i64 (poAt ps i).mx) ∧ w.cell? ⟨g, i * 9 + 6, none⟩ = some (.int .i64 (poAt ps i).us) ∧ w.cell? ⟨g, i * 9 + 7, none⟩ = some (.int .i64 (poAt ps i).co) ∧ w.cell? ⟨g, i * 9 + 8, none⟩ = some (.slice (poAt ps i).x (poAt ps i).n (poAt ps i).c) := by
 obtain ⟨xw, cw, he4, -, -, -, hm4⟩ := h.mem
 obtain ⟨b4, o4, he5, k0, k1, k2, k3, k4, k5, k6, k7, k8⟩ := hm4 i hi
 simp only [Value.slice.injEq] at he4
 rw [← he4.1] at he5
 simp only [Option.some.injEq, Addr.mk.injEq] at he5
 obtain ⟨rfl, rfl, -⟩ := he5
 simp only [Nat.zero_add] at k0 k1 k2 k3 k4 k5 k6 k7 k8
 exact ⟨k0, k1, k2, k3, k4, k5, k6, k7, k8⟩
def qG (ls : List Le) (i : Nat) : Bool := !((aM ls i).kd == 3)
theorem GR (p : Le) (w : World) :
  Calls Tryz.prog 88 #[.agg #[.int .i64 p.a, .int .i64 p.l, .int .i64 p.kd, .int .i64 p.ow, .int .i64 p.un]] w fun e w' => e = .returned (.bool (!(p.kd == 3))) ∧ Below w.heap.size w w' := by
 go_enter Tryz.func88, Tryz.ntmps88
 go_wp2
 go_ret
 exact ⟨rfl, bl1 w _⟩
theorem EB (args : Array Value) (W : World) : (callFunc 88 args).run Tryz.prog W = .ok (.enter 88 args) W := by simp [go_sem]
theorem NF (n : Nat) (ls : List Le) (w : World) : qX 88 #[] n ls (qG ls) w := fun i _ W _ => GR (aM ls i) W
def gU (t : Int) (ps : List Po) (id : Int) : Int :=
 if aS t ps ≠ 0 then aS t ps else if aN ps id < 0 then 5 else if aK (poAt ps (aN ps id).toNat).n (qG (poAt ps (aN ps id).toNat).ls) = true then 9 else 0
def IK (t : Int) (ps : List Po) (i : Nat) (rs : List Po) : Prop :=
 ∃ qs, (aN ps (poAt ps i).up < 0 → cT ps qs) ∧ (∀ k : Nat, aN ps (poAt ps i).up = k → B7 ps k (bM (poAt ps k).n (fN (poAt ps k).ls (poAt ps i).id)).toNat t qs) ∧ rs = qs.take i ++ qs.drop (i + 1)
def oD (t : Int) (ps : List Po) (id : Int) (t' : Int) (rs : List Po) : Prop := t' = t ∧ IK t ps (aN ps id).toNat rs
def J0 (t : Int) (ps : List Po) (id : Int) (w : World) : Ending → World → Prop := fV (gU t ps id) (oD t ps id) w
theorem J1 (t : Int) (x : Option Addr) (n c : Nat) (ps : List Po) (id : Int) (w : World) (hk : Bk w x n c ps) :
  Calls Tryz.prog 45 #[.agg #[.int .i64 t, .slice x n c], .int .i64 id] w (J0 t ps id w) := by
 have hpl : Hid (ps.length = n) := hk.ps.len
 go_enter Tryz.func45, Tryz.ntmps45
 go_upto_region 1 with fail
 obtain ⟨w0, hw0⟩ : ∃ w0, w0 = (w.alloc (gE t (.slice x n c))).alloc (gE 0 (.slice none 0 0)) := ⟨_, rfl⟩
 rw [← hw0]
 have hT0 : TC w w0 t (.slice x n c) := by
  rw [hw0]
  exact ⟨aF _ (aC _ rfl), aC _ (by simp), cB w _ _⟩
 clear hw0
 obtain ⟨b0, b1⟩ := aO hT0.hb rfl rfl
 obtain ⟨s0, s1⟩ := aO hT0.hs rfl rfl
 obtain ⟨zs0, zs1⟩ := cH hT0.hs
 have hck := fC t x n c ps w0 (hk.later hT0.below)
 by_cases hc0 : aS t ps = 0
 ·rw [hc0] at hck
  obtain ⟨hn8, ⟨ht0, ht1⟩, -⟩ := gS hc0
  rw [hpl.out] at hn8
  have hE1 : Hid (gU t ps id = if aN ps id < 0 then 5 else if aK (poAt ps (aN ps id).toNat).n (qG (poAt ps (aN ps id).toNat).ls) = true then 9 else 0) := if_neg (c := aS t ps ≠ 0) (by simp [hc0])
  go_wp2_with fail
  refine hck.mono ?_
  rintro e w1 ⟨rfl, hb1⟩
  have hT1 := hT0.later hb1
  clear b0 b1 s0 s1 zs0 zs1 hb1 hck
  obtain ⟨b0, b1⟩ := aO hT1.hb rfl rfl
  obtain ⟨s0, s1⟩ := aO hT1.hs rfl rfl
  obtain ⟨zs0, zs1⟩ := cH hT1.hs
  have hpc := pplace_any t id x n c ps w1 (hk.later hT1.below).ps (by omega)
  by_cases hat : aN ps id < 0
  ·have hne : Hid (gU t ps id = 5 ∧ (5 : Int) ≠ 0) := ⟨hE1.out.trans (if_pos hat), by decide⟩
   go_wp2_with fail
   refine hpc.mono ?_
   rintro e w2 ⟨rfl, hb2⟩
   have hT2 := hT1.later hb2
   clear b0 b1 s0 s1 zs0 zs1 hb2 hE1
   obtain ⟨b0, b1⟩ := aO hT2.hb rfl rfl
   obtain ⟨s0, s1⟩ := aO hT2.hs rfl rfl
   obtain ⟨zs0, zs1⟩ := cH hT2.hs
   go_wp2
   refine bodyPost_ret (v := .tuple #[.agg #[.int .i64 0, .slice none 0 0], .int .i64 5]) (by simp [results, Tryz.results45, go_sem, s0, s1]) rfl ?_
   exact fV.err hne.out ((hT2.below.setCell (p := ⟨w.heap.size + 1, 0, none⟩) (Nat.le_add_right _ _) _).setCell (p := ⟨w.heap.size + 1, 1, none⟩) (Nat.le_add_right _ _) _)
  ·obtain ⟨i, hi, hati, hiid⟩ := aR hat
   have hin0 : Hid (i < ps.length) := hi
   rw [hpl.out] at hi
   have hto : (aN ps id).toNat = i := by rw [hati]; rfl
   have hR : Hid (∀ rs, IK t ps i rs → oD t ps id t rs) := fun rs h => ⟨rfl, by rw [hto]; exact h⟩
   have hE2 : Hid (gU t ps id = if aK (poAt ps i).n (qG (poAt ps i).ls) = true then 9 else 0) := by
    have h := hE1.out
    rw [if_neg hat, hto] at h
    exact h
   have hid : Hid ((poAt ps i).id = id) := hiid
   rw [hati] at hpc
   clear hat hati hto hE1 hiid
   go_wp2_with fail
   refine hpc.mono ?_
   rintro e w2 ⟨rfl, hb2⟩
   have hT2 := hT1.later hb2
   have hi0 : (0 : Int) ≤ i := by omega
   clear b0 b1 s0 s1 zs0 zs1 hb2 hpc
   obtain ⟨b0, b1⟩ := aO hT2.hb rfl rfl
   obtain ⟨s0, s1⟩ := aO hT2.hs rfl rfl
   obtain ⟨zs0, zs1⟩ := cH hT2.hs
   have hk2 := hk.later hT2.below
   obtain ⟨b, o, rfl, c0, c1, c2, c3, c4, c5, c6, c7, c8⟩ := hk2.ps.cells i hi
   obtain ⟨hlc, hlm, hLS⟩ := hk2.ps.leases i hi
   have hin : (i : Int) < n := by omega
   have hcf := qY 88 #[] (poAt ps i).x (poAt ps i).n (poAt ps i).c (poAt ps i).ls (qG (poAt ps i).ls) w2 hLS hlm (NF _ _ w2) EB
   cases hany : aK (poAt ps i).n (qG (poAt ps i).ls) with
   | true =>
    have hne : Hid (gU t ps id = 9 ∧ (9 : Int) ≠ 0) := ⟨hE2.out.trans (if_pos hany), by decide⟩
    rw [hany] at hcf
    clear hR hE2
    go_wp2_with fail
    refine hcf.mono ?_
    rintro e w3 ⟨rfl, hb3⟩
    have hT3 := hT2.later hb3
    clear b0 b1 s0 s1 zs0 zs1 hb3 c0 c1 c2 c3 c4 c5 c6 c7 c8
    obtain ⟨b0, b1⟩ := aO hT3.hb rfl rfl
    obtain ⟨s0, s1⟩ := aO hT3.hs rfl rfl
    obtain ⟨zs0, zs1⟩ := cH hT3.hs
    go_wp2
    refine bodyPost_ret (v := .tuple #[.agg #[.int .i64 0, .slice none 0 0], .int .i64 9]) (by simp [results, Tryz.results45, go_sem, s0, s1]) rfl ?_
    exact fV.err hne.out ((hT3.below.setCell (p := ⟨w.heap.size + 1, 0, none⟩) (Nat.le_add_right _ _) _).setCell (p := ⟨w.heap.size + 1, 1, none⟩) (Nat.le_add_right _ _) _)
   | false =>
    have hE0 : Hid (gU t ps id = 0) := hE2.out.trans (if_neg (by rw [hany]; decide))
    rw [hany] at hcf
    clear hE2
    go_wp2_with fail
    refine hcf.mono ?_
    rintro e w3 ⟨rfl, hb3⟩
    have hT3 := hT2.later hb3
    clear b0 b1 s0 s1 zs0 zs1 hb3 c0 c1 c2 c3 c4 c5 c6 c7 c8 hcf
    obtain ⟨b0, b1⟩ := aO hT3.hb rfl rfl
    obtain ⟨s0, s1⟩ := aO hT3.hs rfl rfl
    obtain ⟨zs0, zs1⟩ := cH hT3.hs
    go_wp2_with fail
    refine (dV t (some ⟨b, o, none⟩) n c ps w3 (hk.later hT3.below) (by omega)).mono ?_
    rintro e w5 ⟨v5, qs, rfl, hs, hOB, hb5⟩
    obtain ⟨k, hqk⟩ : ∃ k, qs.length = k + 1 := ⟨n - 1, by rw [← hs.1, hpl.out]; omega⟩
    have hkn : Hid (k + 1 = n) := by unfold Hid; rw [← hqk, ← hs.1, hpl.out]
    have hik : i ≤ k := by have := hkn.out; omega
    obtain ⟨xq, capq, hvq, hcap1, hcap2, -, hmq⟩ := hOB.row.mem
    rcases hOB.row.2 with ⟨-, h0⟩ | ⟨g, cap, cur, hv5, hg1, hg2, -⟩
    ·omega
    obtain ⟨bq, oq, hxq, -, hup, -, -, -, -, -, -, -⟩ := hmq i (by omega)
    rw [hv5] at hvq
    simp only [Value.slice.injEq] at hvq
    obtain ⟨hvx, -, hvc⟩ := hvq
    rw [← hvx] at hxq
    simp only [Option.some.injEq, Addr.mk.injEq] at hxq
    obtain ⟨rfl, rfl, -⟩ := hxq
    subst hvc
    rw [hqk] at hcap1
    clear hvx hmq
    rw [hqk] at hv5
    subst hv5
    clear b0 b1 s0 s1 zs0 zs1
    go_upto_region 10 with fail
    obtain ⟨w6, hw6⟩ : ∃ w6, w6 = w5.alloc (gE t (.slice (some ⟨g, 0, none⟩) (k + 1) cap)) := ⟨_, rfl⟩
    rw [← hw6]
    have hT6 : TC w w6 t (.slice (some ⟨b, o, none⟩) n c) := by rw [hw6]; exact (hT3.later hb5).later (bl1 _ _)
    have hn6 : w6.heap[w5.heap.size]? = some (gE t (.slice (some ⟨g, 0, none⟩) (k + 1) cap)) := by rw [hw6]; exact aC _ rfl
    have hOB6 : dN w6 w3.heap.size (.slice (some ⟨g, 0, none⟩) (k + 1) cap) qs qs.length := by
     rw [hw6]
     exact hOB.later (bl1 _ _)
    have hs6 : w3.heap.size ≤ w6.heap.size := by rw [hw6]; have := hb5.size; simp; omega
    have hup6 : w6.cell? ⟨g, i * 9 + 1, none⟩ = some (.int .i64 (poAt qs i).up) := by rw [hw6]; exact aE (bl1 _ _) (by simpa using hup)
    have hsz : w.heap.size + 1 < w3.heap.size := (Array.getElem?_eq_some_iff.1 hT3.hs).1
    have hnb : w.heap.size + 1 < w5.heap.size := by have := hb5.size; omega
    clear hw6 hOB hb5 hg2 hup
    have hsp := hs.2 i (by rw [hpl.out]; exact hi)
    rw [← hsp.2.1] at hup6
    have hik2 : (i : Int) < (k : Int) + 1 := by omega
    obtain ⟨m0, m1⟩ := aO hn6 rfl rfl
    obtain ⟨xq2, cq2, hvq2, hBk2⟩ := (hOB6.later (Below.refl _ _).drew).bk (fun j hj => by
     have hj2 : j < ps.length := by rw [hs.1]; exact hj
     have h1 := (hs.2 j hj2).2.2.2.2.2.2.2.2.1
     have h2 := (iO hc0 j hj2).1
     omega)
    simp only [Value.slice.injEq] at hvq2
    obtain ⟨rfl, -, rfl⟩ := hvq2
    have hk7 : k ≤ 7 := by have := hkn.out; omega
    have hpl2 := pplace_any t (poAt ps i).up (some ⟨g, 0, none⟩) qs.length cap qs w6.drew hBk2.ps (by omega)
    rw [AT hs, hqk] at hpl2
    obtain ⟨ua, hua⟩ : ∃ ua, Hid (ua = aN ps (poAt ps i).up) := ⟨_, rfl⟩
    rw [← hua.out] at hpl2
    go_cut [9] (fun s wc => s = .int .i64 ua ∧ Below w6.heap.size w6 wc)
    case first =>
     clear hBk2
     go_region_with (go_at_call 82; refine hpl2.mono ?_; rintro e w7 ⟨rfl, hb7⟩; have hB7 : Below w6.heap.size w6 w7 := ⟨hb7.os, hb7.tape, hb7.output, hb7.size, hb7.block⟩; have hup7 := aE hB7 hup6)
     all_goals go_wp2
     all_goals go_meet
     all_goals (case rel => exact ⟨rfl, hB7⟩)
    case rest =>
     obtain ⟨rfl, hB7⟩ := hcut
     have hT7 := hT6.later hB7
     have hOB7 := hOB6.later hB7
     have hn7 := aB hB7 hn6
     have hs7 : w3.heap.size ≤ wc.heap.size := Nat.le_trans hs6 hB7.size
     clear m0 m1 hpl2 hup6 hBk2 hB7 hT6 hOB6 hn6
     go_upto_if 41 with fail
     go_cut [9] (fun s wd => ∃ qq, Hid (oD t ps id t (qq.take i ++ qq.drop (i + 1))) ∧ qq.length = k + 1 ∧ dN wd w3.heap.size (.slice (some ⟨g, 0, none⟩) (k + 1) cap) qq qq.length ∧ TC w wd t (.slice (some ⟨b, o, none⟩) n c) ∧ wd.heap[w5.heap.size]? = some (gE t (.slice (some ⟨g, 0, none⟩) (k + 1) cap)) ∧ w3.heap.size ≤ wd.heap.size)
     case first =>
      by_cases hun : ua < 0
      ·have hR2 : Hid (oD t ps id t (qs.take i ++ qs.drop (i + 1))) := hR.out _ ⟨qs, fun _ => hs, fun k hk => by have := hua.out; omega, rfl⟩
       go_wp2
       go_meet
       case rel => exact ⟨qs, hR2, hqk, hOB7, hT7, hn7, hs7⟩
      ·obtain ⟨u, hul, hue, -⟩ := aR (ps := ps) (id := (poAt ps i).up) (by rw [← hua.out]; exact hun)
       obtain ⟨j, hj, hjf⟩ := SR hc0 hin0.out hue
       rw [hid.out] at hjf
       have hspu := hs.2 u hul
       have hR2 : Hid (∀ x' c', oD t ps id t ((qs.set u (aQ (poAt qs u) x' (cD (poAt qs u) j t).length c' (cD (poAt qs u) j t))).take i ++ (qs.set u (aQ (poAt qs u) x' (cD (poAt qs u) j t).length c' (cD (poAt qs u) j t))).drop (i + 1))) := fun x' c' => hR.out _ ⟨_, fun h => by omega, fun k hk => by
        have hku : k = u := by omega
        subst hku
        refine ⟨qs, x', c', hs, ?_⟩
        rw [hid.out, hjf, xS hspu]
        rfl, rfl⟩
       obtain rfl : ua = (u : Int) := hua.out.trans hue
       have hcpu := iO hc0 u hul
       have hspu2 := hspu
       obtain ⟨-, -, -, -, -, -, -, hqc, hqn, hqls⟩ := hspu2
       have huq : u < qs.length := by rw [← hs.1]; exact hul
       have huk : u < k + 1 := by rw [← hqk]; exact huq
       rw [hqn] at hj hjf
       rw [hqls] at hjf
       have hlf := fun W h => vA id (poAt qs u) W h (by omega)
       rw [hjf] at hlf
       have hLSu := (hOB7.own u huq).ls.1
       have hu0 : (0 : Int) ≤ u := by omega
       have hu1 : (u : Int) < (k : Int) + 1 := by omega
       have hj0 : (0 : Int) ≤ j := by omega
       clear hun hue hjf hspu hid hR hua
       obtain ⟨m0, m1⟩ := aO hn7 rfl rfl
       obtain ⟨r0, r1, r2, r3, r4, r5, r6, r7, r8⟩ := hOB7.row.cells9 u huq
       go_upto_region 12 with fail
       have g0 := Ws.here m0
       have g1 := Ws.here m1
       have q0 := Ws.here r0
       have q1 := Ws.here r1
       have q2 := Ws.here r2
       have q3 := Ws.here r3
       have q4 := Ws.here r4
       have q5 := Ws.here r5
       have q6 := Ws.here r6
       have q7 := Ws.here r7
       have q8 := Ws.here r8
       clear m0 m1 r0 r1 r2 r3 r4 r5 r6 r7 r8
       refine jY wc.heap.size 13 (by kernel_rfl) (by kernel_rfl) ?_
       simp only [List.take_succ_cons, List.take_zero, List.drop_succ_cons, List.drop_zero]
       repeat (go_big_quiet_step ((go_at_call 90; exact Calls.in_ws (Nat.le_refl _) (hlf _ (hLSu.later (Ws.property _))))))
       refine wpQuiet_nil ?_
       intro uu
       have hB8 := uu.property
       generalize uu.val = w8 at hB8 ⊢
       clear uu g0 g1 q0 q1 q2 q3 q4 q5 q6 q7 q8 hlf
       have hcool := D6 w3.heap.size g (k + 1) cap qs u j t w8 (hOB7.later hB8) huq hj (by omega) (Nat.le_trans hs7 hB8.size) ht0 ht1 (by omega) (by omega)
       go_wp2_with fail
       refine hcool.mono ?_
       rintro e w9' ⟨rfl, x', c', hOB9', hK9'⟩
       have hKu : dS w3.heap.size wc w9' := (dS.of_below hB8 hs7).trans hK9'
       go_wp2
       go_meet
       case rel => exact ⟨_, hR2.out x' c', by rw [List.length_set]; exact hqk, hOB9', hT7.kept hKu hT3.below.size, hKu.box _ _ _ hn7 (by decide) (by decide), Nat.le_trans hs7 hKu.size⟩
     case rest =>
      obtain ⟨qq, hR3, hqqL, hOBq, hTq, hnW, hsq⟩ := hcut
      have m1 := aU hnW 1 rfl
      have hdel := D4 w3.heap.size g k cap i (i + 1) qq wc hOBq.row hqqL hik rfl (by omega) hcap1 hcap2
      rw [show ((i + 1 : Nat) : Int) = (i : Int) + 1 by omega] at hdel
      go_wp2_with fail
      refine hdel.mono ?_
      rintro e w8 ⟨rfl, hO8, hg8⟩
      have hOB8 := hOBq.del (by rw [hqqL]; omega) hg8 hO8
      obtain ⟨hbg, curg, hgc⟩ := hOBq.row.block
      have hK8 : dS w3.heap.size wc w8 := dS.of_grown hg8 hbg hsq hgc (.inl rfl)
      have hT8 := hTq.kept hK8 hT3.below.size
      have hn8 := hK8.box _ _ _ hnW (by decide) (by decide)
      clear m1 hdel hO8
      have q0 := aU hn8 0 rfl
      have q1 := aU hn8 1 rfl
      have zq1 := (aA hn8).2 1
      go_upto_region 14 with fail
      obtain ⟨w9, hw9⟩ : ∃ w9, w9 = w8.setCell ⟨w5.heap.size, 1, none⟩ (.slice (some ⟨g, 0, none⟩) k cap) := ⟨_, rfl⟩
      rw [← hw9]
      have hT9 : TC w w9 t (.slice (some ⟨b, o, none⟩) n c) := by rw [hw9]; exact hT8.put hnb
      have hn9 : w9.heap[w5.heap.size]? = some (gE t (.slice (some ⟨g, 0, none⟩) k cap)) := by
       rw [hw9]
       have := heap_setCell_same w8 w5.heap.size 1 _ _ (.slice (some ⟨g, 0, none⟩) k cap) hn8
       simpa [gE] using this
      have hOB9 : dN w9 w3.heap.size (.slice (some ⟨g, 0, none⟩) k cap) (qq.take i ++ qq.drop (i + 1)) (qq.take i ++ qq.drop (i + 1)).length := by rw [hw9]; exact hOB8.putBox hn8 (by decide) (by decide)
      clear hw9 q0 q1 zq1 hOB8 hT8 hn8
      obtain ⟨q0, q1⟩ := aO hn9 rfl rfl
      obtain ⟨s0, s1⟩ := aO hT9.hs rfl rfl
      obtain ⟨zs0, zs1⟩ := cH hT9.hs
      go_wp2
      refine bodyPost_ret (v := .tuple #[.agg #[.int .i64 t, .slice (some ⟨g, 0, none⟩) k cap], .int .i64 0]) (by simp [results, Tryz.results45, go_sem, s0, s1]) rfl ?_
      have hfin := (hT9.below.setCell (p := ⟨w.heap.size + 1, 0, none⟩) (Nat.le_add_right _ _) (.int .i64 t)).setCell (p := ⟨w.heap.size + 1, 1, none⟩) (Nat.le_add_right _ _) (.slice (some ⟨g, 0, none⟩) k cap)
      have hob := ((hOB9.put (o := 0) (u := .int .i64 t) hsz).put (o := 1) (u := .slice (some ⟨g, 0, none⟩) k cap) hsz).low hT3.below.size
      exact ⟨_, _, t, by rw [hE0.out], hfin, hob, fun h => absurd hE0.out h, fun _ => hR3.out⟩
 ·have hne : Hid (gU t ps id = aS t ps ∧ aS t ps ≠ 0) := ⟨if_pos hc0, hc0⟩
  go_wp2_with fail
  refine hck.mono ?_
  rintro e w1 ⟨rfl, hb1⟩
  have hT1 := hT0.later hb1
  clear b0 b1 s0 s1 zs0 zs1 hck hb1
  obtain ⟨b0, b1⟩ := aO hT1.hb rfl rfl
  obtain ⟨s0, s1⟩ := aO hT1.hs rfl rfl
  obtain ⟨zs0, zs1⟩ := cH hT1.hs
  go_wp2
  refine bodyPost_ret (v := .tuple #[.agg #[.int .i64 0, .slice none 0 0], .int .i64 (aS t ps)]) (by simp [results, Tryz.results45, go_sem, s0, s1]) rfl ?_
  exact fV.err hne.out ((hT1.below.setCell (p := ⟨w.heap.size + 1, 0, none⟩) (Nat.le_add_right _ _) _).setCell (p := ⟨w.heap.size + 1, 1, none⟩) (Nat.le_add_right _ _) _)
def bW (t : Int) (ps : List Po) (id up z : Int) : Int :=
 if aS t ps ≠ 0 then aS t ps else if dH id 1 65536 = false then 3 else if aN ps up < 0 then 5 else if 0 ≤ aN ps id then 6 else eJ (poAt ps (aN ps up).toNat) z
def fW (t : Int) (ps : List Po) (id up z : Int) : Int × Int :=
 if bW t ps id up z ≠ 0 then (0, 0) else eK (poAt ps (aN ps up).toNat) z
def fJ (t : Int) (ps : List Po) (id up z : Int) (w : World) (r : Ending) (w' : World) : Prop :=
 r = .returned (.tuple #[.agg #[.int .i64 (fW t ps id up z).1, .int .i64 (fW t ps id up z).2], .int .i64 (bW t ps id up z)]) ∧ Below w.heap.size w w'
theorem fJ.err {id : Int} (hE : bW t ps id up z = E ∧ E ≠ 0) (hb : Below w.heap.size w w') :
  fJ t ps id up z w (.returned (.tuple #[.agg #[.int .i64 0, .int .i64 0], .int .i64 E])) w' := by
 refine ⟨?_, hb⟩
 have h : fW t ps id up z = (0, 0) := if_pos (by rw [hE.1]; exact hE.2)
 rw [h, hE.1]
theorem J2 (h : eJ p z ≠ 0) : eK p z = (0, 0) := by
 unfold eJ at h
 unfold eK
 by_cases h1 : z < p.mn ∨ p.mx < z
 ·rw [if_pos h1]
 ·rw [if_neg h1] at h ⊢
  cases hq : nZ p z with
  | none => rfl
  | some y => rw [hq] at h; exact absurd rfl h
structure TR (w W : World) (t : Int) (v : Value) : Prop where
 hb : W.heap[w.heap.size]? = some (gE t v)
 hr : W.heap[w.heap.size + 1]? = some (.cells #[.int .i64 0, .int .i64 0] 49)
 below : Below w.heap.size w W
theorem TR.later (h : TR w W t v) (hb : Below W.heap.size W W') : TR w W' t v :=
 ⟨aB hb h.hb, aB hb h.hr, h.below.trans (hb.mono h.below.size)⟩
theorem B9 (t : Int) (x : Option Addr) (n c : Nat) (ps : List Po) (id up z : Int) (w : World) (hk : Bk w x n c ps) :
  Calls Tryz.prog 85 #[.agg #[.int .i64 t, .slice x n c], .int .i64 id, .int .i64 up, .int .i64 z] w (fJ t ps id up z w) := by
 have hpl : Hid (ps.length = n) := hk.ps.len
 go_enter Tryz.func85, Tryz.ntmps85
 go_upto_region 1 with fail
 obtain ⟨w0, hw0⟩ : ∃ w0, w0 = (w.alloc (gE t (.slice x n c))).alloc (.cells #[.int .i64 0, .int .i64 0] 49) := ⟨_, rfl⟩
 rw [← hw0]
 have hT0 : TR w w0 t (.slice x n c) := by
  rw [hw0]
  exact ⟨aF _ (aC _ rfl), aC _ (by simp), cB w _ _⟩
 clear hw0
 obtain ⟨b0, b1⟩ := aO hT0.hb rfl rfl
 obtain ⟨r0, r1⟩ := aO hT0.hr rfl rfl
 obtain ⟨zr0, zr1⟩ := cH hT0.hr
 have hck := fC t x n c ps w0 (hk.later hT0.below)
 by_cases hc0 : aS t ps = 0
 ·rw [hc0] at hck
  obtain ⟨hn8, -, -⟩ := gS hc0
  rw [hpl.out] at hn8
  have hE1 : Hid (bW t ps id up z = if dH id 1 65536 = false then 3 else if aN ps up < 0 then 5 else if 0 ≤ aN ps id then 6 else eJ (poAt ps (aN ps up).toNat) z) := if_neg (c := aS t ps ≠ 0) (by simp [hc0])
  go_wp2_with fail
  refine (hck).mono ?_
  rintro e w1 ⟨rfl, hb_⟩
  have hT1 := hT0.later hb_
  clear b0 b1 r0 r1 zr0 zr1 hb_ 
  obtain ⟨b0, b1⟩ := aO hT1.hb rfl rfl
  obtain ⟨r0, r1⟩ := aO hT1.hr rfl rfl
  obtain ⟨zr0, zr1⟩ := cH hT1.hr
  have hpc := pplace_any t up x n c ps w1 (hk.later hT1.below).ps (by omega)
  obtain ⟨ua, hua⟩ : ∃ ua, Hid (ua = aN ps up) := ⟨_, rfl⟩
  rw [← hua.out] at hpc
  go_wp2_with fail
  refine (hpc).mono ?_
  rintro e w2 ⟨rfl, hb_⟩
  have hT2 := hT1.later hb_
  clear b0 b1 r0 r1 zr0 zr1 hb_ 
  obtain ⟨b0, b1⟩ := aO hT2.hb rfl rfl
  obtain ⟨r0, r1⟩ := aO hT2.hr rfl rfl
  obtain ⟨zr0, zr1⟩ := cH hT2.hr
  cases hid : dH id 1 65536 with
  | false =>
   have hne : Hid (bW t ps id up z = 3 ∧ (3 : Int) ≠ 0) := ⟨hE1.out.trans (if_pos hid), by decide⟩
   clear hE1
   go_wp2_with fail
   refine (isId_is id false hid _).mono ?_
   rintro e w2 ⟨rfl, rfl⟩
   go_wp2
   refine bodyPost_ret (v := .tuple #[.agg #[.int .i64 0, .int .i64 0], .int .i64 3]) (by simp [results, Tryz.results85, go_sem, r0, r1]) rfl ?_
   exact fJ.err hne.out ((hT2.below.setCell (p := ⟨w.heap.size + 1, 0, none⟩) (Nat.le_add_right _ _) _).setCell (p := ⟨w.heap.size + 1, 1, none⟩) (Nat.le_add_right _ _) _)
  | true =>
   have hE2 : Hid (bW t ps id up z = if aN ps up < 0 then 5 else if 0 ≤ aN ps id then 6 else eJ (poAt ps (aN ps up).toNat) z) := hE1.out.trans (if_neg (by rw [hid]; decide))
   clear hE1
   by_cases hun : ua < 0
   ·have hne : Hid (bW t ps id up z = 5 ∧ (5 : Int) ≠ 0) := ⟨hE2.out.trans (if_pos (by rw [← hua.out]; exact hun)), by decide⟩
    clear hE2
    go_wp2_with fail
    refine (isId_is id true hid _).mono ?_
    rintro e w2 ⟨rfl, rfl⟩
    go_wp2
    refine bodyPost_ret (v := .tuple #[.agg #[.int .i64 0, .int .i64 0], .int .i64 5]) (by simp [results, Tryz.results85, go_sem, r0, r1]) rfl ?_
    exact fJ.err hne.out ((hT2.below.setCell (p := ⟨w.heap.size + 1, 0, none⟩) (Nat.le_add_right _ _) _).setCell (p := ⟨w.heap.size + 1, 1, none⟩) (Nat.le_add_right _ _) _)
   ·obtain ⟨i, hi, hie, -⟩ := aR (ps := ps) (id := up) (by rw [← hua.out]; exact hun)
    obtain rfl : ua = (i : Int) := hua.out.trans hie
    rw [hpl.out] at hi
    have hto : (aN ps up).toNat = i := by rw [hie]; rfl
    have hE3 : Hid (bW t ps id up z = if 0 ≤ aN ps id then 6 else eJ (poAt ps i) z) := by
     have h := hE2.out
     rw [if_neg (by rw [hie]; omega), hto] at h
     exact h
    have hO3 : Hid (bW t ps id up z = 0 → fW t ps id up z = eK (poAt ps i) z) := fun h => by
     unfold fW
     rw [if_neg (by rw [h]; decide), hto]
    have hi0 : (0 : Int) ≤ i := by omega
    have hin : (i : Int) < n := by omega
    clear hE2 hto hie hua hun
    have hpc2 := pplace_any t id x n c ps w2 (hk.later hT2.below).ps (by omega)
    by_cases hia : 0 ≤ aN ps id
    ·have hne : Hid (bW t ps id up z = 6 ∧ (6 : Int) ≠ 0) := ⟨hE3.out.trans (if_pos hia), by decide⟩
     clear hE3 hO3
     go_wp2_with fail
     refine (isId_is id true hid _).mono ?_
     rintro e w2 ⟨rfl, rfl⟩
     go_wp2_with fail
     refine (hpc2).mono ?_
     rintro e w3 ⟨rfl, hb_⟩
     have hT3 := hT2.later hb_
     clear b0 b1 r0 r1 zr0 zr1 hb_ 
     obtain ⟨b0, b1⟩ := aO hT3.hb rfl rfl
     obtain ⟨r0, r1⟩ := aO hT3.hr rfl rfl
     obtain ⟨zr0, zr1⟩ := cH hT3.hr
     go_wp2
     refine bodyPost_ret (v := .tuple #[.agg #[.int .i64 0, .int .i64 0], .int .i64 6]) (by simp [results, Tryz.results85, go_sem, r0, r1]) rfl ?_
     exact fJ.err hne.out ((hT3.below.setCell (p := ⟨w.heap.size + 1, 0, none⟩) (Nat.le_add_right _ _) _).setCell (p := ⟨w.heap.size + 1, 1, none⟩) (Nat.le_add_right _ _) _)
    ·have hE4 : Hid (bW t ps id up z = eJ (poAt ps i) z) := hE3.out.trans (if_neg hia)
     clear hE3
     have hia2 : aN ps id < 0 := by omega
     go_wp2_with fail
     refine (isId_is id true hid _).mono ?_
     rintro e w2 ⟨rfl, rfl⟩
     go_wp2_with fail
     refine (hpc2).mono ?_
     rintro e w3 ⟨rfl, hb_⟩
     have hT3 := hT2.later hb_
     clear b0 b1 r0 r1 zr0 zr1 hb_ 
     obtain ⟨b0, b1⟩ := aO hT3.hb rfl rfl
     obtain ⟨r0, r1⟩ := aO hT3.hr rfl rfl
     obtain ⟨zr0, zr1⟩ := cH hT3.hr
     have hk3 := hk.later hT3.below
     obtain ⟨b, o, rfl, c0, c1, c2, c3, c4, c5, c6, c7, c8⟩ := hk3.ps.cells i hi
     obtain ⟨hlc, hlm, hLS⟩ := hk3.ps.leases i hi
     have hpf := DX (poAt ps i) z w3 hLS hlm
     unfold xO at hpf
     obtain ⟨pA, hpA⟩ : ∃ pA, Hid (pA = (eK (poAt ps i) z).1) := ⟨_, rfl⟩
     obtain ⟨pL, hpL⟩ : ∃ pL, Hid (pL = (eK (poAt ps i) z).2) := ⟨_, rfl⟩
     obtain ⟨pE, hpE⟩ : ∃ pE, Hid (pE = eJ (poAt ps i) z) := ⟨_, rfl⟩
     rw [← hpA.out, ← hpL.out, ← hpE.out] at hpf
     go_wp2_with fail
     refine hpf.mono ?_
     rintro e w4 ⟨rfl, hb4⟩
     have hT4 := hT3.later hb4
     clear b0 b1 r0 r1 zr0 zr1 hb4 c0 c1 c2 c3 c4 c5 c6 c7 c8 hpf
     obtain ⟨b0, b1⟩ := aO hT4.hb rfl rfl
     obtain ⟨r0, r1⟩ := aO hT4.hr rfl rfl
     obtain ⟨zr0, zr1⟩ := cH hT4.hr
     go_wp2
     refine bodyPost_ret (v := .tuple #[.agg #[.int .i64 pA, .int .i64 pL], .int .i64 pE]) (by simp [results, Tryz.results85, go_sem, r0, r1]) rfl ?_
     refine ⟨?_, ((hT4.below.setCell (p := ⟨w.heap.size + 1, 0, none⟩) (Nat.le_add_right _ _) _).setCell (p := ⟨w.heap.size + 1, 1, none⟩) (Nat.le_add_right _ _) _)⟩
     have hEE : bW t ps id up z = pE := hE4.out.trans hpE.out.symm
     have hOO : fW t ps id up z = (pA, pL) := by
      by_cases h0 : bW t ps id up z = 0
      ·rw [hO3.out h0, hpA.out, hpL.out]
      ·have h1 : fW t ps id up z = (0, 0) := if_pos h0
       have h2 := J2 (p := poAt ps i) (z := z) (by rw [← hE4.out]; exact h0)
       rw [h1, hpA.out, hpL.out, h2]
     rw [hOO, hEE]
 ·have hne : Hid (bW t ps id up z = aS t ps ∧ aS t ps ≠ 0) := ⟨if_pos hc0, hc0⟩
  go_wp2_with fail
  refine (hck).mono ?_
  rintro e w1 ⟨rfl, hb_⟩
  have hT1 := hT0.later hb_
  clear b0 b1 r0 r1 zr0 zr1 hb_ 
  obtain ⟨b0, b1⟩ := aO hT1.hb rfl rfl
  obtain ⟨r0, r1⟩ := aO hT1.hr rfl rfl
  obtain ⟨zr0, zr1⟩ := cH hT1.hr
  go_wp2
  refine bodyPost_ret (v := .tuple #[.agg #[.int .i64 0, .int .i64 0], .int .i64 (aS t ps)]) (by simp [results, Tryz.results85, go_sem, r0, r1]) rfl ?_
  exact fJ.err hne.out ((hT1.below.setCell (p := ⟨w.heap.size + 1, 0, none⟩) (Nat.le_add_right _ _) _).setCell (p := ⟨w.heap.size + 1, 1, none⟩) (Nat.le_add_right _ _) _)
def kU (t : Int) (ps : List Po) (id up z mn mx us co : Int) : Int :=
 if bW t ps id up z ≠ 0 then bW t ps id up z else nF ps (fW t ps id up z).2 mn mx us co
def tX (ps : List Po) (e : Po) (up : Int) (rs : List Po) : Prop :=
 ∃ qs ms x' c' ls', cT ps qs ∧ jB e qs ms ∧ iM ⟨e.a, e.l, 2, e.id, 0⟩ (poAt ms (aN ms up).toNat).ls ls' ∧ rs = ms.set (aN ms up).toNat (aQ (poAt ms (aN ms up).toNat) x' ls'.length c' ls')
def oE (t : Int) (ps : List Po) (id up z mn mx us co : Int) (w : World) (r : Ending) (w' : World) : Prop :=
 ∃ v rs t' a l, r = .returned (.tuple #[.agg #[.int .i64 t', v], .agg #[.int .i64 a, .int .i64 l], .int .i64 (kU t ps id up z mn mx us co)]) ∧ Below w.heap.size w w' ∧ dN w' w.heap.size v rs rs.length ∧
  (kU t ps id up z mn mx us co ≠ 0 → t' = 0 ∧ rs = [] ∧ a = 0 ∧ l = 0) ∧
  (kU t ps id up z mn mx us co = 0 → t' = t ∧ (a, l) = fW t ps id up z ∧ tX ps ⟨id, up, a, l, mn, mx, us, co, none, 0, 0, []⟩ up rs)
theorem oE.err {id : Int} (hE : kU t ps id up z mn mx us co = E ∧ E ≠ 0) (hb : Below w.heap.size w w') :
  oE t ps id up z mn mx us co w (.returned (.tuple #[.agg #[.int .i64 0, .slice none 0 0], .agg #[.int .i64 0, .int .i64 0], .int .i64 E])) w' :=
 ⟨_, [], 0, 0, 0, by rw [hE.1], hb, dN.nil _ _, fun _ => ⟨rfl, rfl, rfl, rfl⟩, fun h => absurd (hE.1.symm.trans h) hE.2⟩
structure L3 (w W : World) (t mn mx us co : Int) (v : Value) : Prop where
 hb : W.heap[w.heap.size]? = some (gE t v)
 hu : W.heap[w.heap.size + 1]? = some (.cells #[.int .i64 mn, .int .i64 mx, .int .i64 us, .int .i64 co] 56)
 hs : W.heap[w.heap.size + 2]? = some (gE 0 (.slice none 0 0))
 hr : W.heap[w.heap.size + 3]? = some (.cells #[.int .i64 0, .int .i64 0] 49)
 below : Below w.heap.size w W
theorem L3.later (h : L3 w W t mn mx us co v) (hb : Below W.heap.size W W') : L3 w W' t mn mx us co v :=
 ⟨aB hb h.hb, aB hb h.hu, aB hb h.hs, aB hb h.hr, h.below.trans (hb.mono h.below.size)⟩
theorem L3.kept (h : L3 w W t mn mx us co v) (hk : dS base W W') (hb : w.heap.size ≤ base) : L3 w W' t mn mx us co v :=
 ⟨hk.box _ _ _ h.hb (by decide) (by decide), hk.box _ _ _ h.hu (by decide) (by decide), hk.box _ _ _ h.hs (by decide) (by decide), hk.box _ _ _ h.hr (by decide) (by decide), h.below.trans (hk.below.mono hb)⟩
theorem L3.fin (h : L3 w W t mn mx us co v) (a b c d : Value) : Below w.heap.size w ((((W.setCell ⟨w.heap.size + 2, 0, none⟩ a).setCell ⟨w.heap.size + 2, 1, none⟩ b).setCell ⟨w.heap.size + 3, 0, none⟩ c).setCell ⟨w.heap.size + 3, 1, none⟩ d) :=
 (((h.below.setCell (p := ⟨w.heap.size + 2, 0, none⟩) (Nat.le_add_right _ _) _).setCell (p := ⟨w.heap.size + 2, 1, none⟩) (Nat.le_add_right _ _) _).setCell (p := ⟨w.heap.size + 3, 0, none⟩) (Nat.le_add_right _ _) _).setCell (p := ⟨w.heap.size + 3, 1, none⟩) (Nat.le_add_right _ _) _
theorem jB.len {e : Po} (h : jB e qs rs) : rs.length = qs.length + 1 := by
 obtain ⟨i, hi, -, -, rfl⟩ := h
 simp
 omega
theorem jB.all {e : Po} {p : Po → Prop} (h : jB e qs rs) (he : p e) (hq : ∀ j, j < qs.length → p (poAt qs j)) : ∀ j, j < rs.length → p (poAt rs j) := by
 intro j hj
 have hl := h.len
 obtain ⟨i, hi, -, -, rfl⟩ := h
 rw [oA hi]
 by_cases c1 : j < i
 ·rw [if_pos c1]; exact hq j (by omega)
 ·rw [if_neg c1]
  by_cases c2 : j = i
  ·rw [if_pos c2]; exact he
  ·rw [if_neg c2]; exact hq (j - 1) (by omega)
theorem jB.has {e : Po} (h : jB e qs rs) (hq : ¬ aN qs up < 0) : ∃ k : Nat, k < rs.length ∧ aN rs up = k := by
 have hl := h.len
 obtain ⟨q, hq1, -, hq3⟩ := aR hq
 by_cases hn : aN rs up < 0
 ·have h2 := gT hn
  obtain ⟨i, hi, -, -, rfl⟩ := h
  by_cases c1 : q < i
  ·have := h2 q (by omega)
   rw [oA hi, if_pos c1] at this
   exact absurd hq3 this
  ·have := h2 (q + 1) (by omega)
   rw [oA hi, if_neg (by omega), if_neg (by omega)] at this
   exact absurd hq3 this
 ·obtain ⟨k, h1, h2, -⟩ := aR hn
  exact ⟨k, h1, h2⟩
theorem QR {id : Int} (h : bW t ps id up z = 0) : aS t ps = 0 ∧ ¬ aN ps up < 0 ∧ ∀ i, i < ps.length → (poAt ps i).n ≤ 32 := by
 unfold bW at h
 by_cases h1 : aS t ps = 0
 ·refine ⟨h1, fun h2 => ?_, fun i hi => (iO h1 i hi).1⟩
  rw [if_neg (by simp [h1])] at h
  split at h
  ·cases h
  ·first | (rw [if_pos h2] at h; cases h) | cases h
 ·rw [if_pos h1] at h; exact absurd h h1
theorem NG (t : Int) (x : Option Addr) (n c : Nat) (ps : List Po) (id up z mn mx us co : Int) (w : World) (hk : Bk w x n c ps) :
  Calls Tryz.prog 44 #[.agg #[.int .i64 t, .slice x n c], .int .i64 id, .int .i64 up, .int .i64 z, .agg #[.int .i64 mn, .int .i64 mx, .int .i64 us, .int .i64 co]] w (oE t ps id up z mn mx us co w) := by
 have hpl : Hid (ps.length = n) := hk.ps.len
 go_enter Tryz.func44, Tryz.ntmps44
 go_upto_region 1 with fail
 obtain ⟨w0, hw0⟩ : ∃ w0, w0 = (((w.alloc (gE t (.slice x n c))).alloc (.cells #[.int .i64 mn, .int .i64 mx, .int .i64 us, .int .i64 co] 56)).alloc (gE 0 (.slice none 0 0))).alloc (.cells #[.int .i64 0, .int .i64 0] 49) := ⟨_, rfl⟩
 rw [← hw0]
 have hT0 : L3 w w0 t mn mx us co (.slice x n c) := by
  rw [hw0]
  exact ⟨aF _ (aF _ (aF _ (aC _ rfl))), aF _ (aF _ (aC _ (by simp))), aF _ (aC _ (by simp)), aC _ (by simp), ((cB w _ _).alloc (by simp; omega) _).alloc (by simp; omega) _⟩
 clear hw0
 obtain ⟨b0, b1⟩ := aO hT0.hb rfl rfl
 obtain ⟨u0, u1, u2, u3⟩ := zN hT0.hu rfl rfl rfl rfl
 obtain ⟨s0, s1⟩ := aO hT0.hs rfl rfl
 obtain ⟨zs0, zs1⟩ := cH hT0.hs
 obtain ⟨r0, r1⟩ := aO hT0.hr rfl rfl
 obtain ⟨zr0, zr1⟩ := cH hT0.hr
 have hnr := B9 t x n c ps id up z w0 (hk.later hT0.below)
 unfold fJ at hnr
 obtain ⟨pA, hpA⟩ : ∃ pA, Hid (pA = (fW t ps id up z).1) := ⟨_, rfl⟩
 obtain ⟨pL, hpL⟩ : ∃ pL, Hid (pL = (fW t ps id up z).2) := ⟨_, rfl⟩
 rw [← hpA.out, ← hpL.out] at hnr
 by_cases hne0 : bW t ps id up z = 0
 ·obtain ⟨hc0, hup, hn32⟩ := QR hne0
  have hc0' : Hid (aS t ps = 0) := hc0
  have hup' : Hid (¬ aN ps up < 0) := hup
  have hn32' : Hid (∀ i, i < ps.length → (poAt ps i).n ≤ 32) := hn32
  have hn8 : n ≤ 8 := by rw [← hpl.out]; exact sD hc0
  have hE1 : Hid (kU t ps id up z mn mx us co = nF ps pL mn mx us co) := by
   unfold Hid kU
   rw [if_neg (by simp [hne0]), hpL.out]
  rw [hne0] at hnr
  clear hc0 hup hn32 hne0
  go_wp2_with fail
  refine hnr.mono ?_
  rintro e w1 ⟨rfl, hb1⟩
  have hT1 := hT0.later hb1
  clear b0 b1 u0 u1 u2 u3 s0 s1 zs0 zs1 r0 r1 zr0 zr1 hb1 hnr
  go_upto_region 2 with fail
  obtain ⟨w2, hw2⟩ : ∃ w2, w2 = w1.alloc (.cells #[.int .i64 pA, .int .i64 pL] 49) := ⟨_, rfl⟩
  rw [← hw2]
  have hT2 : L3 w w2 t mn mx us co (.slice x n c) := by rw [hw2]; exact hT1.later (bl1 _ _)
  have hp2 : w2.heap[w1.heap.size]? = some (.cells #[.int .i64 pA, .int .i64 pL] 49) := by rw [hw2]; exact aC _ rfl
  have hsz1 : w.heap.size + 3 < w1.heap.size := (Array.getElem?_eq_some_iff.1 hT1.hr).1
  clear hw2
  obtain ⟨b0, b1⟩ := aO hT2.hb rfl rfl
  obtain ⟨u0, u1, u2, u3⟩ := zN hT2.hu rfl rfl rfl rfl
  obtain ⟨s0, s1⟩ := aO hT2.hs rfl rfl
  obtain ⟨zs0, zs1⟩ := cH hT2.hs
  obtain ⟨r0, r1⟩ := aO hT2.hr rfl rfl
  obtain ⟨zr0, zr1⟩ := cH hT2.hr
  obtain ⟨p0, p1⟩ := aO hp2 rfl rfl
  have had := sF t pA pL mn mx us co x n c ps hpl.out w2
  by_cases hae : nF ps pL mn mx us co = 0
  ·have hE0 : Hid (kU t ps id up z mn mx us co = 0) := hE1.out.trans hae
   rw [hae] at had
   clear hE1 hae
   go_wp2_with fail
   refine had.mono ?_
   rintro e w3 ⟨rfl, hb3⟩
   have hT3 := hT2.later hb3
   have hp3 := aB hb3 hp2
   clear b0 b1 u0 u1 u2 u3 s0 s1 zs0 zs1 r0 r1 zr0 zr1 p0 p1 hb3 hp2 had
   obtain ⟨b0, b1⟩ := aO hT3.hb rfl rfl
   obtain ⟨u0, u1, u2, u3⟩ := zN hT3.hu rfl rfl rfl rfl
   obtain ⟨s0, s1⟩ := aO hT3.hs rfl rfl
   obtain ⟨zs0, zs1⟩ := cH hT3.hs
   obtain ⟨r0, r1⟩ := aO hT3.hr rfl rfl
   obtain ⟨zr0, zr1⟩ := cH hT3.hr
   obtain ⟨p0, p1⟩ := aO hp3 rfl rfl
   have hwp := sE t x n c ps ⟨id, up, pA, pL, mn, mx, us, co, none, 0, 0, []⟩ w3 (hk.later hT3.below) hn8 rfl rfl rfl rfl
   go_wp2_with fail
   refine hwp.mono ?_
   rintro e w5 ⟨v5, qs, ms, rfl, hb5, hs, hput, hOB⟩
   obtain ⟨k, hkl, hke⟩ := hput.has (up := up) (by rw [AT hs]; have := hup'.out; omega)
   have hmn : ∀ j, j < ms.length → (poAt ms j).n ≤ 32 := jB.all (p := fun p => p.n ≤ 32) hput (Nat.zero_le _) (fun j hj => by
    have hj2 : j < ps.length := by rw [hs.1]; exact hj
    rw [← (hs.2 j hj2).2.2.2.2.2.2.2.2.1]
    exact hn32'.out j hj2)
   have hml : ms.length ≤ 9 := by have := hput.len; rw [← hs.1, hpl.out] at this; omega
   rcases hOB.row.2 with ⟨-, h0⟩ | ⟨g, cap, cur, rfl, hg1, hg2, -⟩
   ·omega
   clear b0 b1 u0 u1 u2 u3 s0 s1 zs0 zs1 r0 r1 zr0 zr1 p0 p1 hwp
   go_upto_region 7 with fail
   obtain ⟨w6, hw6⟩ : ∃ w6, w6 = w5.alloc (gE t (.slice (some ⟨g, 0, none⟩) ms.length cap)) := ⟨_, rfl⟩
   rw [← hw6]
   have hT6 : L3 w w6 t mn mx us co (.slice x n c) := by rw [hw6]; exact (hT3.later hb5).later (bl1 _ _)
   have hp6 : w6.heap[w1.heap.size]? = some (.cells #[.int .i64 pA, .int .i64 pL] 49) := by rw [hw6]; exact aF _ (aB hb5 hp3)
   have hn6 : w6.heap[w5.heap.size]? = some (gE t (.slice (some ⟨g, 0, none⟩) ms.length cap)) := by rw [hw6]; exact aC _ rfl
   have hOB6 : dN w6 w3.heap.size (.slice (some ⟨g, 0, none⟩) ms.length cap) ms ms.length := by rw [hw6]; exact hOB.later (bl1 _ _)
   have hs6 : w3.heap.size ≤ w6.heap.size := by rw [hw6]; have := hb5.size; simp; omega
   have hsz3 : w.heap.size + 3 < w3.heap.size := (Array.getElem?_eq_some_iff.1 hT3.hr).1
   have hsz5 : w.heap.size + 3 < w5.heap.size := by have := hb5.size; omega
   clear hw6 hOB hb5 hg2 hp3
   obtain ⟨xq2, cq2, hvq2, hBk2⟩ := hOB6.bk (fun j hj => by have := hmn j hj; omega)
   simp only [Value.slice.injEq] at hvq2
   obtain ⟨rfl, -, rfl⟩ := hvq2
   have hpl2 := fun W h => pplace_any t up (some ⟨g, 0, none⟩) ms.length cap ms W h (by omega)
   rw [hke] at hpl2
   have hps6 := hBk2.ps
   have g0 := Ws.here (v := .int .i64 t) ((aA hn6).1 0)
   have g1 := Ws.here (v := .slice (some ⟨g, 0, none⟩) ms.length cap) ((aA hn6).1 1)
   have g2 := Ws.here (v := .int .i64 pA) ((aA hp6).1 0)
   have g3 := Ws.here (v := .int .i64 pL) ((aA hp6).1 1)
   have hk0 : (0 : Int) ≤ k := by omega
   have hk1 : (k : Int) < ms.length := by omega
   have hR : Hid (∀ x' c' ls', iM ⟨pA, pL, 2, id, 0⟩ (poAt ms k).ls ls' → tX ps ⟨id, up, pA, pL, mn, mx, us, co, none, 0, 0, []⟩ up (ms.set k (aQ (poAt ms k) x' ls'.length c' ls'))) := fun x' c' ls' h => ⟨qs, ms, x', c', ls', hs, hput, by rw [hke]; exact h, by rw [hke]; rfl⟩
   clear hke
   refine jY w6.heap.size 9 (by kernel_rfl) (by kernel_rfl) ?_
   simp only [List.take_succ_cons, List.take_zero, List.drop_succ_cons, List.drop_zero]
   repeat (go_big_quiet_step ((go_at_call 82; exact Calls.in_ws (Nat.le_refl _) (hpl2 _ (hps6.later (Ws.property _))))))
   refine wpQuiet_nil ?_
   intro uu
   have hB7 := uu.property
   generalize uu.val = w7 at hB7 ⊢
   clear uu g0 g1 g2 g3 hpl2
   have hadd := sC ⟨pA, pL, 2, id, 0⟩ w3.heap.size g ms.length cap ms k w7 (hOB6.later hB7) hkl (hmn k hkl) (Nat.le_trans hs6 hB7.size)
   go_wp2_with fail
   refine hadd.mono ?_
   rintro e w8 ⟨rfl, x', c', ls', hpl3, hOB8, hg8⟩
   obtain ⟨hbg, cur7, hgc7⟩ := (hOB6.later hB7).row.block
   have hKu : dS w3.heap.size w6 w8 := (dS.of_below hB7 hs6).trans (dS.of_grown hg8 hbg (Nat.le_trans hs6 hB7.size) hgc7 (.inl rfl))
   have hT8 := hT6.kept hKu hT3.below.size
   have hp8 := hKu.box _ _ _ hp6 (by decide) (by decide)
   have hn8' := hKu.box _ _ _ hn6 (by decide) (by decide)
   have hR2 : Hid (tX ps ⟨id, up, pA, pL, mn, mx, us, co, none, 0, 0, []⟩ up (ms.set k (aQ (poAt ms k) x' ls'.length c' ls'))) := hR.out x' c' ls' hpl3
   clear hadd hB7 hg8 hgc7 hKu hT6 hp6 hn6 hOB6 hR hpl3
   obtain ⟨m0, m1⟩ := aO hn8' rfl rfl
   obtain ⟨p0, p1⟩ := aO hp8 rfl rfl
   have n1 : ¬ w1.heap.size = w.heap.size + 2 := by omega
   have n2 : ¬ w1.heap.size = w.heap.size + 1 + 1 := by omega
   have n3 : ¬ w1.heap.size = w.heap.size + 3 := by omega
   have n4 : ¬ w1.heap.size = w.heap.size + 1 + 1 + 1 := by omega
   have n5 : ¬ w5.heap.size = w.heap.size + 2 := by omega
   have n6 : ¬ w5.heap.size = w.heap.size + 1 + 1 := by omega
   have n7 : ¬ w5.heap.size = w.heap.size + 3 := by omega
   have n8 : ¬ w5.heap.size = w.heap.size + 1 + 1 + 1 := by omega
   obtain ⟨s0, s1⟩ := aO hT8.hs rfl rfl
   obtain ⟨zs0, zs1⟩ := cH hT8.hs
   obtain ⟨r0, r1⟩ := aO hT8.hr rfl rfl
   obtain ⟨zr0, zr1⟩ := cH hT8.hr
   go_upto_region 8 with fail
   go_region_with fail
   all_goals go_wp2
   all_goals refine bodyPost_ret (v := .tuple #[.agg #[.int .i64 t, .slice (some ⟨g, 0, none⟩) ms.length cap], .agg #[.int .i64 pA, .int .i64 pL], .int .i64 0]) (by simp [results, Tryz.results44, go_sem, s0, s1, r0, r1]) rfl ?_
   all_goals have hsz2 : w.heap.size + 2 < w3.heap.size := by omega
   all_goals have hfin := (hT8.fin (.int .i64 t) (.slice (some ⟨g, 0, none⟩) ms.length cap) (.int .i64 pA) (.int .i64 pL)).drew
   all_goals have hob := (((((hOB8.put (o := 0) (u := .int .i64 t) hsz2).put (o := 1) (u := .slice (some ⟨g, 0, none⟩) ms.length cap) hsz2).put (o := 0) (u := .int .i64 pA) hsz3).put (o := 1) (u := .int .i64 pL) hsz3).later (Below.refl _ _).drew).low hT3.below.size
   all_goals exact ⟨_, _, t, pA, pL, by rw [hE0.out], hfin, hob, fun h => absurd hE0.out h, fun _ => ⟨rfl, by rw [hpA.out, hpL.out], hR2.out⟩⟩
  ·have hne : Hid (kU t ps id up z mn mx us co = nF ps pL mn mx us co ∧ nF ps pL mn mx us co ≠ 0) := ⟨hE1.out, hae⟩
   go_wp2_with fail
   refine had.mono ?_
   rintro e w3 ⟨rfl, hb3⟩
   have hT3 := hT2.later hb3
   clear b0 b1 u0 u1 u2 u3 s0 s1 zs0 zs1 r0 r1 zr0 zr1 p0 p1 hb3 hp2 had
   obtain ⟨b0, b1⟩ := aO hT3.hb rfl rfl
   obtain ⟨u0, u1, u2, u3⟩ := zN hT3.hu rfl rfl rfl rfl
   obtain ⟨s0, s1⟩ := aO hT3.hs rfl rfl
   obtain ⟨zs0, zs1⟩ := cH hT3.hs
   obtain ⟨r0, r1⟩ := aO hT3.hr rfl rfl
   obtain ⟨zr0, zr1⟩ := cH hT3.hr
   go_wp2
   refine bodyPost_ret (v := .tuple #[.agg #[.int .i64 0, .slice none 0 0], .agg #[.int .i64 0, .int .i64 0], .int .i64 (nF ps pL mn mx us co)]) (by simp [results, Tryz.results44, go_sem, s0, s1, r0, r1]) rfl ?_
   exact oE.err hne.out (hT3.fin _ _ _ _)
 ·have hne : Hid (kU t ps id up z mn mx us co = bW t ps id up z ∧ bW t ps id up z ≠ 0) := ⟨if_pos hne0, hne0⟩
  go_wp2_with fail
  refine hnr.mono ?_
  rintro e w1 ⟨rfl, hb1⟩
  have hT1 := hT0.later hb1
  clear b0 b1 u0 u1 u2 u3 s0 s1 zs0 zs1 r0 r1 zr0 zr1 hb1 hnr
  go_upto_region 2 with fail
  obtain ⟨w2, hw2⟩ : ∃ w2, w2 = w1.alloc (.cells #[.int .i64 pA, .int .i64 pL] 49) := ⟨_, rfl⟩
  rw [← hw2]
  have hT2 : L3 w w2 t mn mx us co (.slice x n c) := by rw [hw2]; exact hT1.later (bl1 _ _)
  clear hw2
  obtain ⟨b0, b1⟩ := aO hT2.hb rfl rfl
  obtain ⟨u0, u1, u2, u3⟩ := zN hT2.hu rfl rfl rfl rfl
  obtain ⟨s0, s1⟩ := aO hT2.hs rfl rfl
  obtain ⟨zs0, zs1⟩ := cH hT2.hs
  obtain ⟨r0, r1⟩ := aO hT2.hr rfl rfl
  obtain ⟨zr0, zr1⟩ := cH hT2.hr
  go_wp2
  refine bodyPost_ret (v := .tuple #[.agg #[.int .i64 0, .slice none 0 0], .agg #[.int .i64 0, .int .i64 0], .int .i64 (bW t ps id up z)]) (by simp [results, Tryz.results44, go_sem, s0, s1, r0, r1]) rfl ?_
  exact oE.err hne.out (hT2.fin _ _ _ _)
theorem J3 (w : World) : Calls Tryz.prog 29 #[] w fun e w' => e = .returned (.agg #[.int .i64 8, .int .i64 16, .int .i64 12, .int .i64 3]) ∧ Below w.heap.size w w' := by
 go_enter Tryz.func29, Tryz.ntmps29
 go_wp2
 refine bodyPost_ret (v := .agg #[.int .i64 8, .int .i64 16, .int .i64 12, .int .i64 3]) (by simp [results, Tryz.results29, go_sem]) rfl ⟨rfl, ?_⟩
 exact bl1 w _
open Go.ChangeShapes Go.WideShapes Go.ChangeAt Go.RowKit Go.Joins
theorem ST : Tryz.prog.cellsOf 56 = 4 := by kernel_rfl
section
variable {H : Type} {enc : TypeId × Value → H} {w : World}
theorem mM {α : Type} {xs : List α} {m i : Nat} (h : xs.length = m) (hi : i < m) : (xs[i]?).isSome = true := by
 rw [List.getElem?_eq_getElem (by omega)]
 rfl
end
theorem EC (h : ∀ i, i < n → f i = g i) : (List.range n).all f = (List.range n).all g := by
 rw [Bool.eq_iff_iff, List.all_eq_true, List.all_eq_true]
 exact ⟨fun k i hi => by rw [← h i (List.mem_range.1 hi)]; exact k i hi, fun k i hi => by rw [h i (List.mem_range.1 hi)]; exact k i hi⟩
theorem ED (h : ∀ i, i < n → f i = g i) : aK n f = aK n g := by
 unfold aK
 rw [Bool.eq_iff_iff, List.any_eq_true, List.any_eq_true]
 exact ⟨fun ⟨i, hi, k⟩ => ⟨i, hi, by rw [← h i (List.mem_range.1 hi)]; exact k⟩, fun ⟨i, hi, k⟩ => ⟨i, hi, by rw [h i (List.mem_range.1 hi)]; exact k⟩⟩
def EE (p q : Po) : Prop := p.id = q.id ∧ p.up = q.up ∧ p.a = q.a ∧ p.l = q.l ∧ p.mn = q.mn ∧ p.mx = q.mx ∧ p.us = q.us ∧ p.co = q.co
def fD (ps qs : List Po) : Prop := ps.length = qs.length ∧ ∀ i, i < ps.length → EE (poAt ps i) (poAt qs i)
theorem sB.head {q : Po} (h : sB p q) : EE p q := ⟨h.1, h.2.1, h.2.2.1, h.2.2.2.1, h.2.2.2.2.1, h.2.2.2.2.2.1, h.2.2.2.2.2.2.1, h.2.2.2.2.2.2.2.1⟩
theorem AU (h : fD ps qs) (id : Int) : aN qs id = aN ps id := by
 by_cases h1 : aN ps id < 0
 ·have h2 := gT h1
  rw [rS (ps := ps) h2, rS]
  intro j hj
  rw [← h.1] at hj
  rw [← (h.2 j hj).1]
  exact h2 j hj
 ·obtain ⟨i, hi, hat, -⟩ := aR h1
  obtain ⟨-, h3, h4⟩ := rC hat
  rw [hat]
  refine nQ (by rw [← h.1]; exact hi) (by rw [← (h.2 i hi).1]; exact h3) (fun j hj => ?_)
  rw [← (h.2 j (by omega)).1]
  exact h4 j hj
theorem xU (h : fD ps qs) : lO qs.length qs = lO ps.length ps := by
 unfold lO iE
 rw [← h.1]
 congr 1
 ·refine EC fun i hi => ?_
  unfold fS
  rw [(h.2 i hi).1, (h.2 (i - 1) (by omega)).1]
 ·congr 1
  refine ED fun i hi => ?_
  rw [(h.2 i hi).1]
theorem tY (h : fD ps qs) : gH qs = gH ps := by
 unfold gH
 rw [← h.1]
 refine EC fun i hi => ?_
 obtain ⟨-, h2, h3, h4, -⟩ := h.2 i hi
 unfold mK
 rw [h2, h3, h4]
 congr 2
 refine ED fun j hj => ?_
 obtain ⟨-, g2, g3, g4, -⟩ := h.2 j (by omega)
 unfold kO
 rw [g2, g3, g4]
theorem NH (h : fD ps qs) (t id : Int) (e : Le) : rB t qs id e = rB t ps id e := by
 unfold rB
 rw [AU h]
 by_cases h1 : e.kd = 1
 ·rw [if_pos h1, if_pos h1]
 ·rw [if_neg h1, if_neg h1]
  by_cases h2 : e.kd = 2
  ·rw [if_pos h2, if_pos h2]
   by_cases h3 : aN ps e.ow < 0
   ·rw [if_pos h3, if_pos h3]
   ·rw [if_neg h3, if_neg h3]
    obtain ⟨i, hi, hat, -⟩ := aR h3
    rw [hat]
    obtain ⟨-, g2, g3, g4, -⟩ := h.2 i hi
    unfold SM
    rw [Int.toNat_natCast, g2, g3, g4]
  ·rw [if_neg h2, if_neg h2]
theorem eR (hi : i < ls.length) : aM ls i ∈ ls := by
 unfold aM
 rw [List.getD_eq_getElem?_getD, List.getElem?_eq_getElem hi]
 exact List.getElem_mem hi
theorem iP (h : e ∈ ls) : ∃ i, i < ls.length ∧ aM ls i = e := by
 obtain ⟨i, hi, rfl⟩ := List.mem_iff_getElem.1 h
 exact ⟨i, hi, by unfold aM; rw [List.getD_eq_getElem?_getD, List.getElem?_eq_getElem hi]; rfl⟩
theorem kV {id : Int} (hn : ls.length = n) : aK n (fN ls id) = true ↔ ∃ e ∈ ls, e.kd = 2 ∧ e.ow = id := by
 constructor
 ·intro h
  obtain ⟨i, hi, hf, -⟩ := xI h
  unfold fN at hf
  simp only [Bool.and_eq_true, beq_iff_eq] at hf
  exact ⟨_, eR (by omega), hf⟩
 ·rintro ⟨e, he, h1, h2⟩
  obtain ⟨i, hi, rfl⟩ := iP he
  refine aT (k := i) (by rw [← hn]; exact hi) ?_
  unfold fN
  rw [h1, h2]
  simp
def cC (ps : List Po) : Prop := ∀ i, i < ps.length → (poAt ps i).ls.length = (poAt ps i).n
theorem NI (h : fD ps qs) (hp : cC ps) (hq : cC qs) (h2 : ∀ k, k < ps.length → ∀ e ∈ (poAt ps k).ls, e.kd = 2 → e ∈ (poAt qs k).ls) (f : Nat) :
  ∀ p q : Po, EE p q → lH ps f p = true → lH qs f q = true := by
 induction f with
 | zero => intro p q _ h1; cases h1
 | succ f ih =>
  intro p q hpq h1
  obtain ⟨e1, e2, -⟩ := hpq
  unfold lH at h1 ⊢
  rw [← e1, ← e2]
  by_cases c1 : p.up = 0
  ·rw [if_pos c1]
  ·rw [if_neg c1] at h1 ⊢
   rw [AU h]
   by_cases c2 : aN ps p.up < 0
   ·rw [if_pos c2] at h1; cases h1
   ·rw [if_neg c2] at h1 ⊢
    obtain ⟨i, hi, hat, -⟩ := aR c2
    rw [hat] at h1 ⊢
    rw [Int.toNat_natCast] at h1 ⊢
    by_cases c3 : aK (poAt ps i).n (fN (poAt ps i).ls p.id) = true
    ·rw [if_pos c3] at h1
     obtain ⟨e, he, k1, k2⟩ := (kV (hp i hi)).1 c3
     rw [if_pos ((kV (hq i (by rw [← h.1]; exact hi))).2 ⟨e, h2 i hi e he k1, k1, k2⟩)]
     exact ih _ _ (h.2 i hi) h1
    ·rw [if_neg c3] at h1; cases h1
theorem pJ (hn : p.ls.length = p.n) : zV t ps p = true ↔ ∀ e ∈ p.ls, rB t ps p.id e = true := by
 unfold zV
 rw [List.all_eq_true]
 constructor
 ·intro h e he
  obtain ⟨i, hi, rfl⟩ := iP he
  exact h i (List.mem_range.2 (by omega))
 ·intro h i hi
  exact h _ (eR (by have := List.mem_range.1 hi; omega))
theorem pK (hc : aS t ps = 0) (hT0 : 0 ≤ T) (hT1 : T ≤ 1073741824) (h : fD ps qs) (hp : cC ps) (hq : cC qs) (hn : ∀ k, k < ps.length → (poAt qs k).n ≤ 32) (hU : ∀ k, k < ps.length → nE (lp (poAt qs k).ls) (poAt ps k).a (poAt ps k).l)
  (h2 : ∀ k, k < ps.length → ∀ e ∈ (poAt ps k).ls, e.kd = 2 → e ∈ (poAt qs k).ls) (hL : ∀ k, k < ps.length → ∀ e ∈ (poAt qs k).ls, rB T ps (poAt ps k).id e = true) : aS T qs = 0 := by
 obtain ⟨h8, -, hi, ht, hpo⟩ := gS hc
 refine B4 (by rw [← h.1]; exact h8) ?_
 have hw : dH T 0 1073741824 = true := by unfold dH; simp [hT0, hT1]
 rw [hw, xU h, hi, tY h, ht]
 simp only [Bool.true_and]
 refine tU fun j hj => ?_
 have hj2 : j < ps.length := by rw [h.1]; exact hj
 obtain ⟨p1, p2, p3, p4⟩ := eB (hpo j hj2)
 obtain ⟨e1, e2, e3, e4, e5, e6, e7, e8⟩ := h.2 j hj2
 obtain ⟨-, hrt, -⟩ := iC p1
 unfold kT
 have k1 : kN (poAt qs j).a (poAt qs j).l (poAt qs j).n (lp (poAt qs j).ls) = 0 := by
  unfold kN
  rw [if_neg (by have := hn j hj2; omega), ← e3, ← e4, hrt, DL (hU j hj2)]
  rfl
 have k3 : lH qs qs.length (poAt qs j) = true := by
  rw [← h.1]
  exact NI h hp hq h2 _ _ _ (h.2 j hj2) p3
 have k4 : zV T qs (poAt qs j) = true := (pJ (hq j hj)).2 fun e he => by
  rw [NH h, ← e1]
  exact hL j hj2 e he
 rw [k1, k3, k4, ← e4, ← e5, ← e6, ← e7, ← e8, p2]
 rfl
theorem EF {f : Le → Bool} (h : nE (lp ls) a l) : nE (lp (ls.filter f)) a l := by
 unfold lp at h ⊢
 refine ⟨fun u hu => ?_, ?_⟩
 ·obtain ⟨e, he, rfl⟩ := List.mem_map.1 hu
  exact h.inn _ (List.mem_map.2 ⟨e, (List.mem_filter.1 he).1, rfl⟩)
 ·have := h.rise
  rw [List.pairwise_map] at this ⊢
  exact this.filter f
theorem lR (hc : aS t ps = 0) (i : Nat) (hi : i < ps.length) : nE (lp (poAt ps i).ls) (poAt ps i).a (poAt ps i).l := by
 obtain ⟨-, -, -, -, hp⟩ := gS hc
 exact IE (iC (eB (hp i hi)).1).2.2
theorem xV (hc : aS t ps = 0) (hf : cC ps) (hm : 1 ≤ m) (hm1 : t + m ≤ 1073741824) (hs : cT ps qs) (hp : jX (t + m) qs qs.length rs) :
  aS (t + m) rs = 0 ∧ fD ps rs ∧ cC rs ∧ ∀ k, k < ps.length → (poAt rs k).ls = jD (t + m) (poAt ps k).ls := by
 have hl : ∀ k, k < ps.length → k < qs.length := fun k hk => by rw [← hs.1]; exact hk
 have hls : ∀ k, k < ps.length → (poAt rs k).ls = jD (t + m) (poAt ps k).ls ∧ (poAt rs k).n = (jD (t + m) (poAt ps k).ls).length ∧ EE (poAt ps k) (poAt rs k) := fun k hk => by
  obtain ⟨x, c, e⟩ := (hp.2 k (hl k hk)).1 (hl k hk)
  rw [e, (hs.2 k hk).2.2.2.2.2.2.2.2.2]
  exact ⟨rfl, rfl, (hs.2 k hk).head⟩
 have hH : fD ps rs := ⟨hs.1.trans hp.1.symm, fun k hk => (hls k hk).2.2⟩
 have hF : cC rs := fun k hk => by
  have hk2 : k < ps.length := by rw [hH.1]; exact hk
  rw [(hls k hk2).1, (hls k hk2).2.1]
 obtain ⟨-, ⟨ht0, ht1⟩, -, -, hpo⟩ := gS hc
 refine ⟨pK hc (by omega) hm1 hH hf hF (fun k hk => ?_) (fun k hk => ?_) (fun k hk e he h2 => ?_) (fun k hk e he => ?_), hH, hF, fun k hk => (hls k hk).1⟩
 ·rw [(hls k hk).2.1]
  have h1 := (iO hc k hk).1
  have h2 := List.length_filter_le (fun e => !mL (t + m) e) (poAt ps k).ls
  have h3 := hf k hk
  unfold jD
  omega
 ·rw [(hls k hk).1]
  exact EF (lR hc k hk)
 ·rw [(hls k hk).1]
  refine List.mem_filter.2 ⟨he, ?_⟩
  unfold mL
  rw [h2]
  rfl
 ·rw [(hls k hk).1] at he
  obtain ⟨he1, he2⟩ := List.mem_filter.1 he
  have h4 := (pJ (hf k hk)).1 (eB (hpo k hk)).2.2.2 e he1
  unfold rB at h4 ⊢
  by_cases c1 : e.kd = 1
  ·rw [if_pos c1] at h4 ⊢; exact h4
  ·rw [if_neg c1] at h4 ⊢
   by_cases c2 : e.kd = 2
   ·rw [if_pos c2] at h4 ⊢; exact h4
   ·rw [if_neg c2] at h4 ⊢
    by_cases c3 : e.kd = 3
    ·rw [if_pos c3] at h4 ⊢
     unfold mL at he2
     rw [c3] at he2
     simp only [Bool.and_eq_true, decide_eq_true_eq, beq_self_eq_true, Bool.true_and, Bool.not_eq_true', decide_eq_false_iff_not] at h4 he2 ⊢
     exact ⟨h4.1, by omega, by omega⟩
    ·rw [if_neg c3] at h4; cases h4
theorem EG (hc : aS t ps = 0) (hi : i < ps.length) (h : eJ (poAt ps i) z = 0) :
  ∃ x, eK (poAt ps i) z = (x, z) ∧ DD (lp (poAt ps i).ls) (poAt ps i).a (poAt ps i).l z x ∧ ∀ y, DD (lp (poAt ps i).ls) (poAt ps i).a (poAt ps i).l z y → x ≤ y := by
 obtain ⟨-, -, -, -, hp⟩ := gS hc
 obtain ⟨h1, h2, -, -⟩ := eB (hp i hi)
 obtain ⟨r1, r2, r3, r4, -, -⟩ := B6 h2
 obtain ⟨-, hrt, -⟩ := iC h1
 unfold eJ at h
 unfold eK
 by_cases hz : z < (poAt ps i).mn ∨ (poAt ps i).mx < z
 ·rw [if_pos hz] at h; cases h
 ·rw [if_neg hz] at h ⊢
  cases hq : nZ (poAt ps i) z with
  | none => rw [hq] at h; cases h
  | some y =>
   refine ⟨y, rfl, ?_⟩
   unfold nZ at hq
   by_cases hn : (poAt ps i).n = 32
   ·rw [if_pos hn] at hq; cases hq
   ·rw [if_neg hn] at hq
    unfold tO at hq
    have hE : tN (poAt ps i).a (poAt ps i).l (poAt ps i).n (lp (poAt ps i).ls) z = 0 := by
     unfold tN
     rw [if_pos h1, if_neg (by omega)]
    rw [if_pos hE] at hq
    have hF := P5 (z := z) (BR (lp (poAt ps i).ls) (16 - (poAt ps i).l).toNat (poAt ps i).a (poAt ps i).l hrt (by omega)) (by omega)
    rw [hq] at hF
    exact hF
theorem U0 {id : Int} (h : cX t ps id z ow = 0) : aS t ps = 0 ∧ ¬ aN ps id < 0 ∧ dH ow 1 65536 = true ∧ eJ (poAt ps (aN ps id).toNat) (mU (poAt ps (aN ps id).toNat) z) = 0 := by
 unfold cX at h
 by_cases h1 : aS t ps = 0
 ·rw [if_neg (by simp [h1])] at h
  by_cases h2 : aN ps id < 0
  ·rw [if_pos h2] at h; cases h
  ·rw [if_neg h2] at h
   by_cases h3 : dH ow 1 65536 = false
   ·rw [if_pos h3] at h; cases h
   ·rw [if_neg h3] at h
    exact ⟨h1, h2, by simpa using h3, h⟩
 ·rw [if_pos h1] at h; exact absurd h h1
theorem Bk.full (h : Bk w x n c ps) : cC ps := fun i hi => (h.ps.leases i (by rw [← h.ps.len]; exact hi)).2.2.len
theorem dN.full (h : dN w base v ps ps.length) : cC ps := fun i hi => (h.own i hi).ls.2.1
def EH (ls : List Le) (v : Int) : Nat := (ls.filter fun e => (e.kd == 1) && qO e.a e.l v).length
def EI (ps : List Po) (v : Int) : Nat := (ps.map fun p => EH p.ls v).sum
def PY (ps : List Po) : Nat → Nat → Prop
 | 0, q => q < ps.length ∧ (poAt ps q).up = 0
 | d + 1, q => q < ps.length ∧ (poAt ps q).up ≠ 0 ∧ ∃ r : Nat, aN ps (poAt ps q).up = r ∧ (∃ e ∈ (poAt ps r).ls, e.kd = 2 ∧ e.ow = (poAt ps q).id) ∧ PY ps d r
theorem SU (hF : cC ps) (f : Nat) : ∀ q, q < ps.length → lH ps f (poAt ps q) = true → ∃ d, PY ps d q := by
 induction f with
 | zero => intro q _ h; cases h
 | succ f ih =>
  intro q hq h
  unfold lH at h
  by_cases c1 : (poAt ps q).up = 0
  ·exact ⟨0, hq, c1⟩
  ·rw [if_neg c1] at h
   by_cases c2 : aN ps (poAt ps q).up < 0
   ·rw [if_pos c2] at h; cases h
   ·rw [if_neg c2] at h
    obtain ⟨r, hr, hat, -⟩ := aR c2
    rw [hat, Int.toNat_natCast] at h
    by_cases c3 : aK (poAt ps r).n (fN (poAt ps r).ls (poAt ps q).id) = true
    ·rw [if_pos c3] at h
     obtain ⟨d, hd⟩ := ih r hr h
     exact ⟨d + 1, hq, c1, r, hat, (kV (hF r hr)).1 c3, hd⟩
    ·rw [if_neg c3] at h; cases h
theorem PY.lt : ∀ {d q : Nat}, PY ps d q → q < ps.length
 | 0, _, h => h.1
 | _ + 1, _, h => h.1
theorem SV (h : lO ps.length ps = true) (i : Nat) : ∀ d, i + d + 1 < ps.length → (poAt ps i).id < (poAt ps (i + d + 1)).id := by
 unfold lO iE at h
 simp only [Bool.and_eq_true] at h
 have hr := List.all_eq_true.1 h.1
 have one : ∀ k, k + 1 < ps.length → (poAt ps k).id < (poAt ps (k + 1)).id := fun k hk => by
  have := hr (k + 1) (List.mem_range.2 hk)
  unfold fS at this
  simpa using this
 intro d
 induction d with
 | zero => intro hd; exact one i hd
 | succ d ih =>
  intro hd
  have h1 := ih (by omega)
  have h2 := one (i + d + 1) (by omega)
  rw [show i + (d + 1) + 1 = i + d + 1 + 1 by omega]
  omega
theorem lS (hs : cT ps qs) (hf : cC ps) (hi : i < ps.length) : fD ps (qs.set i (aQ (poAt qs i) x' ls'.length c' ls')) ∧ cC (qs.set i (aQ (poAt qs i) x' ls'.length c' ls')) ∧ ∀ k, k < ps.length → (poAt (qs.set i (aQ (poAt qs i) x' ls'.length c' ls')) k).ls = if i = k then ls' else (poAt ps k).ls := by
 have hi2 : i < qs.length := by rw [← hs.1]; exact hi
 have hat : ∀ k, poAt (qs.set i (aQ (poAt qs i) x' ls'.length c' ls')) k = if i = k then aQ (poAt qs i) x' ls'.length c' ls' else poAt qs k := fun k => dD hi2
 refine ⟨⟨by rw [List.length_set]; exact hs.1, fun k hk => ?_⟩, fun k hk => ?_, fun k hk => ?_⟩
 ·rw [hat]
  by_cases e : i = k
  ·rw [if_pos e]
   subst e
   exact (hs.2 i hi).head
  ·rw [if_neg e]
   exact (hs.2 k hk).head
 ·rw [List.length_set] at hk
  rw [hat]
  by_cases e : i = k
  ·rw [if_pos e]; rfl
  ·rw [if_neg e]
   have hk2 : k < ps.length := by rw [hs.1]; exact hk
   have h1 := (hs.2 k hk2).2.2.2.2.2.2.2.2
   rw [← h1.1, ← h1.2]
   exact hf k hk2
 ·rw [hat]
  by_cases e : i = k
  ·rw [if_pos e, if_pos e]; rfl
  ·rw [if_neg e, if_neg e]
   exact (hs.2 k hk).2.2.2.2.2.2.2.2.2.symm
theorem IL : ∀ (l : List Nat) (i y : Nat) (h : i < l.length), (l.set i y).sum + l[i] = l.sum + y
 | x :: r, 0, y, _ => by simp; omega
 | x :: r, i + 1, y, h => by
  have := IL r i y (by simpa using h)
  simp only [List.set_cons_succ, List.sum_cons, List.getElem_cons_succ]
  omega
theorem NJ (h : iM e ls ls') (v : Int) : EH ls' v = EH ls v + if ((e.kd == 1) && qO e.a e.l v) = true then 1 else 0 := by
 obtain ⟨k, hk, -, -, rfl⟩ := h
 unfold EH
 have e1 : ls.filter (fun e => (e.kd == 1) && qO e.a e.l v) = (ls.take k).filter (fun e => (e.kd == 1) && qO e.a e.l v) ++ (ls.drop k).filter (fun e => (e.kd == 1) && qO e.a e.l v) := by
  rw [← List.filter_append, List.take_append_drop]
 rw [e1, List.filter_append, List.filter_append, List.length_append, List.length_append, List.length_append, List.filter_cons, List.filter_nil]
 split
 ·simp only [List.length_singleton]; omega
 ·simp only [List.length_nil]; omega
theorem QS (h : ps.length = qs.length) (hl : ∀ k, k < ps.length → (poAt qs k).ls = (poAt ps k).ls) (v : Int) : EI qs v = EI ps v := by
 unfold EI
 congr 1
 refine List.ext_getElem (by simp [h]) fun k h1 h2 => ?_
 rw [List.length_map] at h1 h2
 rw [List.getElem_map, List.getElem_map, ← bC h1, ← bC h2, hl k h2]
theorem NK (hi : i < ps.length) (v : Int) : EI (ps.set i p) v + EH (poAt ps i).ls v = EI ps v + EH p.ls v := by
 unfold EI
 rw [List.map_set]
 have := IL (ps.map fun p => EH p.ls v) i (EH p.ls v) (by simpa using hi)
 rw [List.getElem_map, ← bC hi] at this
 exact this
theorem EJ (h : iM e ls ls') : RX (lp ls) e.a e.l (lp ls') := by
 obtain ⟨k, hk, h1, h2, rfl⟩ := h
 refine ⟨⟨k, by rw [qZ]; exact hk, fun j hj => ?_, fun hj => ?_, ?_⟩⟩
 ·rw [(II (by omega)).1]
  have := h1 j hj
  omega
 ·rw [qZ] at hj
  rw [(II hj).1]
  exact h2 hj
 ·unfold lp
  simp
theorem GS {id : Int} (hF : cC ps) (hE : cX t ps id z ow = 0) (hat : aN ps id = i) (hi : i < ps.length) (hal : (a, l) = eK (poAt ps i) (mU (poAt ps i) z)) (hs : cT ps qs) (hput : iM ⟨a, l, 1, ow, 0⟩ (poAt ps i).ls ls') :
  aS t (qs.set i (aQ (poAt qs i) x' ls'.length c' ls')) = 0 ∧ cC (qs.set i (aQ (poAt qs i) x' ls'.length c' ls')) ∧ rt a l = true ∧ ∀ v, qO a l v = true → EI (qs.set i (aQ (poAt qs i) x' ls'.length c' ls')) v = EI ps v + 1 := by
 obtain ⟨hc, -, how, hpf⟩ := U0 hE
 rw [hat, Int.toNat_natCast] at hpf
 obtain ⟨hH, hFr, hls⟩ := lS (x' := x') (c' := c') (ls' := ls') hs hF hi
 obtain ⟨y, e1, e2, -⟩ := EG hc hi hpf
 rw [e1] at hal
 simp only [Prod.mk.injEq] at hal
 obtain ⟨rfl, hlz⟩ := hal
 rw [← hlz] at e2
 obtain ⟨-, ⟨ht0, ht1⟩, -, -, hpo⟩ := gS hc
 have h31 := xP hpf
 have hmem : ∀ e, e ∈ ls' ↔ e = ⟨a, l, 1, ow, 0⟩ ∨ e ∈ (poAt ps i).ls := fun e => by
  obtain ⟨k, hk, -, -, rfl⟩ := hput
  have : (poAt ps i).ls = (poAt ps i).ls.take k ++ (poAt ps i).ls.drop k := (List.take_append_drop _ _).symm
  constructor
  ·intro h
   simp only [List.mem_append, List.mem_singleton] at h
   rcases h with (h | h) | h
   ·exact .inr (List.mem_of_mem_take h)
   ·exact .inl h
   ·exact .inr (List.mem_of_mem_drop h)
  ·rintro (h | h)
   ·simp [h]
   ·rw [this] at h
    simp only [List.mem_append, List.mem_singleton] at h ⊢
    rcases h with h | h
    ·exact .inl (.inl h)
    ·exact .inr h
 refine ⟨pK hc ht0 ht1 hH hF hFr (fun k hk => ?_) (fun k hk => ?_) (fun k hk e he h2 => ?_) (fun k hk e he => ?_), hFr, (bB e2.1).1, fun v hv => ?_⟩
 ·have hk2 : k < (qs.set i (aQ (poAt qs i) x' ls'.length c' ls')).length := by rw [← hH.1]; exact hk
  rw [← hFr k hk2, hls k hk]
  by_cases e : i = k
  ·subst e
   rw [if_pos rfl, hput.len, hF i hi]
   omega
  ·rw [if_neg e, hF k hk]
   exact (iO hc k hk).1
 ·rw [hls k hk]
  by_cases e : i = k
  ·subst e
   rw [if_pos rfl]
   exact DM (lR hc i hi) e2.1 e2.2 (EJ hput)
  ·rw [if_neg e]
   exact lR hc k hk
 ·rw [hls k hk]
  by_cases e' : i = k
  ·subst e'
   rw [if_pos rfl]
   exact (hmem e).2 (.inr he)
  ·rw [if_neg e']
   exact he
 ·rw [hls k hk] at he
  have hold : e ∈ (poAt ps k).ls → rB t ps (poAt ps k).id e = true := fun h => (pJ (hF k hk)).1 (eB (hpo k hk)).2.2.2 e h
  by_cases e' : i = k
  ·subst e'
   rw [if_pos rfl] at he
   rcases (hmem e).1 he with rfl | h
   ·unfold rB
    rw [if_pos rfl, how]
    rfl
   ·exact hold h
  ·rw [if_neg e'] at he
   exact hold he
 ·have h1 := NK (ps := qs) (i := i) (p := aQ (poAt qs i) x' ls'.length c' ls') (by rw [← hs.1]; exact hi) v
  have h2 := QS (ps := ps) (qs := qs) hs.1 (fun k hk => (hs.2 k hk).2.2.2.2.2.2.2.2.2.symm) v
  have h3 := NJ hput v
  rw [if_pos (by simp [hv])] at h3
  have h4 : (poAt qs i).ls = (poAt ps i).ls := (hs.2 i hi).2.2.2.2.2.2.2.2.2.symm
  have h5 : (aQ (poAt qs i) x' ls'.length c' ls').ls = ls' := rfl
  rw [h4, h5] at h1
  omega
def CA (c n : Int) : Int := if c < 0 then -((c + 1).tmod n) else c % n
theorem GT (c n : Int) (w : World) (hc0 : -9223372036854775808 ≤ c) (hc1 : c ≤ 9223372036854775807) (hn0 : 0 < n) (hn1 : n ≤ 65536) :
  Calls Tryz.prog 7 #[.int .i64 c, .int .i64 n] w fun e w' => e = .returned (.int .i64 (CA c n)) ∧ w' = w := by
 have hz : n ≠ 0 := by omega
 unfold CA
 by_cases hneg : c < 0
 ·rw [if_pos hneg]
  have h1 : IntKind.i64.wrap (c + 1) = c + 1 := by rw [IntKind.wrap_i64]; omega
  have h2 : IntKind.i64.wrap (-(c + 1)) = -(c + 1) := by rw [IntKind.wrap_i64]; omega
  go_enter Tryz.func7, Tryz.ntmps7
  go_wp2
  go_ret
  exact ⟨rfl, rfl⟩
 ·rw [if_neg hneg]
  go_enter Tryz.func7, Tryz.ntmps7
  go_wp2
  go_ret
  exact ⟨rfl, rfl⟩
theorem tZ : ∀ (n : Nat) (l : List Nat), l.Nodup → (∀ x ∈ l, x < n) → l.length ≤ n
 | 0, l, _, h => by
  match l, h with
  | [], _ => exact Nat.le_refl _
  | x :: r, h => exact absurd (h x (by simp)) (by omega)
 | n + 1, l, hn, h => by
  by_cases hm : n ∈ l
  ·have h1 := tZ n (l.erase n) (hn.erase n) (fun x hx => by
    have hx1 := h x (List.mem_of_mem_erase hx)
    have hx2 : x ≠ n := fun e => by
     subst e
     exact (List.Nodup.not_mem_erase hn) hx
    omega)
   rw [List.length_erase_of_mem hm] at h1
   omega
  ·have h1 := tZ n l hn (fun x hx => by
    have hx1 := h x hx
    have hx2 : x ≠ n := fun e => hm (e ▸ hx)
    omega)
   omega
theorem IM : ∀ (d e q : Nat), PY ps d q → PY ps e q → d = e
 | 0, 0, _, _, _ => rfl
 | 0, e + 1, q, h, g => absurd h.2 g.2.1
 | d + 1, 0, q, h, g => absurd g.2 h.2.1
 | d + 1, e + 1, q, h, g => by
  obtain ⟨-, -, r, h1, -, h2⟩ := h
  obtain ⟨-, -, s, g1, -, g2⟩ := g
  have : r = s := by omega
  subst this
  rw [IM d e r h2 g2]
theorem EK : ∀ (d q : Nat), PY ps d q → ∃ l : List Nat, l.length = d + 1 ∧ l.Nodup ∧ ∀ x ∈ l, x < ps.length ∧ ∃ e, e ≤ d ∧ PY ps e x
 | 0, q, h => ⟨[q], rfl, by simp, fun x hx => by
  obtain rfl : x = q := by simpa using hx
  exact ⟨h.1, 0, Nat.le_refl _, h⟩⟩
 | d + 1, q, h => by
  have hq := h
  obtain ⟨h0, -, r, -, -, h2⟩ := h
  obtain ⟨l, l1, l2, l3⟩ := EK d r h2
  refine ⟨q :: l, by rw [List.length_cons, l1], List.nodup_cons.2 ⟨fun hm => ?_, l2⟩, fun x hx => ?_⟩
  ·obtain ⟨-, e, he, hd⟩ := l3 q hm
   have := IM _ _ _ hq hd
   omega
  ·rcases List.mem_cons.1 hx with rfl | hx
   ·exact ⟨h0, d + 1, Nat.le_refl _, hq⟩
   ·obtain ⟨x1, e, he, hd⟩ := l3 x hx
    exact ⟨x1, e, by omega, hd⟩
theorem SW (h : PY ps d q) : d < ps.length := by
 obtain ⟨l, l1, l2, l3⟩ := EK d q h
 have := tZ ps.length l l2 (fun x hx => (l3 x hx).1)
 omega
theorem AV (hF : cC ps) : ∀ (d f q : Nat), PY ps d q → d < f → lH ps f (poAt ps q) = true
 | 0, f + 1, q, h, _ => by unfold lH; rw [if_pos h.2]
 | d + 1, f + 1, q, h, hf => by
  obtain ⟨-, h1, r, h2, h3, h4⟩ := h
  have hr := h4.lt
  unfold lH
  rw [if_neg h1, h2, if_neg (by omega), Int.toNat_natCast, if_pos ((kV (hF r hr)).2 h3)]
  exact AV hF d f r h4 (by omega)
theorem EL : mK ps j = true ↔ ∀ m, m < j → ((poAt ps j).up = 0 ∧ (poAt ps m).up = 0) → gF (poAt ps j).a (poAt ps j).l (poAt ps m).a (poAt ps m).l = false := by
 constructor
 ·intro h m hm hu
  cases hx : gF (poAt ps j).a (poAt ps j).l (poAt ps m).a (poAt ps m).l with
  | false => rfl
  | true =>
   have hy : aK j (kO ps (poAt ps j).a (poAt ps j).l) = true := aT hm (by unfold kO; rw [hu.2, fQ, hx]; rfl)
   unfold mK at h
   rw [hu.1, hy] at h
   cases h
 ·intro h
  unfold mK
  cases hu : ((poAt ps j).up == 0) with
  | false => rfl
  | true =>
   have hn : aK j (kO ps (poAt ps j).a (poAt ps j).l) = false := cY fun m hm => by
    unfold kO
    cases hv : ((poAt ps m).up == 0) with
    | false => rfl
    | true =>
     rw [fQ, h m hm ⟨by simpa using hu, by simpa using hv⟩]
     rfl
   rw [hn]
   rfl
def SX (q : Po) (x : Int) : Prop := ∃ e ∈ q.ls, e.kd = 2 ∧ e.ow = x
def L4 (t : Int) (ps : List Po) (id : Int) (e : Le) : Prop :=
 (e.kd = 1 ∧ dH e.ow 1 65536 = true ∧ e.un = 0) ∨ (e.kd = 2 ∧ e.un = 0 ∧ ∃ q ∈ ps, q.id = e.ow ∧ q.up = id ∧ q.a = e.a ∧ q.l = e.l) ∨ (e.kd = 3 ∧ e.ow = 0 ∧ t < e.un ∧ e.un ≤ t + 1024)
structure RB (t : Int) (ps : List Po) : Prop where
 few : ps.length ≤ 8
 t0 : 0 ≤ t
 t1 : t ≤ 1073741824
 idw : ∀ p ∈ ps, dH p.id 1 65536 = true
 rise : ps.Pairwise fun p q => p.id < q.id
 tops : ps.Pairwise fun p q => p.up = 0 → q.up = 0 → gF p.a p.l q.a q.l = false
 n32 : ∀ p ∈ ps, p.ls.length ≤ 32
 root : ∀ p ∈ ps, rt p.a p.l = true
 used : ∀ p ∈ ps, nE (lp p.ls) p.a p.l
 rule : ∀ p ∈ ps, dJ p.mn p.mx p.us p.co p.l = true
 ups : ∀ p ∈ ps, ∃ f, lH ps f p = true
 les : ∀ p ∈ ps, ∀ e ∈ p.ls, L4 t ps p.id e
theorem poAt_mem (h : i < ps.length) : poAt ps i ∈ ps := by rw [bC h]; exact List.getElem_mem h
theorem bJ (h : p ∈ ps) : ∃ i, i < ps.length ∧ poAt ps i = p := by
 obtain ⟨i, hi, rfl⟩ := List.mem_iff_getElem.1 h
 exact ⟨i, hi, bC hi⟩
theorem CB (h : ps.Pairwise fun p q => p.id < q.id) {p q : Po} (hp : p ∈ ps) (hq : q ∈ ps) (e : p.id = q.id) : p = q := by
 obtain ⟨i, hi, rfl⟩ := List.mem_iff_getElem.1 hp
 obtain ⟨j, hj, rfl⟩ := List.mem_iff_getElem.1 hq
 rw [List.pairwise_iff_getElem] at h
 rcases Nat.lt_trichotomy i j with c | c | c
 ·have := h i j hi hj c
  omega
 ·subst c; rfl
 ·have := h j i hj hi c
  omega
theorem GU (h : ps.Pairwise fun p q => p.id < q.id) {q : Po} (hq : q ∈ ps) : ∃ i : Nat, i < ps.length ∧ aN ps q.id = i ∧ poAt ps i = q := by
 obtain ⟨i, hi, e⟩ := bJ hq
 refine ⟨i, hi, nQ hi (by rw [e]) (fun j hj e2 => ?_), e⟩
 rw [List.pairwise_iff_getElem] at h
 have := h j i (by omega) hi hj
 rw [← bC (show j < ps.length by omega), ← bC hi, e, e2] at this
 omega
theorem cC.mem (h : cC ps) {p : Po} (hp : p ∈ ps) : p.ls.length = p.n := by
 obtain ⟨i, hi, rfl⟩ := bJ hp
 exact h i hi
theorem CC (h : ∀ p ∈ ps, p.ls.length = p.n) : cC ps := fun _ hi => h _ (poAt_mem hi)
theorem up_step (hF : cC ps) (h : ps.Pairwise fun p q => p.id < q.id) {f : Nat} {p : Po} : lH ps (f + 1) p = true ↔ p.up = 0 ∨ ∃ q ∈ ps, q.id = p.up ∧ SX q p.id ∧ lH ps f q = true := by
 by_cases c : p.up = 0
 ·simp [SK c, c]
 ·constructor
  ·intro g
   unfold lH at g
   rw [if_neg c] at g
   by_cases c2 : aN ps p.up < 0
   ·rw [if_pos c2] at g; cases g
   ·rw [if_neg c2] at g
    obtain ⟨i, hi, hat, he⟩ := aR c2
    rw [hat, Int.toNat_natCast] at g
    by_cases c3 : aK (poAt ps i).n (fN (poAt ps i).ls p.id) = true
    ·rw [if_pos c3] at g
     exact .inr ⟨_, poAt_mem hi, he, (kV (hF i hi)).1 c3, g⟩
    ·rw [if_neg c3] at g; cases g
  ·rintro (g | ⟨q, hq, h1, h2, h3⟩)
   ·exact absurd g c
   ·obtain ⟨i, hi, hat, rfl⟩ := GU h hq
    rw [IJ c (by rw [← h1]; exact hat) ((kV (hF i hi)).2 h2)]
    exact h3
theorem wS (hp : cC ps) (hq : cC qs) (rp : ps.Pairwise fun p q => p.id < q.id) (rq : qs.Pairwise fun p q => p.id < q.id) (gone : Int)
  (hR : ∀ x, x ≠ gone → ∀ q ∈ ps, SX q x → q.id ≠ gone ∧ ∃ q' ∈ qs, q'.id = q.id ∧ q'.up = q.up ∧ SX q' x) :
  ∀ (f : Nat) (p p' : Po), p.id ≠ gone → p'.id = p.id → p'.up = p.up → lH ps f p = true → lH qs f p' = true
 | 0, p, p', _, _, _, h => by unfold lH at h; cases h
 | f + 1, p, p', hg, e1, e2, h => by
  rw [up_step hp rp] at h
  rw [up_step hq rq]
  rcases h with h | ⟨q, m, h1, h2, h3⟩
  ·exact .inl (e2.trans h)
  ·obtain ⟨g1, q', m', k1, k2, k3⟩ := hR p.id hg q m h2
   exact .inr ⟨q', m', by rw [k1, h1, e2], by rw [e1]; exact k3, wS hp hq rp rq gone hR f q q' g1 k1 k2 h3⟩
theorem NL (hF : cC ps) {p : Po} (hp : p ∈ ps) (h : ∃ f, lH ps f p = true) : lH ps ps.length p = true := by
 obtain ⟨i, hi, rfl⟩ := bJ hp
 obtain ⟨f, h⟩ := h
 obtain ⟨d, hd⟩ := SU hF f i hi h
 exact AV hF d _ i hd (SW hd)
theorem lT : lO ps.length ps = true ↔ (ps.Pairwise fun p q => p.id < q.id) ∧ ∀ p ∈ ps, dH p.id 1 65536 = true := by
 constructor
 ·intro h
  refine ⟨?_, fun p hp => ?_⟩
  ·rw [List.pairwise_iff_getElem]
   intro i j hi hj hij
   have := SV h i (j - i - 1) (by omega)
   rw [show i + (j - i - 1) + 1 = j by omega, bC hi, bC hj] at this
   exact this
  ·obtain ⟨i, hi, rfl⟩ := bJ hp
   unfold lO at h
   rw [Bool.and_eq_true] at h
   cases e : dH (poAt ps i).id 1 65536
   ·rw [aT (f := fun i => !dH (poAt ps i).id 1 65536) hi (by simp [e])] at h
    exact absurd h.2 (by decide)
   ·rfl
 ·rintro ⟨h1, h2⟩
  unfold lO iE
  rw [Bool.and_eq_true, List.all_eq_true]
  refine ⟨fun i hi => ?_, ?_⟩
  ·have hi' : i < ps.length := by simpa using hi
   unfold fS
   cases i with
   | zero => rfl
   | succ i =>
    rw [List.pairwise_iff_getElem] at h1
    have := h1 i (i + 1) (by omega) hi' (by omega)
    rw [← bC (show i < ps.length by omega), ← bC hi'] at this
    simpa using this
  ·rw [cY (fun i hi => by rw [h2 _ (poAt_mem hi)]; rfl)]
   rfl
theorem jO : gH ps = true ↔ ps.Pairwise fun p q => p.up = 0 → q.up = 0 → gF p.a p.l q.a q.l = false := by
 unfold gH
 rw [List.all_eq_true, List.pairwise_iff_getElem]
 constructor
 ·intro h i j hi hj hij u1 u2
  have h1 := EL.1 (h j (by simpa using hj)) i hij
  rw [bC hi, bC hj] at h1
  rw [fQ]
  exact h1 ⟨u2, u1⟩
 ·intro h j hj
  have hj' : j < ps.length := by simpa using hj
  refine EL.2 (fun i hij ⟨u2, u1⟩ => ?_)
  have h1 := h i j (by omega) hj' hij
  rw [← bC (show i < ps.length by omega), ← bC hj'] at h1
  rw [fQ]
  exact h1 u1 u2
theorem CD (h : ps.Pairwise fun p q => p.id < q.id) {id : Int} {e : Le} : rB t ps id e = true ↔ L4 t ps id e := by
 unfold rB L4
 by_cases c1 : e.kd = 1
 ·rw [if_pos c1]
  simp [c1]
 ·rw [if_neg c1]
  by_cases c2 : e.kd = 2
  ·rw [if_pos c2]
   constructor
   ·intro g
    by_cases c3 : aN ps e.ow < 0
    ·rw [if_pos c3] at g; cases g
    ·rw [if_neg c3] at g
     obtain ⟨i, hi, hat, he⟩ := aR c3
     rw [hat, Int.toNat_natCast] at g
     unfold SM at g
     simp only [Bool.and_eq_true, decide_eq_true_eq, beq_iff_eq] at g
     exact .inr (.inl ⟨c2, g.2, _, poAt_mem hi, he, g.1.1, g.1.2.1, g.1.2.2⟩)
   ·rintro (g | ⟨-, g, q, hq, k1, k2, k3, k4⟩ | g)
    ·exact absurd g.1 c1
    ·obtain ⟨i, hi, hat, rfl⟩ := GU h hq
     rw [k1] at hat
     rw [if_neg (by omega), hat, Int.toNat_natCast]
     unfold SM
     simp [k2, k3, k4, g]
    ·omega
  ·rw [if_neg c2]
   by_cases c3 : e.kd = 3
   ·rw [if_pos c3]
    simp [c3]
   ·rw [if_neg c3]
    simp [c1, c2, c3]
theorem jZ (hF : cC ps) (h : aS t ps = 0) : RB t ps := by
 obtain ⟨h8, ⟨ht0, ht1⟩, hi, ht, hpo⟩ := gS h
 obtain ⟨hr, hw⟩ := lT.1 hi
 have hat : ∀ p ∈ ps, kT t ps ps.length p = true := fun p hp => by
  obtain ⟨i, hi, rfl⟩ := bJ hp
  exact hpo i hi
 refine ⟨h8, ht0, ht1, hw, hr, jO.1 ht, fun p hp => ?_, fun p hp => ?_, fun p hp => ?_, fun p hp => (eB (hat p hp)).2.1, fun p hp => ⟨_, (eB (hat p hp)).2.2.1⟩, fun p hp e he => ?_⟩
 ·rw [hF.mem hp]
  exact (iC (eB (hat p hp)).1).1
 ·exact (iC (eB (hat p hp)).1).2.1
 ·exact IE (iC (eB (hat p hp)).1).2.2
 ·exact (CD hr).1 ((pJ (hF.mem hp)).1 (eB (hat p hp)).2.2.2 e he)
theorem RB.chk (h : RB t ps) (hF : cC ps) : aS t ps = 0 := by
 refine B4 h.few ?_
 have hw : dH t 0 1073741824 = true := by unfold dH; simp [h.t0, h.t1]
 rw [hw, lT.2 ⟨h.rise, h.idw⟩, jO.2 h.tops]
 simp only [Bool.true_and]
 refine tU fun j hj => ?_
 have hp := poAt_mem hj
 unfold kT
 have k1 : kN (poAt ps j).a (poAt ps j).l (poAt ps j).n (lp (poAt ps j).ls) = 0 := by
  unfold kN
  rw [if_neg (by have := h.n32 _ hp; rw [hF j hj] at this; omega), h.root _ hp, DL (h.used _ hp)]
  rfl
 have k4 : zV t ps (poAt ps j) = true := (pJ (hF j hj)).2 fun e he => (CD h.rise).2 (h.les _ hp e he)
 rw [k1, NL hF hp (h.ups _ hp), k4, h.rule _ hp]
 rfl
theorem oF (hF : cC ps) (h : cT ps qs) (hc : aS t ps = 0) : aS t qs = 0 ∧ cC qs := by
 have hH : fD ps qs := ⟨h.1, fun i hi => (h.2 i hi).head⟩
 have hls : ∀ k, k < ps.length → (poAt qs k).ls = (poAt ps k).ls ∧ (poAt qs k).n = (poAt ps k).n := fun k hk => ⟨(h.2 k hk).2.2.2.2.2.2.2.2.2.symm, (h.2 k hk).2.2.2.2.2.2.2.2.1.symm⟩
 have hFq : cC qs := fun k hk => by
  have hk2 : k < ps.length := by rw [h.1]; exact hk
  rw [(hls k hk2).1, (hls k hk2).2]
  exact hF k hk2
 obtain ⟨-, ⟨ht0, ht1⟩, -, -, hpo⟩ := gS hc
 refine ⟨pK hc ht0 ht1 hH hF hFq (fun k hk => ?_) (fun k hk => ?_) (fun k hk e he h2 => ?_) (fun k hk e he => ?_), hFq⟩
 ·rw [(hls k hk).2]; exact (iO hc k hk).1
 ·rw [(hls k hk).1]; exact lR hc k hk
 ·rw [(hls k hk).1]; exact he
 ·rw [(hls k hk).1] at he
  exact (pJ (hF k hk)).1 (eB (hpo k hk)).2.2.2 e he
theorem xW {α : Type} {R : α → α → Prop} {qs : List α} {e : α} {i : Nat} (h : qs.Pairwise R) (h1 : ∀ x ∈ qs.take i, R x e) (h2 : ∀ x ∈ qs.drop i, R e x) : (qs.take i ++ [e] ++ qs.drop i).Pairwise R := by
 rw [← List.take_append_drop i qs, List.pairwise_append] at h
 obtain ⟨p1, p2, p3⟩ := h
 rw [List.append_assoc, List.pairwise_append]
 refine ⟨p1, List.pairwise_cons.2 ⟨h2, p2⟩, fun a ha b hb => ?_⟩
 rcases List.mem_cons.1 hb with rfl | hb
 ·exact h1 a ha
 ·exact p3 a ha b hb
theorem kW {α : Type} {qs : List α} {e x : α} {i : Nat} : x ∈ qs.take i ++ [e] ++ qs.drop i ↔ x = e ∨ x ∈ qs := by
 have : x ∈ qs ↔ x ∈ qs.take i ∨ x ∈ qs.drop i := by rw [← List.mem_append, List.take_append_drop]
 rw [this]
 simp only [List.mem_append, List.mem_singleton]
 constructor
 ·rintro ((h | h) | h)
  ·exact .inr (.inl h)
  ·exact .inl h
  ·exact .inr (.inr h)
 ·rintro (h | h | h)
  ·exact .inl (.inr h)
  ·exact .inl (.inl h)
  ·exact .inr h
theorem EM {e : Po} (h : qs.Pairwise fun p q => p.id < q.id) (hp : jB e qs rs) (hno : ∀ q ∈ qs, q.id ≠ e.id) : rs.Pairwise fun p q => p.id < q.id := by
 obtain ⟨i, hi, h1, h2, rfl⟩ := hp
 refine xW h (fun x hx => ?_) (fun x hx => ?_)
 ·obtain ⟨j, hj, rfl⟩ := List.mem_iff_getElem.1 hx
  rw [List.length_take] at hj
  have hm : (qs.take i)[j] ∈ qs := List.mem_of_mem_take hx
  have g1 := h1 j (by omega)
  rw [bC (by omega)] at g1
  have g2 := hno _ hm
  rw [List.getElem_take] at g2 ⊢
  omega
 ·obtain ⟨j, hj, rfl⟩ := List.mem_iff_getElem.1 hx
  rw [List.length_drop] at hj
  rw [List.getElem_drop]
  have g1 := h2 (by omega)
  rw [bC (by omega)] at g1
  by_cases c : j = 0
  ·subst c
   exact g1
  ·rw [List.pairwise_iff_getElem] at h
   have := h i (i + j) (by omega) (by omega) (by omega)
   omega
theorem J4 (h : chk a l = 0) : rt a l = true := by unfold rt; rw [h]; rfl
theorem GV {id : Int} (hF : cC ps) (hE : fT t ps id a l mn mx us co = 0) (hs : cT ps qs) (hp : jB ⟨id, 0, a, l, mn, mx, us, co, none, 0, 0, []⟩ qs rs) : aS t rs = 0 ∧ cC rs := by
 unfold fT at hE
 by_cases c0 : aS t ps = 0
 ·rw [if_neg (by simp [c0])] at hE
  by_cases c1 : dH id 1 65536 = false ∨ chk a l ≠ 0
  ·rw [if_pos c1] at hE; omega
  rw [if_neg c1] at hE
  by_cases c2 : 0 ≤ aN ps id ∨ aK ps.length (kO ps a l) = true
  ·rw [if_pos c2] at hE; omega
  rw [if_neg c2] at hE
  unfold nF at hE
  by_cases c3 : dJ mn mx us co l = false
  ·rw [if_pos c3] at hE; omega
  rw [if_neg c3] at hE
  by_cases c4 : ps.length = 8
  ·rw [if_pos c4] at hE; omega
  simp only [not_or, Classical.not_not, Bool.not_eq_false, Bool.not_eq_true] at c1 c2
  have hrt : rt a l = true := by
   have h1 := c1.2
   exact J4 h1
  have hno : ∀ q ∈ qs, q.id ≠ id := fun q hq e => by
   obtain ⟨i, hi, rfl⟩ := bJ hq
   have hi2 : i < ps.length := by rw [hs.1]; exact hi
   exact gT (id := id) (by omega) i hi2 (by rw [(hs.2 i hi2).1]; exact e)
  have htop : ∀ q ∈ qs, q.up = 0 → gF q.a q.l a l = false := fun q hq e => by
   obtain ⟨i, hi, rfl⟩ := bJ hq
   have hi2 : i < ps.length := by rw [hs.1]; exact hi
   obtain ⟨-, s2, s3, s4, -⟩ := hs.2 i hi2
   cases hx : gF (poAt qs i).a (poAt qs i).l a l
   ·rfl
   ·rw [aT (f := kO ps a l) hi2 (by unfold kO; rw [s2, s3, s4, e, hx]; rfl)] at c2
    exact absurd c2.2 (by decide)
  obtain ⟨hcq, hFq⟩ := oF hF hs c0
  have hB := jZ hFq hcq
  have hr := EM hB.rise hp hno
  obtain ⟨k, hk, -, -, e⟩ := hp
  have hmem : ∀ x, x ∈ rs ↔ x = ⟨id, 0, a, l, mn, mx, us, co, none, 0, 0, []⟩ ∨ x ∈ qs := fun x => by rw [e]; exact kW
  have hFr : cC rs := CC fun p hp => by
   rcases (hmem p).1 hp with rfl | h
   ·rfl
   ·exact hFq.mem h
  have ev : ∀ (P : Po → Prop), P ⟨id, 0, a, l, mn, mx, us, co, none, 0, 0, []⟩ → (∀ q ∈ qs, P q) → ∀ p ∈ rs, P p := fun P h1 h2 p hp => by
   rcases (hmem p).1 hp with rfl | h
   ·exact h1
   ·exact h2 p h
  refine ⟨RB.chk ⟨?_, hB.t0, hB.t1, ?_, hr, ?_, ?_, ?_, ?_, ?_, ?_, ?_⟩ hFr, hFr⟩
  ·have h8 := hB.few
   have h9 := hs.1
   rw [e]
   simp
   omega
  ·exact ev _ (by simpa using c1.1) hB.idw
  ·rw [e]
   refine xW hB.tops (fun x hx u _ => htop x (List.mem_of_mem_take hx) u) (fun x hx _ u => ?_)
   rw [fQ]
   exact htop x (List.mem_of_mem_drop hx) u
  ·exact ev _ (Nat.zero_le _) hB.n32
  ·exact ev _ hrt hB.root
  ·exact ev (fun p => nE (lp p.ls) p.a p.l) ⟨fun u hu => absurd hu (by simp [lp]), by simp [lp]⟩ hB.used
  ·exact ev _ (by simpa using c3) hB.rule
  ·refine ev (fun p => ∃ f, lH rs f p = true) ⟨1, SK rfl⟩ (fun q hq => ?_)
   obtain ⟨f, hf⟩ := hB.ups q hq
   have h0 : ∀ q ∈ qs, q.id ≠ 0 := fun q hq e0 => by
    have := hB.idw q hq
    rw [e0] at this
    exact absurd this (by decide)
   exact ⟨f, wS hFq hFr hB.rise hr 0 (fun x _ q' hq' h2 => ⟨h0 q' hq', q', (hmem q').2 (.inr hq'), rfl, rfl, h2⟩) f q q (h0 q hq) rfl rfl hf⟩
  ·refine ev (fun p => ∀ e ∈ p.ls, L4 t rs p.id e) (fun e he => absurd he (by simp)) (fun q hq e he => ?_)
   rcases hB.les q hq e he with h | ⟨h1, h2, q', hq', h3⟩ | h
   ·exact .inl h
   ·exact .inr (.inl ⟨h1, h2, q', (hmem q').2 (.inr hq'), h3⟩)
   ·exact .inr (.inr h)
 ·rw [if_pos c0] at hE
  exact absurd hE c0
def U1 (p : Po) (j : Nat) (t : Int) : Le := ⟨(aM p.ls j).a, (aM p.ls j).l, 3, 0, t + p.co⟩
theorem iQ (h : i < ls.length) : aM ls i = ls[i] := by unfold aM; rw [List.getD_eq_getElem?_getD, List.getElem?_eq_getElem h]; rfl
theorem cool_mem (hj : j < p.ls.length) (h : e ∈ cD p j t) : (∃ k, k ≠ j ∧ k < p.ls.length ∧ aM p.ls k = e) ∨ (p.co ≠ 0 ∧ e = U1 p j t) := by
 unfold cD at h
 by_cases c : p.co = 0
 ·rw [if_pos c] at h
  rcases List.mem_append.1 h with h | h
  ·obtain ⟨k, hk, rfl⟩ := List.mem_iff_getElem.1 h
   have hk' := hk
   rw [List.length_take] at hk'
   exact .inl ⟨k, by omega, by omega, by rw [iQ (by omega), List.getElem_take]⟩
  ·obtain ⟨k, hk, rfl⟩ := List.mem_iff_getElem.1 h
   have hk' := hk
   rw [List.length_drop] at hk'
   exact .inl ⟨j + 1 + k, by omega, by omega, by rw [iQ (by omega), List.getElem_drop]⟩
 ·rw [if_neg c] at h
  obtain ⟨k, hk, rfl⟩ := List.mem_iff_getElem.1 h
  have hk' := hk
  rw [List.length_set] at hk'
  rw [List.getElem_set]
  by_cases e : j = k
  ·rw [if_pos e]; exact .inr ⟨c, rfl⟩
  ·rw [if_neg e]; exact .inl ⟨k, fun h => e h.symm, hk', iQ hk'⟩
theorem sI (hj : j < p.ls.length) (hk : k < p.ls.length) (hne : k ≠ j) : aM p.ls k ∈ cD p j t := by
 unfold cD
 split
 ·rw [iQ hk]
  by_cases c : k < j
  ·refine List.mem_append.2 (.inl ?_)
   have h1 : k < (p.ls.take j).length := by rw [List.length_take]; omega
   have := List.getElem_mem h1
   rwa [List.getElem_take] at this
  ·refine List.mem_append.2 (.inr ?_)
   have h1 : k - (j + 1) < (p.ls.drop (j + 1)).length := by rw [List.length_drop]; omega
   have := List.getElem_mem h1
   rw [List.getElem_drop] at this
   rwa [show p.ls[j + 1 + (k - (j + 1))] = p.ls[k] from by congr 1; omega] at this
 ·rw [iQ hk]
  have h1 : k < (p.ls.set j ⟨(aM p.ls j).a, (aM p.ls j).l, 3, 0, t + p.co⟩).length := by rw [List.length_set]; exact hk
  have := List.getElem_mem h1
  rwa [List.getElem_set, if_neg (fun e => hne e.symm)] at this
theorem EN : (cD p j t).length ≤ p.ls.length := by
 unfold cD
 split
 ·simp; omega
 ·simp
theorem AW (hj : j < p.ls.length) (h : nE (lp p.ls) a l) : nE (lp (cD p j t)) a l := by
 unfold cD
 split
 ·have hs : (p.ls.take j ++ p.ls.drop (j + 1)).Sublist p.ls := by
   have h1 : (p.ls.take j ++ p.ls.drop (j + 1)).Sublist (p.ls.take j ++ p.ls.drop j) := List.Sublist.append_left (List.drop_sublist_drop_left _ (by omega)) _
   rwa [List.take_append_drop] at h1
  have hs2 : (lp (p.ls.take j ++ p.ls.drop (j + 1))).Sublist (lp p.ls) := hs.map _
  exact ⟨fun u hu => h.inn u (hs2.subset hu), h.rise.sublist hs2⟩
 ·have e : lp (p.ls.set j ⟨(aM p.ls j).a, (aM p.ls j).l, 3, 0, t + p.co⟩) = lp p.ls := by
   unfold lp
   rw [List.map_set]
   refine List.ext_getElem (by simp) fun k h1 h2 => ?_
   rw [List.getElem_set]
   split
   ·rename_i e
    subst e
    rw [List.getElem_map, iQ hj]
   ·rfl
  rw [e]
  exact h
theorem NM (h : nE (lp ls) a l) {i k : Nat} (hi : i < ls.length) (hk : k < ls.length) (e : (aM ls i).a = (aM ls k).a) : i = k := by
 have hr := h.rise
 unfold lp at hr
 rw [List.pairwise_map, List.pairwise_iff_getElem] at hr
 rw [iQ hi, iQ hk] at e
 rcases Nat.lt_trichotomy i k with c | c | c
 ·have h1 := hr i k hi hk c
  have h2 := cG ls[i].l
  simp only at h1
  omega
 ·exact c
 ·have h1 := hr k i hk hi c
  have h2 := cG ls[k].l
  simp only at h1
  omega
theorem AX {id : Int} (hr : dJ p.mn p.mx p.us p.co p.l = true) (hc : p.co ≠ 0) : L4 t ps id (U1 p j t) := by
 obtain ⟨h0, h1⟩ := (B6 hr).2.2.2.2
 exact .inr (.inr ⟨rfl, rfl, by show t < t + p.co; omega, by show t + p.co ≤ t + 1024; omega⟩)
theorem xX {id : Int} (hF : cC ps) (hE : jC t ps id a l = 0) (hR : vC t ps id a l t' rs) : t' = t ∧ aS t rs = 0 ∧ cC rs := by
 obtain ⟨ht, qs, x', c', hs, hrs⟩ := hR
 refine ⟨ht, ?_⟩
 unfold jC at hE
 by_cases c0 : aS t ps = 0
 ·rw [if_neg (by simp [c0])] at hE
  by_cases c1 : aN ps id < 0
  ·rw [if_pos c1] at hE; omega
  rw [if_neg c1] at hE
  obtain ⟨i, hi, hat, -⟩ := aR c1
  rw [hat, Int.toNat_natCast] at hE hrs
  by_cases c2 : bM (poAt ps i).n (tW (poAt ps i).ls a l) < 0
  ·rw [if_pos c2] at hE; omega
  obtain ⟨j, hj, hfa, hu⟩ := iF c2
  rw [hfa, Int.toNat_natCast] at hrs
  have hjl : j < (poAt ps i).ls.length := by rw [hF i hi]; exact hj
  obtain ⟨hH, hFr, hls⟩ := lS (x' := x') (c' := c') (ls' := cD (poAt ps i) j t) hs hF hi
  rw [← hrs] at hH hFr hls
  have hkd : (aM (poAt ps i).ls j).kd = 1 := by
   unfold tW at hu
   simp only [Bool.and_eq_true, beq_iff_eq] at hu
   exact hu.1
  have hB := jZ hF c0
  refine ⟨pK c0 hB.t0 hB.t1 hH hF hFr (fun k hk => ?_) (fun k hk => ?_) (fun k hk e he h2 => ?_) (fun k hk e he => ?_), hFr⟩
  ·rw [← hFr k (by rw [← hH.1]; exact hk), hls k hk]
   have h32 := hB.n32 _ (poAt_mem hk)
   split
   ·rename_i e; subst e
    exact Nat.le_trans EN h32
   ·exact h32
  ·rw [hls k hk]
   split
   ·rename_i e; subst e
    exact AW hjl (lR c0 i hi)
   ·exact lR c0 k hk
  ·rw [hls k hk]
   split
   ·rename_i e'; subst e'
    obtain ⟨m, hm, rfl⟩ := iP he
    exact sI hjl hm (fun e => by rw [e, hkd] at h2; omega)
   ·exact he
  ·rw [hls k hk] at he
   refine (CD hB.rise).2 ?_
   split at he
   ·rename_i e'; subst e'
    rcases cool_mem hjl he with ⟨m, -, hm, rfl⟩ | ⟨hc, rfl⟩
    ·exact hB.les _ (poAt_mem hi) _ (eR hm)
    ·exact AX (hB.rule _ (poAt_mem hi)) hc
   ·exact hB.les _ (poAt_mem hk) _ he
 ·rw [if_pos c0] at hE
  exact absurd hE c0
theorem GW (h : ps.Pairwise fun p q => p.id < q.id) {i k : Nat} (hi : i < ps.length) (hk : k < ps.length) (e : (poAt ps i).id = (poAt ps k).id) : i = k := by
 rw [List.pairwise_iff_getElem] at h
 rw [bC hi, bC hk] at e
 rcases Nat.lt_trichotomy i k with c | c | c
 ·have := h i k hi hk c
  omega
 ·exact c
 ·have := h k i hk hi c
  omega
theorem L4.move {id : Int} (h : L4 t ps id e) (hm : ∀ q ∈ ps, e.kd = 2 → q.id = e.ow → ∃ q' ∈ qs, q'.id = q.id ∧ q'.up = q.up ∧ q'.a = q.a ∧ q'.l = q.l) : L4 t qs id e := by
 rcases h with h | ⟨h1, h2, q, hq, h3, h4, h5, h6⟩ | h
 ·exact .inl h
 ·obtain ⟨q', hq', k1, k2, k3, k4⟩ := hm q hq h1 h3
  exact .inr (.inl ⟨h1, h2, q', hq', k1.trans h3, k2.trans h4, k3.trans h5, k4.trans h6⟩)
 ·exact .inr (.inr h)
theorem CE {x : Po} (hi : i < qs.length) : x ∈ qs.take i ++ qs.drop (i + 1) ↔ ∃ k, k < qs.length ∧ k ≠ i ∧ poAt qs k = x := by
 constructor
 ·intro h
  obtain ⟨j, hj, rfl⟩ := bJ h
  have hj' : j < qs.length - 1 := by simp at hj; omega
  rw [oC hi]
  by_cases c : j < i
  ·exact ⟨j, by omega, by omega, by rw [if_pos c]⟩
  ·exact ⟨j + 1, by omega, by omega, by rw [if_neg c]⟩
 ·rintro ⟨k, hk, hne, rfl⟩
  have hl : (qs.take i ++ qs.drop (i + 1)).length = qs.length - 1 := by simp; omega
  by_cases c : k < i
  ·have := poAt_mem (ps := qs.take i ++ qs.drop (i + 1)) (i := k) (by omega)
   rwa [oC hi, if_pos c] at this
  ·have := poAt_mem (ps := qs.take i ++ qs.drop (i + 1)) (i := k - 1) (by omega)
   rwa [oC hi, if_neg (by omega), show k - 1 + 1 = k by omega] at this
theorem pM : (qs.take i ++ qs.drop (i + 1)).Sublist qs := by
 have h1 : (qs.take i ++ qs.drop (i + 1)).Sublist (qs.take i ++ qs.drop i) := List.Sublist.append_left (List.drop_sublist_drop_left _ (by omega)) _
 rwa [List.take_append_drop] at h1
structure SY (t : Int) (ps : List Po) (id : Int) (qs : List Po) : Prop where
 heads : fD ps qs
 full : cC qs
 few : ∀ k, k < ps.length → (poAt qs k).ls.length ≤ 32
 used : ∀ k, k < ps.length → nE (lp (poAt qs k).ls) (poAt ps k).a (poAt ps k).l
 old : ∀ k, k < ps.length → ∀ e ∈ (poAt qs k).ls, L4 t ps (poAt ps k).id e ∧ ¬ (e.kd = 2 ∧ e.ow = id)
 kept : ∀ k, k < ps.length → ∀ e ∈ (poAt ps k).ls, e.kd = 2 → e.ow ≠ id → e ∈ (poAt qs k).ls
theorem SY.right (hF : cC ps) (hB : RB t ps) (hi : i < ps.length) (hno : ∀ e ∈ (poAt ps i).ls, e.kd ≠ 2) (h : SY t ps (poAt ps i).id qs) : aS t (qs.take i ++ qs.drop (i + 1)) = 0 ∧ cC (qs.take i ++ qs.drop (i + 1)) := by
 have hql : qs.length = ps.length := h.heads.1.symm
 have hiq : i < qs.length := by omega
 have hids := lT.1 (show lO qs.length qs = true by rw [xU h.heads]; exact lT.2 ⟨hB.rise, hB.idw⟩)
 have htop := jO.1 (show gH qs = true by rw [tY h.heads]; exact jO.2 hB.tops)
 have hFr : cC (qs.take i ++ qs.drop (i + 1)) := CC fun p hp => h.full.mem (pM.subset hp)
 have ev : ∀ (P : Po → Prop), (∀ k, k < ps.length → k ≠ i → P (poAt qs k)) → ∀ p ∈ qs.take i ++ qs.drop (i + 1), P p := fun P hP p hp => by
  obtain ⟨k, hk, hne, rfl⟩ := (CE hiq).1 hp
  exact hP k (by omega) hne
 have hin : ∀ k, k < ps.length → k ≠ i → poAt qs k ∈ qs.take i ++ qs.drop (i + 1) := fun k hk hne => (CE hiq).2 ⟨k, by omega, hne, rfl⟩
 have hne : ∀ k, k < ps.length → k ≠ i → (poAt ps k).id ≠ (poAt ps i).id := fun k hk hne e => hne (GW hB.rise hk hi e)
 have hrise := hids.1.sublist (pM (qs := qs) (i := i))
 refine ⟨RB.chk ⟨?_, hB.t0, hB.t1, fun p hp => hids.2 p (pM.subset hp), hrise, htop.sublist pM, ?_, ?_, ?_, ?_, ?_, ?_⟩ hFr, hFr⟩
 ·have := hB.few
  have := pM (qs := qs) (i := i) |>.length_le
  omega
 ·exact ev _ (fun k hk _ => h.few k hk)
 ·refine ev (fun p => rt p.a p.l = true) (fun k hk _ => ?_)
  obtain ⟨-, -, e3, e4, -⟩ := h.heads.2 k hk
  rw [← e3, ← e4]
  exact hB.root _ (poAt_mem hk)
 ·refine ev (fun p => nE (lp p.ls) p.a p.l) (fun k hk _ => ?_)
  obtain ⟨-, -, e3, e4, -⟩ := h.heads.2 k hk
  rw [← e3, ← e4]
  exact h.used k hk
 ·refine ev (fun p => dJ p.mn p.mx p.us p.co p.l = true) (fun k hk _ => ?_)
  obtain ⟨-, -, -, e4, e5, e6, e7, e8⟩ := h.heads.2 k hk
  rw [← e4, ← e5, ← e6, ← e7, ← e8]
  exact hB.rule _ (poAt_mem hk)
 ·refine ev (fun p => ∃ f, lH (qs.take i ++ qs.drop (i + 1)) f p = true) (fun k hk hk2 => ?_)
  obtain ⟨f, hf⟩ := hB.ups _ (poAt_mem hk)
  obtain ⟨e1, e2, -⟩ := h.heads.2 k hk
  refine ⟨f, wS hF hFr hB.rise hrise (poAt ps i).id (fun x hx q hq h2 => ?_) f (poAt ps k) (poAt qs k) (hne k hk hk2) e1.symm e2.symm hf⟩
  obtain ⟨m, hm, rfl⟩ := bJ hq
  obtain ⟨e, he, k1, k2⟩ := h2
  have hmi : m ≠ i := fun c => by
   subst c
   exact hno e he k1
  obtain ⟨g1, g2, -⟩ := h.heads.2 m hm
  exact ⟨hne m hm hmi, _, hin m hm hmi, g1.symm, g2.symm, e, h.kept m hm e he k1 (by rw [k2]; exact hx), k1, k2⟩
 ·refine ev (fun p => ∀ e ∈ p.ls, L4 t (qs.take i ++ qs.drop (i + 1)) p.id e) (fun k hk hk2 e he => ?_)
  obtain ⟨g1, g2⟩ := h.old k hk e he
  rw [← (h.heads.2 k hk).1]
  refine g1.move (fun q hq h2 ho => ?_)
  obtain ⟨m, hm, rfl⟩ := bJ hq
  have hmi : m ≠ i := fun c => by
   subst c
   exact g2 ⟨h2, ho.symm⟩
  obtain ⟨e1, e2, e3, e4, -⟩ := h.heads.2 m hm
  exact ⟨_, hin m hm hmi, e1.symm, e2.symm, e3.symm, e4.symm⟩
theorem EO {id : Int} (hF : cC ps) (hE : gU t ps id = 0) (hR : oD t ps id t' rs) : t' = t ∧ aS t rs = 0 ∧ cC rs := by
 obtain ⟨ht, qs, hA, hC, hrs⟩ := hR
 refine ⟨ht, ?_⟩
 unfold gU at hE
 by_cases c0 : aS t ps = 0
 ·rw [if_neg (by simp [c0])] at hE
  by_cases c1 : aN ps id < 0
  ·rw [if_pos c1] at hE; omega
  rw [if_neg c1] at hE
  obtain ⟨i, hi, hat, hid⟩ := aR c1
  rw [hat, Int.toNat_natCast] at hE hrs hA hC
  by_cases c2 : aK (poAt ps i).n (qG (poAt ps i).ls) = true
  ·rw [if_pos c2] at hE; omega
  have hB := jZ hF c0
  have hno : ∀ e ∈ (poAt ps i).ls, e.kd ≠ 2 := fun e he h2 => by
   obtain ⟨k, hk, rfl⟩ := iP he
   exact c2 (aT (k := k) (by rw [← hF i hi]; exact hk) (by unfold qG; rw [h2]; rfl))
  rw [hrs]
  refine SY.right hF hB hi hno ?_
  have hP : ∀ k, k < ps.length → ∀ e ∈ (poAt ps k).ls, e.kd = 2 → e.ow = (poAt ps i).id → (poAt ps i).up = (poAt ps k).id ∧ (poAt ps i).a = e.a := fun k hk e he h2 ho => by
   rcases hB.les _ (poAt_mem hk) e he with h | ⟨-, -, q, hq, h3, h4, h5, -⟩ | h
   ·omega
   ·obtain rfl := CB hB.rise hq (poAt_mem hi) (h3.trans ho)
    exact ⟨h4, h5⟩
   ·omega
  by_cases c3 : aN ps (poAt ps i).up < 0
  ·have hs := hA c3
   obtain ⟨hcq, hFq⟩ := oF hF hs c0
   have hls : ∀ k, k < ps.length → (poAt qs k).ls = (poAt ps k).ls := fun k hk => (hs.2 k hk).2.2.2.2.2.2.2.2.2.symm
   refine ⟨⟨hs.1, fun i hi => (hs.2 i hi).head⟩, hFq, fun k hk => ?_, fun k hk => ?_, fun k hk e he => ?_, fun k hk e he _ _ => ?_⟩
   ·rw [hls k hk]; exact hB.n32 _ (poAt_mem hk)
   ·rw [hls k hk]; exact hB.used _ (poAt_mem hk)
   ·rw [hls k hk] at he
    exact ⟨hB.les _ (poAt_mem hk) e he, fun ⟨h2, ho⟩ => gT c3 k hk (hP k hk e he h2 ho).1.symm⟩
   ·rw [hls k hk]; exact he
  ·obtain ⟨k0, hk0, hat0, hid0⟩ := aR c3
   obtain ⟨us, x', c', hs, hqs⟩ := hC k0 hat0
   have hup : (poAt ps i).up ≠ 0 := fun e => by
    have := hB.idw _ (poAt_mem hk0)
    rw [hid0, e] at this
    exact absurd this (by decide)
   have hany : aK (poAt ps k0).n (fN (poAt ps k0).ls (poAt ps i).id) = true := by
    obtain ⟨f, hf⟩ := hB.ups _ (poAt_mem hi)
    cases f with
    | zero => unfold lH at hf; cases hf
    | succ f =>
     rcases (up_step hF hB.rise).1 hf with h | ⟨q, hq, h1, h2, -⟩
     ·exact absurd h hup
     ·obtain rfl := CB hB.rise hq (poAt_mem hk0) (h1.trans hid0.symm)
      exact (kV (hF k0 hk0)).2 h2
   rcases firstAt_any (n := (poAt ps k0).n) (f := fN (poAt ps k0).ls (poAt ps i).id) with ⟨-, j, hj, hfj, -, hfa⟩ | ⟨h, -⟩
   ·rw [hfa, Int.toNat_natCast] at hqs
    have hjl : j < (poAt ps k0).ls.length := by rw [hF k0 hk0]; exact hj
    unfold fN at hfj
    simp only [Bool.and_eq_true, beq_iff_eq] at hfj
    obtain ⟨hH, hFr, hls⟩ := lS (x' := x') (c' := c') (ls' := cD (poAt ps k0) j t) hs hF hk0
    rw [← hqs] at hH hFr hls
    refine ⟨hH, hFr, fun k hk => ?_, fun k hk => ?_, fun k hk e he => ?_, fun k hk e he h2 ho => ?_⟩
    ·rw [hls k hk]
     split
     ·rename_i e; subst e
      exact Nat.le_trans EN (hB.n32 _ (poAt_mem hk0))
     ·exact hB.n32 _ (poAt_mem hk)
    ·rw [hls k hk]
     split
     ·rename_i e; subst e
      exact AW hjl (hB.used _ (poAt_mem hk0))
     ·exact hB.used _ (poAt_mem hk)
    ·rw [hls k hk] at he
     split at he
     ·rename_i e'; subst e'
      rcases cool_mem hjl he with ⟨m, hmj, hm, rfl⟩ | ⟨hc, rfl⟩
      ·refine ⟨hB.les _ (poAt_mem hk0) _ (eR hm), fun ⟨h2, ho⟩ => hmj ?_⟩
       have g1 := (hP k0 hk0 _ (eR hm) h2 ho).2
       have g2 := (hP k0 hk0 _ (eR hjl) hfj.1 hfj.2).2
       exact NM (hB.used _ (poAt_mem hk0)) hm hjl (g1.symm.trans g2)
      ·exact ⟨AX (hB.rule _ (poAt_mem hk0)) hc, fun h => absurd (show (3 : Int) = 2 from h.1) (by decide)⟩
     ·rename_i hkk
      refine ⟨hB.les _ (poAt_mem hk) e he, fun ⟨h2, ho⟩ => hkk ?_⟩
      exact GW hB.rise hk0 hk (hid0.trans (hP k hk e he h2 ho).1)
    ·rw [hls k hk]
     split
     ·rename_i e'; subst e'
      obtain ⟨m, hm, rfl⟩ := iP he
      exact sI hjl hm (fun e => ho (by rw [e]; exact hfj.2))
     ·exact he
   ·rw [hany] at h
    cases h
 ·rw [if_pos c0] at hE
  exact absurd hE c0
theorem GX {id : Int} (hF : cC ps) (hE : kU t ps id up z mn mx us co = 0) (hal : (a, l) = fW t ps id up z) (hN : tX ps ⟨id, up, a, l, mn, mx, us, co, none, 0, 0, []⟩ up rs) : aS t rs = 0 ∧ cC rs := by
 unfold kU at hE
 by_cases c0' : bW t ps id up z ≠ 0
 ·rw [if_pos c0'] at hE
  exact absurd hE c0'
 have c0 : bW t ps id up z = 0 := Classical.not_not.1 c0'
 rw [if_neg c0'] at hE
 unfold fW at hal hE
 rw [if_neg c0'] at hal hE
 clear c0'
 unfold bW at c0
 by_cases c1' : aS t ps ≠ 0
 ·rw [if_pos c1'] at c0
  exact absurd c0 c1'
 have c1 : aS t ps = 0 := Classical.not_not.1 c1'
 rw [if_neg c1'] at c0
 by_cases c2 : dH id 1 65536 = false
 ·rw [if_pos c2] at c0; omega
 rw [if_neg c2] at c0
 by_cases c3 : aN ps up < 0
 ·rw [if_pos c3] at c0; omega
 rw [if_neg c3] at c0
 by_cases c4 : 0 ≤ aN ps id
 ·rw [if_pos c4] at c0; omega
 rw [if_neg c4] at c0
 obtain ⟨i, hi, hat, hid⟩ := aR c3
 rw [hat, Int.toNat_natCast] at c0 hal hE
 rw [← hal] at hE
 unfold nF at hE
 by_cases c5 : dJ mn mx us co l = false
 ·rw [if_pos c5] at hE; omega
 rw [if_neg c5] at hE
 by_cases c6 : ps.length = 8
 ·rw [if_pos c6] at hE; omega
 obtain ⟨y, e1, e2, -⟩ := EG c1 hi c0
 rw [e1] at hal
 simp only [Prod.mk.injEq] at hal
 obtain ⟨rfl, rfl⟩ := hal
 have h31 := xP c0
 obtain ⟨qs, ms, x', c', ls', hs, hput, hle, hrs⟩ := hN
 obtain ⟨hcq, hFq⟩ := oF hF hs c1
 have hB := jZ hFq hcq
 have hiq : i < qs.length := by rw [← hs.1]; exact hi
 obtain ⟨s1, s2, s3, s4, -, -, -, -, s9, s10⟩ := hs.2 i hi
 have hno : ∀ q ∈ qs, q.id ≠ id := fun q hq e => by
  obtain ⟨j, hj, rfl⟩ := bJ hq
  have hj2 : j < ps.length := by rw [hs.1]; exact hj
  exact gT (id := id) (by omega) j hj2 (by rw [(hs.2 j hj2).1]; exact e)
 have hr := EM hB.rise hput hno
 obtain ⟨k, hk, -, -, em⟩ := hput
 have hmem : ∀ x, x ∈ ms ↔ x = ⟨id, up, a, l, mn, mx, us, co, none, 0, 0, []⟩ ∨ x ∈ qs := fun x => by rw [em]; exact kW
 have hU : poAt qs i ∈ qs := poAt_mem hiq
 have hUid : (poAt qs i).id = up := by rw [← s1]; exact hid
 obtain ⟨m, hm, hatm, hpm⟩ := GU hr ((hmem _).2 (.inr hU))
 rw [hUid] at hatm
 rw [hatm, Int.toNat_natCast, hpm] at hle hrs
 have hatr : ∀ j, poAt rs j = if m = j then aQ (poAt qs i) x' ls'.length c' ls' else poAt ms j := fun j => by rw [hrs]; exact dD hm
 have hrl : rs.length = ms.length := by rw [hrs, List.length_set]
 have hH : fD ms rs := ⟨hrl.symm, fun j hj => by
  rw [hatr]
  split
  ·rename_i e
   rw [← e, hpm]
   exact ⟨rfl, rfl, rfl, rfl, rfl, rfl, rfl, rfl⟩
  ·exact ⟨rfl, rfl, rfl, rfl, rfl, rfl, rfl, rfl⟩⟩
 have hold : ∀ x ∈ rs, x = aQ (poAt qs i) x' ls'.length c' ls' ∨ (x = ⟨id, up, a, l, mn, mx, us, co, none, 0, 0, []⟩ ∨ x ∈ qs) := fun x hx => by
  obtain ⟨j, hj, rfl⟩ := bJ hx
  rw [hatr]
  split
  ·exact .inl rfl
  ·exact .inr ((hmem _).1 (poAt_mem (by omega)))
 have hnewU : aQ (poAt qs i) x' ls'.length c' ls' ∈ rs := by
  have := poAt_mem (ps := rs) (i := m) (by omega)
  rwa [hatr, if_pos rfl] at this
 have hin : ∀ x ∈ ms, x.id ≠ up → x ∈ rs := fun x hx hne => by
  obtain ⟨j, hj, rfl⟩ := bJ hx
  have := poAt_mem (ps := rs) (i := j) (by omega)
  rwa [hatr, if_neg (fun e => hne (by rw [← e, hpm]; exact hUid))] at this
 have hup0 : up ≠ 0 := fun e => by
  have := hB.idw _ hU
  rw [hUid, e] at this
  exact absurd this (by decide)
 have hne : id ≠ up := fun e => hno _ hU (by rw [hUid, e])
 have hnewE : (⟨id, up, a, l, mn, mx, us, co, none, 0, 0, []⟩ : Po) ∈ rs := hin _ ((hmem _).2 (.inl rfl)) hne
 have hmap : ∀ q ∈ qs, ∃ q' ∈ rs, EE q q' ∧ ∀ e ∈ q.ls, e ∈ q'.ls := fun q hq => by
  by_cases c : q.id = up
  ·obtain rfl := CB hB.rise hq hU (c.trans hUid.symm)
   refine ⟨_, hnewU, ⟨rfl, rfl, rfl, rfl, rfl, rfl, rfl, rfl⟩, fun e he => ?_⟩
   obtain ⟨k', hk', -, -, el⟩ := hle
   show e ∈ ls'
   rw [el]
   exact kW.2 (.inr he)
  ·exact ⟨q, hin q ((hmem q).2 (.inr hq)) c, ⟨rfl, rfl, rfl, rfl, rfl, rfl, rfl, rfl⟩, fun e he => he⟩
 have hleU : ∀ e, e ∈ ls' ↔ e = ⟨a, l, 2, id, 0⟩ ∨ e ∈ (poAt qs i).ls := fun e => by
  obtain ⟨k', hk', -, -, el⟩ := hle
  rw [el]
  exact kW
 have hFr : cC rs := CC fun p hp => by
  rcases hold p hp with rfl | rfl | h
  ·rfl
  ·rfl
  ·exact hFq.mem h
 have ev : ∀ (P : Po → Prop), P (aQ (poAt qs i) x' ls'.length c' ls') → P ⟨id, up, a, l, mn, mx, us, co, none, 0, 0, []⟩ → (∀ q ∈ qs, P q) → ∀ p ∈ rs, P p := fun P h1 h2 h3 p hp => by
  rcases hold p hp with rfl | rfl | h
  ·exact h1
  ·exact h2
  ·exact h3 p h
 have hwid : dH id 1 65536 = true := by simpa using c2
 have hidsm : lO rs.length rs = true := by
  rw [xU hH]
  exact lT.2 ⟨hr, fun p hp => by
   rcases (hmem p).1 hp with rfl | h
   ·exact hwid
   ·exact hB.idw p h⟩
 have htopm : gH rs = true := by
  rw [tY hH]
  refine jO.2 ?_
  rw [em]
  exact xW hB.tops (fun x _ _ u => absurd u hup0) (fun x _ u _ => absurd u hup0)
 have hids := lT.1 hidsm
 have h0 : ∀ q ∈ qs, q.id ≠ 0 := fun q hq e0 => by
  have := hB.idw q hq
  rw [e0] at this
  exact absurd this (by decide)
 have hups : ∀ q ∈ qs, ∀ q' : Po, q'.id = q.id → q'.up = q.up → ∃ f, lH rs f q' = true := fun q hq q' g1 g2 => by
  obtain ⟨f, hf⟩ := hB.ups q hq
  refine ⟨f, wS hFq hFr hB.rise hids.1 0 (fun x _ u hu h2 => ?_) f q q' (h0 q hq) g1 g2 hf⟩
  obtain ⟨u', hu', hh, hls⟩ := hmap u hu
  obtain ⟨e, he, k1, k2⟩ := h2
  exact ⟨h0 u hu, u', hu', hh.1.symm, hh.2.1.symm, e, hls e he, k1, k2⟩
 have hmv : ∀ q ∈ qs, ∀ e ∈ q.ls, L4 t rs q.id e := fun q hq e he => (hB.les q hq e he).move (fun u hu _ _ => by
  obtain ⟨u', hu', hh, -⟩ := hmap u hu
  exact ⟨u', hu', hh.1.symm, hh.2.1.symm, hh.2.2.1.symm, hh.2.2.2.1.symm⟩)
 refine ⟨RB.chk ⟨?_, hB.t0, hB.t1, hids.2, hids.1, jO.1 htopm, ?_, ?_, ?_, ?_, ?_, ?_⟩ hFr, hFr⟩
 ·have h8 := hB.few
  have h9 := hs.1
  rw [hrl, em]
  simp
  omega
 ·refine ev (fun p => p.ls.length ≤ 32) ?_ (Nat.zero_le _) hB.n32
  show ls'.length ≤ 32
  rw [hle.len, ← s10, hF i hi]
  omega
 ·exact ev (fun p => rt p.a p.l = true) (hB.root (poAt qs i) hU) (bB e2.1).1 hB.root
 ·refine ev (fun p => nE (lp p.ls) p.a p.l) ?_ ⟨fun u hu => absurd hu (by simp [lp]), by simp [lp]⟩ hB.used
  show nE (lp ls') (poAt qs i).a (poAt qs i).l
  rw [s3, s4, s10] at e2
  exact DM (hB.used _ hU) e2.1 e2.2 (EJ hle)
 ·exact ev (fun p => dJ p.mn p.mx p.us p.co p.l = true) (hB.rule (poAt qs i) hU) (by simpa using c5) hB.rule
 ·refine ev (fun p => ∃ f, lH rs f p = true) (hups _ hU _ rfl rfl) ?_ (fun q hq => hups q hq q rfl rfl)
  obtain ⟨f, hf⟩ := hups _ hU (aQ (poAt qs i) x' ls'.length c' ls') rfl rfl
  exact ⟨f + 1, (up_step hFr hids.1).2 (.inr ⟨_, hnewU, hUid, ⟨_, (hleU _).2 (.inl rfl), rfl, rfl⟩, hf⟩)⟩
 ·refine ev (fun p => ∀ e ∈ p.ls, L4 t rs p.id e) (fun e he => ?_) (fun e he => absurd he (by simp)) hmv
  rcases (hleU e).1 he with rfl | h
  ·exact .inr (.inl ⟨rfl, rfl, _, hnewE, rfl, hUid.symm, rfl, rfl⟩)
  ·exact hmv _ hU e h
end Go.Proofs.YtndpilfpejfloaaGreat
