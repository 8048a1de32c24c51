/- A part of the proof. -/
import Derived.Test.YtndpilfpejfloaaGreatMC05
set_option maxRecDepth 100000
set_option maxHeartbeats 20000000
namespace Go.Proofs.YtndpilfpejfloaaGreat
variable {qs ps rs : List Po} {i base n cap k q c c' d j : Nat} {W W' w w' : World} {g f : Nat → Bool} {m t up z E mn mx us co T a l ow : Int} {p e : Po} {v : Value} {ls ls' : List Le} {x x' : Option Addr}
open Go.RowKit Go.Shelf
theorem oI (hi : i < qs.length) (j : Nat) : poAt (qs.take i ++ qs.drop (i + 1)) j = if j < i then poAt qs j else poAt qs (j + 1) := by
 unfold poAt
 rw [zF, zF, zF]
 have hl : (qs.take i).length = i := by rw [List.length_take]; omega
 by_cases h1 : j < i
 ·rw [if_pos h1, List.getElem?_append_left (by omega), List.getElem?_take_of_lt h1]
 ·rw [if_neg h1, List.getElem?_append_right (by omega), hl, List.getElem?_drop, show i + 1 + (j - i) = j + 1 by omega]
theorem dR.del {g m : Nat} (h : dR W base (.slice (some ⟨g, 0, none⟩) n cap) qs qs.length) (hi : i < qs.length) (hg : W.grownBy W' (some g)) (hr : dP W' base (.slice (some ⟨g, 0, none⟩) m cap) (qs.take i ++ qs.drop (i + 1))) :
  dR W' base (.slice (some ⟨g, 0, none⟩) m cap) (qs.take i ++ qs.drop (i + 1)) (qs.take i ++ qs.drop (i + 1)).length := by
 have hl : (qs.take i ++ qs.drop (i + 1)).length + 1 = qs.length := by simp; omega
 obtain ⟨-, cur, hgc⟩ := h.row.block
 have hk : ∀ j, j < qs.length → cJ W' base (.slice (poAt qs j).x (poAt qs j).n (poAt qs j).c) (poAt qs j).ls := fun j hj => (h.own j hj).kept hg (fun k hk e => by subst e; exact (h.own j hj).ne hgc (by decide) hk)
 refine ⟨hr, fun j hj => ?_, fun j hj hj2 => by omega, fun j k hj hk hjk b hbj hbk => ?_⟩
 ·rw [oI hi]
  by_cases c1 : j < i
  ·rw [if_pos c1]; exact hk j (by omega)
  ·rw [if_neg c1]; exact hk (j + 1) (by omega)
 ·rw [oI hi] at hbj hbk
  by_cases c1 : j < i
  ·rw [if_pos c1] at hbj
   by_cases d1 : k < i
   ·rw [if_pos d1] at hbk; exact h.apart j k (by omega) (by omega) hjk b hbj hbk
   ·rw [if_neg d1] at hbk; exact h.apart j (k + 1) (by omega) (by omega) (by omega) b hbj hbk
  ·rw [if_neg c1] at hbj
   by_cases d1 : k < i
   ·rw [if_pos d1] at hbk; exact h.apart (j + 1) k (by omega) (by omega) (by omega) b hbj hbk
   ·rw [if_neg d1] at hbk; exact h.apart (j + 1) (k + 1) (by omega) (by omega) (by omega) b hbj hbk
theorem kA {id : Int} (h : aP ps id = i) : i < ps.length ∧ (poAt ps i).id = id ∧ ∀ j, j < i → (poAt ps j).id ≠ id := by
 unfold aP at h
 cases hf : ps.findIdx? (fun p => p.id == id) with
 | none => rw [hf] at h; simp only at h; omega
 | some k =>
  rw [hf] at h
  simp only at h
  obtain rfl : k = i := by omega
  rw [List.findIdx?_eq_some_iff_getElem] at hf
  obtain ⟨hi, h1, h2⟩ := hf
  refine ⟨hi, by rw [bI hi]; simpa using h1, fun j hj => ?_⟩
  have := h2 j hj
  rw [bI (by omega)]
  simpa using this
theorem iC {id : Int} (h : aP ps id < 0) : ∀ j, j < ps.length → (poAt ps j).id ≠ id := by
 intro j hj e
 unfold aP at h
 cases hf : ps.findIdx? (fun p => p.id == id) with
 | none =>
  rw [List.findIdx?_eq_none_iff] at hf
  have := hf _ (List.getElem_mem hj)
  rw [bI hj] at e
  simp [e] at this
 | some k => rw [hf] at h; simp only at h; omega
theorem uC (h : cD ps qs) (id : Int) : aP qs id = aP ps id := by
 by_cases h1 : aP ps id < 0
 ·have h2 := iC h1
  rw [pD (ps := ps) h2, pD]
  intro j hj
  rw [← h.1] at hj
  rw [← (h.2 j hj).1]
  exact h2 j hj
 ·obtain ⟨i, hi, hat, -⟩ := aQ h1
  obtain ⟨-, h3, h4⟩ := kA hat
  rw [hat]
  refine lO (by rw [← h.1]; exact hi) (by rw [← (h.2 i hi).1]; exact h3) (fun j hj => ?_)
  rw [← (h.2 j (by omega)).1]
  exact h4 j hj
theorem TL (h : lR ps.length ps = true) (i : Nat) (hi : i < ps.length) : 1 ≤ (poAt ps i).id ∧ (poAt ps i).id ≤ 65536 := by
 unfold lR at h
 simp only [zH, Bool.not_eq_true'] at h
 have h2 := h.2
 by_cases hw : dE (poAt ps i).id 1 65536 = true
 ·unfold dE at hw; simpa using hw
 ·have := bD (n := ps.length) (f := fun i => !dE (poAt ps i).id 1 65536) hi (by simpa using hw)
  rw [this] at h2
  cases h2
theorem TS (h : aV t ps = 0) (hi : i < ps.length) (hk : aP ps (poAt ps i).up = k) : ∃ j : Nat, j < (poAt ps k).n ∧ bM (poAt ps k).n (eX (poAt ps k).ls (poAt ps i).id) = j := by
 obtain ⟨-, -, hids, -, hp⟩ := hZ h
 obtain ⟨-, -, hup, -⟩ := eI (hp i hi)
 obtain ⟨hkl, hkid, -⟩ := kA hk
 have hu : (poAt ps i).up ≠ 0 := by have := TL hids k hkl; omega
 obtain ⟨f, hf⟩ : ∃ f, ps.length = f + 1 := ⟨ps.length - 1, by omega⟩
 rw [hf] at hup
 unfold lD at hup
 rw [if_neg hu, hk, if_neg (by omega)] at hup
 simp only [Int.toNat_natCast] at hup
 split at hup
 ·rename_i ha
  obtain ⟨j, hj, h1, h2⟩ := xV ha
  exact ⟨j, hj, kY hj h1 h2⟩
 ·cases hup
theorem dP.cells9 {g : Nat} (h : dP w base (.slice (some ⟨g, 0, none⟩) n cap) ps) (i : Nat) (hi : i < ps.length) : w.cell? ⟨g, i * 9, none⟩ = some (.int .i64 (poAt ps i).id) ∧ w.cell? ⟨g, i * 9 + 1, none⟩ = some (.int .i64 (poAt ps i).up) ∧ w.cell? ⟨g, i * 9 + 2, none⟩ = some (.int .i64 (poAt ps i).a) ∧ w.cell? ⟨g, i * 9 + 3, none⟩ = some (.int .i64 (poAt ps i).l) ∧ w.cell? ⟨g, i * 9 + 4, none⟩ = some (.int .i64 (poAt ps i).mn) ∧ w.cell? ⟨g, i * 9 + 5, none⟩ = some (.int .i64 (poAt ps i).mx) ∧ w.cell? ⟨g, i * 9 + 6, none⟩ = some (.int .i64 (poAt ps i).us) ∧ w.cell? ⟨g, i * 9 + 7, none⟩ = some (.int .i64 (poAt ps i).co) ∧ w.cell? ⟨g, i * 9 + 8, none⟩ = some (.slice (poAt ps i).x (poAt ps i).n (poAt ps i).c) := by
 obtain ⟨xw, cw, he4, -, -, -, hm4⟩ := h.mem
 obtain ⟨b4, o4, he5, k0, k1, k2, k3, k4, k5, k6, k7, k8⟩ := hm4 i hi
 simp only [Value.slice.injEq] at he4
 rw [← he4.1] at he5
 simp only [Option.some.injEq, Addr.mk.injEq] at he5
 obtain ⟨rfl, rfl, -⟩ := he5
 simp only [Nat.zero_add] at k0 k1 k2 k3 k4 k5 k6 k7 k8
 exact ⟨k0, k1, k2, k3, k4, k5, k6, k7, k8⟩
def qM (ls : List Le) (i : Nat) : Bool := !((aO ls i).kd == 3)
theorem HH (p : Le) (w : World) :
  Calls Tryz.prog 88 #[.agg #[.int .i64 p.a, .int .i64 p.l, .int .i64 p.kd, .int .i64 p.ow, .int .i64 p.un]] w fun e w' => e = .returned (.bool (!(p.kd == 3))) ∧ Below w.heap.size w w' := by
 go_enter Tryz.func88, Tryz.ntmps88
 go_wp2
 go_ret
 exact ⟨rfl, bl1 w _⟩
theorem E3 (args : Array Value) (W : World) : (callFunc 88 args).run Tryz.prog W = .ok (.enter 88 args) W := by simp [go_sem]
theorem N8 (n : Nat) (ls : List Le) (w : World) : tV 88 #[] n ls (qM ls) w := fun i _ W _ => HH (aO ls i) W
def fO (t : Int) (ps : List Po) (id : Int) : Int :=
 if aV t ps ≠ 0 then aV t ps else if aP ps id < 0 then 5 else if aL (poAt ps (aP ps id).toNat).n (qM (poAt ps (aP ps id).toNat).ls) = true then 9 else 0
def JD (t : Int) (ps : List Po) (i : Nat) (rs : List Po) : Prop :=
 ∃ qs, (aP ps (poAt ps i).up < 0 → cD ps qs) ∧ (∀ k : Nat, aP ps (poAt ps i).up = k → C7 ps k (bM (poAt ps k).n (eX (poAt ps k).ls (poAt ps i).id)).toNat t qs) ∧ rs = qs.take i ++ qs.drop (i + 1)
def mL (t : Int) (ps : List Po) (id : Int) (t' : Int) (rs : List Po) : Prop := t' = t ∧ JD t ps (aP ps id).toNat rs
def KT (t : Int) (ps : List Po) (id : Int) (w : World) : Ending → World → Prop := gF (fO t ps id) (mL t ps id) w
theorem KU (t : Int) (x : Option Addr) (n c : Nat) (ps : List Po) (id : Int) (w : World) (hk : Bk w x n c ps) :
  Calls Tryz.prog 45 #[.agg #[.int .i64 t, .slice x n c], .int .i64 id] w (KT t ps id w) := by
 have hpl : Hid (ps.length = n) := hk.ps.len
 go_enter Tryz.func45, Tryz.ntmps45
 go_upto_region 1 with fail
 obtain ⟨w0, hw0⟩ : ∃ w0, w0 = (w.alloc (gR t (.slice x n c))).alloc (gR 0 (.slice none 0 0)) := ⟨_, rfl⟩
 rw [← hw0]
 have hT0 : TC w w0 t (.slice x n c) := by
  rw [hw0]
  exact ⟨aF _ (aB _ rfl), aB _ (by simp), cC w _ _⟩
 clear hw0
 obtain ⟨b0, b1⟩ := aR hT0.hb rfl rfl
 obtain ⟨s0, s1⟩ := aR hT0.hs rfl rfl
 obtain ⟨zs0, zs1⟩ := cA hT0.hs
 have hck := fN t x n c ps w0 (hk.later hT0.below)
 by_cases hc0 : aV t ps = 0
 ·rw [hc0] at hck
  obtain ⟨hn8, ⟨ht0, ht1⟩, -⟩ := hZ hc0
  rw [hpl.out] at hn8
  have hE1 : Hid (fO t ps id = if aP ps id < 0 then 5 else if aL (poAt ps (aP ps id).toNat).n (qM (poAt ps (aP ps id).toNat).ls) = true then 9 else 0) := if_neg (c := aV t ps ≠ 0) (by simp [hc0])
  go_wp2_with fail
  refine hck.mono ?_
  rintro e w1 ⟨rfl, hb1⟩
  have hT1 := hT0.later hb1
  clear b0 b1 s0 s1 zs0 zs1 hb1 hck
  obtain ⟨b0, b1⟩ := aR hT1.hb rfl rfl
  obtain ⟨s0, s1⟩ := aR hT1.hs rfl rfl
  obtain ⟨zs0, zs1⟩ := cA hT1.hs
  have hpc := pplace_any t id x n c ps w1 (hk.later hT1.below).ps (by omega)
  by_cases hat : aP ps id < 0
  ·have hne : Hid (fO t ps id = 5 ∧ (5 : Int) ≠ 0) := ⟨hE1.out.trans (if_pos hat), by decide⟩
   go_wp2_with fail
   refine hpc.mono ?_
   rintro e w2 ⟨rfl, hb2⟩
   have hT2 := hT1.later hb2
   clear b0 b1 s0 s1 zs0 zs1 hb2 hE1
   obtain ⟨b0, b1⟩ := aR hT2.hb rfl rfl
   obtain ⟨s0, s1⟩ := aR hT2.hs rfl rfl
   obtain ⟨zs0, zs1⟩ := cA hT2.hs
   go_wp2
   refine bodyPost_ret (v := .tuple #[.agg #[.int .i64 0, .slice none 0 0], .int .i64 5]) (by simp [results, Tryz.results45, go_sem, s0, s1]) rfl ?_
   exact gF.err hne.out ((hT2.below.setCell (p := ⟨w.heap.size + 1, 0, none⟩) (zA) _).setCell (p := ⟨w.heap.size + 1, 1, none⟩) (zA) _)
  ·obtain ⟨i, hi, hati, hiid⟩ := aQ hat
   have hin0 : Hid (i < ps.length) := hi
   rw [hpl.out] at hi
   have hto : (aP ps id).toNat = i := by rw [hati]; rfl
   have hR : Hid (∀ rs, JD t ps i rs → mL t ps id t rs) := fun rs h => ⟨rfl, by rw [hto]; exact h⟩
   have hE2 : Hid (fO t ps id = if aL (poAt ps i).n (qM (poAt ps i).ls) = true then 9 else 0) := by
    have h := hE1.out
    rw [if_neg hat, hto] at h
    exact h
   have hid : Hid ((poAt ps i).id = id) := hiid
   rw [hati] at hpc
   clear hat hati hto hE1 hiid
   go_wp2_with fail
   refine hpc.mono ?_
   rintro e w2 ⟨rfl, hb2⟩
   have hT2 := hT1.later hb2
   have hi0 : (0 : Int) ≤ i := by omega
   clear b0 b1 s0 s1 zs0 zs1 hb2 hpc
   obtain ⟨b0, b1⟩ := aR hT2.hb rfl rfl
   obtain ⟨s0, s1⟩ := aR hT2.hs rfl rfl
   obtain ⟨zs0, zs1⟩ := cA hT2.hs
   have hk2 := hk.later hT2.below
   obtain ⟨b, o, rfl, c0, c1, c2, c3, c4, c5, c6, c7, c8⟩ := hk2.ps.cells i hi
   obtain ⟨hlc, hlm, hLS⟩ := hk2.ps.leases i hi
   have hin : (i : Int) < n := by omega
   have hcf := rB 88 #[] (poAt ps i).x (poAt ps i).n (poAt ps i).c (poAt ps i).ls (qM (poAt ps i).ls) w2 hLS hlm (N8 _ _ w2) E3
   cases hany : aL (poAt ps i).n (qM (poAt ps i).ls) with
   | true =>
    have hne : Hid (fO t ps id = 9 ∧ (9 : Int) ≠ 0) := ⟨hE2.out.trans (if_pos hany), by decide⟩
    rw [hany] at hcf
    clear hR hE2
    go_wp2_with fail
    refine hcf.mono ?_
    rintro e w3 ⟨rfl, hb3⟩
    have hT3 := hT2.later hb3
    clear b0 b1 s0 s1 zs0 zs1 hb3 c0 c1 c2 c3 c4 c5 c6 c7 c8
    obtain ⟨b0, b1⟩ := aR hT3.hb rfl rfl
    obtain ⟨s0, s1⟩ := aR hT3.hs rfl rfl
    obtain ⟨zs0, zs1⟩ := cA hT3.hs
    go_wp2
    refine bodyPost_ret (v := .tuple #[.agg #[.int .i64 0, .slice none 0 0], .int .i64 9]) (by simp [results, Tryz.results45, go_sem, s0, s1]) rfl ?_
    exact gF.err hne.out ((hT3.below.setCell (p := ⟨w.heap.size + 1, 0, none⟩) (zA) _).setCell (p := ⟨w.heap.size + 1, 1, none⟩) (zA) _)
   | false =>
    have hE0 : Hid (fO t ps id = 0) := hE2.out.trans (if_neg (by rw [hany]; decide))
    rw [hany] at hcf
    clear hE2
    go_wp2_with fail
    refine hcf.mono ?_
    rintro e w3 ⟨rfl, hb3⟩
    have hT3 := hT2.later hb3
    clear b0 b1 s0 s1 zs0 zs1 hb3 c0 c1 c2 c3 c4 c5 c6 c7 c8 hcf
    obtain ⟨b0, b1⟩ := aR hT3.hb rfl rfl
    obtain ⟨s0, s1⟩ := aR hT3.hs rfl rfl
    obtain ⟨zs0, zs1⟩ := cA hT3.hs
    go_wp2_with fail
    refine (dZ t (some ⟨b, o, none⟩) n c ps w3 (hk.later hT3.below) (by omega)).mono ?_
    rintro e w5 ⟨v5, qs, rfl, hs, hOB, hb5⟩
    obtain ⟨k, hqk⟩ : ∃ k, qs.length = k + 1 := ⟨n - 1, by rw [← hs.1, hpl.out]; omega⟩
    have hkn : Hid (k + 1 = n) := by unfold Hid; rw [← hqk, ← hs.1, hpl.out]
    have hik : i ≤ k := by have := hkn.out; omega
    obtain ⟨xq, capq, hvq, hcap1, hcap2, -, hmq⟩ := hOB.row.mem
    rcases hOB.row.2 with ⟨-, h0⟩ | ⟨g, cap, cur, hv5, hg1, hg2, -⟩
    ·omega
    obtain ⟨bq, oq, hxq, -, hup, -, -, -, -, -, -, -⟩ := hmq i (by omega)
    rw [hv5] at hvq
    simp only [Value.slice.injEq] at hvq
    obtain ⟨hvx, -, hvc⟩ := hvq
    rw [← hvx] at hxq
    simp only [Option.some.injEq, Addr.mk.injEq] at hxq
    obtain ⟨rfl, rfl, -⟩ := hxq
    subst hvc
    rw [hqk] at hcap1
    clear hvx hmq
    rw [hqk] at hv5
    subst hv5
    clear b0 b1 s0 s1 zs0 zs1
    go_upto_region 10 with fail
    obtain ⟨w6, hw6⟩ : ∃ w6, w6 = w5.alloc (gR t (.slice (some ⟨g, 0, none⟩) (k + 1) cap)) := ⟨_, rfl⟩
    rw [← hw6]
    have hT6 : TC w w6 t (.slice (some ⟨b, o, none⟩) n c) := by rw [hw6]; exact (hT3.later hb5).later (bl1 _ _)
    have hn6 : w6.heap[w5.heap.size]? = some (gR t (.slice (some ⟨g, 0, none⟩) (k + 1) cap)) := by rw [hw6]; exact aB _ rfl
    have hOB6 : dR w6 w3.heap.size (.slice (some ⟨g, 0, none⟩) (k + 1) cap) qs qs.length := by
     rw [hw6]
     exact hOB.later (bl1 _ _)
    have hs6 : w3.heap.size ≤ w6.heap.size := by rw [hw6]; have := hb5.size; simp; omega
    have hup6 : w6.cell? ⟨g, i * 9 + 1, none⟩ = some (.int .i64 (poAt qs i).up) := by rw [hw6]; exact aG (bl1 _ _) (by simpa using hup)
    have hsz : w.heap.size + 1 < w3.heap.size := (zG hT3.hs)
    have hnb : w.heap.size + 1 < w5.heap.size := by have := hb5.size; omega
    clear hw6 hOB hb5 hg2 hup
    have hsp := hs.2 i (by rw [hpl.out]; exact hi)
    rw [← hsp.2.1] at hup6
    have hik2 : (i : Int) < (k : Int) + 1 := by omega
    obtain ⟨m0, m1⟩ := aR hn6 rfl rfl
    obtain ⟨xq2, cq2, hvq2, hBk2⟩ := (hOB6.later (zD).drew).bk (fun j hj => by
     have hj2 : j < ps.length := by rw [hs.1]; exact hj
     have h1 := (hs.2 j hj2).2.2.2.2.2.2.2.2.1
     have h2 := (iP hc0 j hj2).1
     omega)
    simp only [Value.slice.injEq] at hvq2
    obtain ⟨rfl, -, rfl⟩ := hvq2
    have hk7 : k ≤ 7 := by have := hkn.out; omega
    have hpl2 := pplace_any t (poAt ps i).up (some ⟨g, 0, none⟩) qs.length cap qs w6.drew hBk2.ps (by omega)
    rw [uC hs, hqk] at hpl2
    obtain ⟨ua, hua⟩ : ∃ ua, Hid (ua = aP ps (poAt ps i).up) := ⟨_, rfl⟩
    rw [← hua.out] at hpl2
    go_cut [9] (fun s wc => s = .int .i64 ua ∧ Below w6.heap.size w6 wc)
    case first =>
     clear hBk2
     go_region_with (go_at_call 82; refine hpl2.mono ?_; rintro e w7 ⟨rfl, hb7⟩; have hB7 : Below w6.heap.size w6 w7 := ⟨hb7.os, hb7.tape, hb7.output, hb7.size, hb7.block⟩; have hup7 := aG hB7 hup6)
     all_goals go_wp2
     all_goals go_meet
     all_goals (case rel => exact ⟨rfl, hB7⟩)
    case rest =>
     obtain ⟨rfl, hB7⟩ := hcut
     have hT7 := hT6.later hB7
     have hOB7 := hOB6.later hB7
     have hn7 := aA hB7 hn6
     have hs7 : w3.heap.size ≤ wc.heap.size := Nat.le_trans hs6 hB7.size
     clear m0 m1 hpl2 hup6 hBk2 hB7 hT6 hOB6 hn6
     go_upto_if 41 with fail
     go_cut [9] (fun s wd => ∃ qq, Hid (mL t ps id t (qq.take i ++ qq.drop (i + 1))) ∧ qq.length = k + 1 ∧ dR wd w3.heap.size (.slice (some ⟨g, 0, none⟩) (k + 1) cap) qq qq.length ∧ TC w wd t (.slice (some ⟨b, o, none⟩) n c) ∧ wd.heap[w5.heap.size]? = some (gR t (.slice (some ⟨g, 0, none⟩) (k + 1) cap)) ∧ w3.heap.size ≤ wd.heap.size)
     case first =>
      by_cases hun : ua < 0
      ·have hR2 : Hid (mL t ps id t (qs.take i ++ qs.drop (i + 1))) := hR.out _ ⟨qs, fun _ => hs, fun k hk => by have := hua.out; omega, rfl⟩
       go_wp2
       go_meet
       case rel => exact ⟨qs, hR2, hqk, hOB7, hT7, hn7, hs7⟩
      ·obtain ⟨u, hul, hue, -⟩ := aQ (ps := ps) (id := (poAt ps i).up) (by rw [← hua.out]; exact hun)
       obtain ⟨j, hj, hjf⟩ := TS hc0 hin0.out hue
       rw [hid.out] at hjf
       have hspu := hs.2 u hul
       have hR2 : Hid (∀ x' c', mL t ps id t ((qs.set u (aT (poAt qs u) x' (bS (poAt qs u) j t).length c' (bS (poAt qs u) j t))).take i ++ (qs.set u (aT (poAt qs u) x' (bS (poAt qs u) j t).length c' (bS (poAt qs u) j t))).drop (i + 1))) := fun x' c' => hR.out _ ⟨_, fun h => by omega, fun k hk => by
        have hku : k = u := by omega
        subst hku
        refine ⟨qs, x', c', hs, ?_⟩
        rw [hid.out, hjf, yF hspu]
        rfl, rfl⟩
       obtain rfl : ua = (u : Int) := hua.out.trans hue
       have hcpu := iP hc0 u hul
       have hspu2 := hspu
       obtain ⟨-, -, -, -, -, -, -, hqc, hqn, hqls⟩ := hspu2
       have huq : u < qs.length := by rw [← hs.1]; exact hul
       rw [hqn] at hj hjf
       rw [hqls] at hjf
       have hlf := fun W h => vI id (poAt qs u) W h (by omega)
       rw [hjf] at hlf
       have hLSu := (hOB7.own u huq).ls.1
       have hu0 : (0 : Int) ≤ u := by omega
       have hu1 : (u : Int) < (k : Int) + 1 := by omega
       clear hun hue hjf hspu hid hR hua
       obtain ⟨m0, m1⟩ := aR hn7 rfl rfl
       obtain ⟨r0, r1, r2, r3, r4, r5, r6, r7, r8⟩ := hOB7.row.cells9 u huq
       go_upto_region 12 with fail
       have g0 := Ws.here m0
       have g1 := Ws.here m1
       have q0 := Ws.here r0
       have q1 := Ws.here r1
       have q2 := Ws.here r2
       have q3 := Ws.here r3
       have q4 := Ws.here r4
       have q5 := Ws.here r5
       have q6 := Ws.here r6
       have q7 := Ws.here r7
       have q8 := Ws.here r8
       clear m0 m1 r0 r1 r2 r3 r4 r5 r6 r7 r8
       refine jZ wc.heap.size 13 (by kernel_rfl) (by kernel_rfl) ?_
       simp only [List.take_succ_cons, List.take_zero, List.drop_succ_cons, List.drop_zero]
       repeat (go_big_quiet_step ((go_at_call 90; exact Calls.in_ws (zE) (hlf _ (hLSu.later (Ws.property _))))))
       refine wpQuiet_nil ?_
       intro uu
       have hB8 := uu.property
       generalize uu.val = w8 at hB8 ⊢
       clear uu g0 g1 q0 q1 q2 q3 q4 q5 q6 q7 q8 hlf
       have hcool := EY w3.heap.size g (k + 1) cap qs u j t w8 (hOB7.later hB8) huq hj (by omega) (Nat.le_trans hs7 hB8.size) ht0 ht1 (by omega) (by omega)
       go_wp2_with fail
       refine hcool.mono ?_
       rintro e w9' ⟨rfl, x', c', hOB9', hK9'⟩
       have hKu : dW w3.heap.size wc w9' := (dW.of_below hB8 hs7).trans hK9'
       go_wp2
       go_meet
       case rel => exact ⟨_, hR2.out x' c', by rw [List.length_set]; exact hqk, hOB9', hT7.kept hKu hT3.below.size, hKu.box _ _ _ hn7 (by decide) (by decide), Nat.le_trans hs7 hKu.size⟩
     case rest =>
      obtain ⟨qq, hR3, hqqL, hOBq, hTq, hnW, hsq⟩ := hcut
      have m1 := aX hnW 1 rfl
      have hdel := EX w3.heap.size g k cap i (i + 1) qq wc hOBq.row hqqL hik rfl (by omega) hcap1 hcap2
      rw [show ((i + 1 : Nat) : Int) = (i : Int) + 1 by omega] at hdel
      go_wp2_with fail
      refine hdel.mono ?_
      rintro e w8 ⟨rfl, hO8, hg8⟩
      have hOB8 := hOBq.del (by rw [hqqL]; omega) hg8 hO8
      obtain ⟨hbg, curg, hgc⟩ := hOBq.row.block
      have hK8 : dW w3.heap.size wc w8 := dW.of_grown hg8 hbg hsq hgc (.inl rfl)
      have hT8 := hTq.kept hK8 hT3.below.size
      have hn8 := hK8.box _ _ _ hnW (by decide) (by decide)
      clear m1 hdel hO8
      have q0 := aX hn8 0 rfl
      have q1 := aX hn8 1 rfl
      have zq1 := (aE hn8).2 1
      go_upto_region 14 with fail
      obtain ⟨w9, hw9⟩ : ∃ w9, w9 = w8.setCell ⟨w5.heap.size, 1, none⟩ (.slice (some ⟨g, 0, none⟩) k cap) := ⟨_, rfl⟩
      rw [← hw9]
      have hT9 : TC w w9 t (.slice (some ⟨b, o, none⟩) n c) := by rw [hw9]; exact hT8.put hnb
      have hn9 : w9.heap[w5.heap.size]? = some (gR t (.slice (some ⟨g, 0, none⟩) k cap)) := by
       rw [hw9]
       have := heap_setCell_same w8 w5.heap.size 1 _ _ (.slice (some ⟨g, 0, none⟩) k cap) hn8
       simpa [gR] using this
      have hOB9 : dR w9 w3.heap.size (.slice (some ⟨g, 0, none⟩) k cap) (qq.take i ++ qq.drop (i + 1)) (qq.take i ++ qq.drop (i + 1)).length := by rw [hw9]; exact hOB8.putBox hn8 (by decide) (by decide)
      clear hw9 q0 q1 zq1 hOB8 hT8 hn8
      obtain ⟨q0, q1⟩ := aR hn9 rfl rfl
      obtain ⟨s0, s1⟩ := aR hT9.hs rfl rfl
      obtain ⟨zs0, zs1⟩ := cA hT9.hs
      go_wp2
      refine bodyPost_ret (v := .tuple #[.agg #[.int .i64 t, .slice (some ⟨g, 0, none⟩) k cap], .int .i64 0]) (by simp [results, Tryz.results45, go_sem, s0, s1]) rfl ?_
      have hfin := (hT9.below.setCell (p := ⟨w.heap.size + 1, 0, none⟩) (zA) (.int .i64 t)).setCell (p := ⟨w.heap.size + 1, 1, none⟩) (zA) (.slice (some ⟨g, 0, none⟩) k cap)
      have hob := ((hOB9.put (o := 0) (u := .int .i64 t) hsz).put (o := 1) (u := .slice (some ⟨g, 0, none⟩) k cap) hsz).low hT3.below.size
      exact ⟨_, _, t, by rw [hE0.out], hfin, hob, fun h => absurd hE0.out h, fun _ => hR3.out⟩
 ·have hne : Hid (fO t ps id = aV t ps ∧ aV t ps ≠ 0) := ⟨if_pos hc0, hc0⟩
  go_wp2_with fail
  refine hck.mono ?_
  rintro e w1 ⟨rfl, hb1⟩
  have hT1 := hT0.later hb1
  clear b0 b1 s0 s1 zs0 zs1 hck hb1
  obtain ⟨b0, b1⟩ := aR hT1.hb rfl rfl
  obtain ⟨s0, s1⟩ := aR hT1.hs rfl rfl
  obtain ⟨zs0, zs1⟩ := cA hT1.hs
  go_wp2
  refine bodyPost_ret (v := .tuple #[.agg #[.int .i64 0, .slice none 0 0], .int .i64 (aV t ps)]) (by simp [results, Tryz.results45, go_sem, s0, s1]) rfl ?_
  exact gF.err hne.out ((hT1.below.setCell (p := ⟨w.heap.size + 1, 0, none⟩) (zA) _).setCell (p := ⟨w.heap.size + 1, 1, none⟩) (zA) _)
def bW (t : Int) (ps : List Po) (id up z : Int) : Int :=
 if aV t ps ≠ 0 then aV t ps else if dE id 1 65536 = false then 3 else if aP ps up < 0 then 5 else if 0 ≤ aP ps id then 6 else eG (poAt ps (aP ps up).toNat) z
def fP (t : Int) (ps : List Po) (id up z : Int) : Int × Int :=
 if bW t ps id up z ≠ 0 then (0, 0) else eH (poAt ps (aP ps up).toNat) z
def fV (t : Int) (ps : List Po) (id up z : Int) (w : World) (r : Ending) (w' : World) : Prop :=
 r = .returned (.tuple #[.agg #[.int .i64 (fP t ps id up z).1, .int .i64 (fP t ps id up z).2], .int .i64 (bW t ps id up z)]) ∧ Below w.heap.size w w'
theorem fV.err {id : Int} (hE : bW t ps id up z = E ∧ E ≠ 0) (hb : Below w.heap.size w w') :
  fV t ps id up z w (.returned (.tuple #[.agg #[.int .i64 0, .int .i64 0], .int .i64 E])) w' := by
 refine ⟨?_, hb⟩
 have h : fP t ps id up z = (0, 0) := if_pos (by rw [hE.1]; exact hE.2)
 rw [h, hE.1]
theorem KV (h : eG p z ≠ 0) : eH p z = (0, 0) := by
 unfold eG at h
 unfold eH
 by_cases h1 : z < p.mn ∨ p.mx < z
 ·rw [if_pos h1]
 ·rw [if_neg h1] at h ⊢
  cases hq : oF p z with
  | none => rfl
  | some y => rw [hq] at h; exact absurd rfl h
structure TR (w W : World) (t : Int) (v : Value) : Prop where
 hb : W.heap[w.heap.size]? = some (gR t v)
 hr : W.heap[w.heap.size + 1]? = some (.cells #[.int .i64 0, .int .i64 0] 49)
 below : Below w.heap.size w W
theorem TR.later (h : TR w W t v) (hb : Below W.heap.size W W') : TR w W' t v :=
 ⟨aA hb h.hb, aA hb h.hr, h.below.trans (hb.mono h.below.size)⟩
theorem C9 (t : Int) (x : Option Addr) (n c : Nat) (ps : List Po) (id up z : Int) (w : World) (hk : Bk w x n c ps) :
  Calls Tryz.prog 85 #[.agg #[.int .i64 t, .slice x n c], .int .i64 id, .int .i64 up, .int .i64 z] w (fV t ps id up z w) := by
 have hpl : Hid (ps.length = n) := hk.ps.len
 go_enter Tryz.func85, Tryz.ntmps85
 go_upto_region 1 with fail
 obtain ⟨w0, hw0⟩ : ∃ w0, w0 = (w.alloc (gR t (.slice x n c))).alloc (.cells #[.int .i64 0, .int .i64 0] 49) := ⟨_, rfl⟩
 rw [← hw0]
 have hT0 : TR w w0 t (.slice x n c) := by
  rw [hw0]
  exact ⟨aF _ (aB _ rfl), aB _ (by simp), cC w _ _⟩
 clear hw0
 obtain ⟨b0, b1⟩ := aR hT0.hb rfl rfl
 obtain ⟨r0, r1⟩ := aR hT0.hr rfl rfl
 obtain ⟨zr0, zr1⟩ := cA hT0.hr
 have hck := fN t x n c ps w0 (hk.later hT0.below)
 by_cases hc0 : aV t ps = 0
 ·rw [hc0] at hck
  obtain ⟨hn8, -, -⟩ := hZ hc0
  rw [hpl.out] at hn8
  have hE1 : Hid (bW t ps id up z = if dE id 1 65536 = false then 3 else if aP ps up < 0 then 5 else if 0 ≤ aP ps id then 6 else eG (poAt ps (aP ps up).toNat) z) := if_neg (c := aV t ps ≠ 0) (by simp [hc0])
  go_wp2_with fail
  refine (hck).mono ?_
  rintro e w1 ⟨rfl, hb_⟩
  have hT1 := hT0.later hb_
  clear b0 b1 r0 r1 zr0 zr1 hb_ 
  obtain ⟨b0, b1⟩ := aR hT1.hb rfl rfl
  obtain ⟨r0, r1⟩ := aR hT1.hr rfl rfl
  obtain ⟨zr0, zr1⟩ := cA hT1.hr
  have hpc := pplace_any t up x n c ps w1 (hk.later hT1.below).ps (by omega)
  obtain ⟨ua, hua⟩ : ∃ ua, Hid (ua = aP ps up) := ⟨_, rfl⟩
  rw [← hua.out] at hpc
  go_wp2_with fail
  refine (hpc).mono ?_
  rintro e w2 ⟨rfl, hb_⟩
  have hT2 := hT1.later hb_
  clear b0 b1 r0 r1 zr0 zr1 hb_ 
  obtain ⟨b0, b1⟩ := aR hT2.hb rfl rfl
  obtain ⟨r0, r1⟩ := aR hT2.hr rfl rfl
  obtain ⟨zr0, zr1⟩ := cA hT2.hr
  cases hid : dE id 1 65536 with
  | false =>
   have hne : Hid (bW t ps id up z = 3 ∧ (3 : Int) ≠ 0) := ⟨hE1.out.trans (if_pos hid), by decide⟩
   clear hE1
   go_wp2_with fail
   refine (isId_is id false hid _).mono ?_
   rintro e w2 ⟨rfl, rfl⟩
   go_wp2
   refine bodyPost_ret (v := .tuple #[.agg #[.int .i64 0, .int .i64 0], .int .i64 3]) (by simp [results, Tryz.results85, go_sem, r0, r1]) rfl ?_
   exact fV.err hne.out ((hT2.below.setCell (p := ⟨w.heap.size + 1, 0, none⟩) (zA) _).setCell (p := ⟨w.heap.size + 1, 1, none⟩) (zA) _)
  | true =>
   have hE2 : Hid (bW t ps id up z = if aP ps up < 0 then 5 else if 0 ≤ aP ps id then 6 else eG (poAt ps (aP ps up).toNat) z) := hE1.out.trans (if_neg (by rw [hid]; decide))
   clear hE1
   by_cases hun : ua < 0
   ·have hne : Hid (bW t ps id up z = 5 ∧ (5 : Int) ≠ 0) := ⟨hE2.out.trans (if_pos (by rw [← hua.out]; exact hun)), by decide⟩
    clear hE2
    go_wp2_with fail
    refine (isId_is id true hid _).mono ?_
    rintro e w2 ⟨rfl, rfl⟩
    go_wp2
    refine bodyPost_ret (v := .tuple #[.agg #[.int .i64 0, .int .i64 0], .int .i64 5]) (by simp [results, Tryz.results85, go_sem, r0, r1]) rfl ?_
    exact fV.err hne.out ((hT2.below.setCell (p := ⟨w.heap.size + 1, 0, none⟩) (zA) _).setCell (p := ⟨w.heap.size + 1, 1, none⟩) (zA) _)
   ·obtain ⟨i, hi, hie, -⟩ := aQ (ps := ps) (id := up) (by rw [← hua.out]; exact hun)
    obtain rfl : ua = (i : Int) := hua.out.trans hie
    rw [hpl.out] at hi
    have hto : (aP ps up).toNat = i := by rw [hie]; rfl
    have hE3 : Hid (bW t ps id up z = if 0 ≤ aP ps id then 6 else eG (poAt ps i) z) := by
     have h := hE2.out
     rw [if_neg (by rw [hie]; omega), hto] at h
     exact h
    have hO3 : Hid (bW t ps id up z = 0 → fP t ps id up z = eH (poAt ps i) z) := fun h => by
     unfold fP
     rw [if_neg (by rw [h]; decide), hto]
    have hi0 : (0 : Int) ≤ i := by omega
    have hin : (i : Int) < n := by omega
    clear hE2 hto hie hua hun
    have hpc2 := pplace_any t id x n c ps w2 (hk.later hT2.below).ps (by omega)
    by_cases hia : 0 ≤ aP ps id
    ·have hne : Hid (bW t ps id up z = 6 ∧ (6 : Int) ≠ 0) := ⟨hE3.out.trans (if_pos hia), by decide⟩
     clear hE3 hO3
     go_wp2_with fail
     refine (isId_is id true hid _).mono ?_
     rintro e w2 ⟨rfl, rfl⟩
     go_wp2_with fail
     refine (hpc2).mono ?_
     rintro e w3 ⟨rfl, hb_⟩
     have hT3 := hT2.later hb_
     clear b0 b1 r0 r1 zr0 zr1 hb_ 
     obtain ⟨b0, b1⟩ := aR hT3.hb rfl rfl
     obtain ⟨r0, r1⟩ := aR hT3.hr rfl rfl
     obtain ⟨zr0, zr1⟩ := cA hT3.hr
     go_wp2
     refine bodyPost_ret (v := .tuple #[.agg #[.int .i64 0, .int .i64 0], .int .i64 6]) (by simp [results, Tryz.results85, go_sem, r0, r1]) rfl ?_
     exact fV.err hne.out ((hT3.below.setCell (p := ⟨w.heap.size + 1, 0, none⟩) (zA) _).setCell (p := ⟨w.heap.size + 1, 1, none⟩) (zA) _)
    ·have hE4 : Hid (bW t ps id up z = eG (poAt ps i) z) := hE3.out.trans (if_neg hia)
     clear hE3
     have hia2 : aP ps id < 0 := by omega
     go_wp2_with fail
     refine (isId_is id true hid _).mono ?_
     rintro e w2 ⟨rfl, rfl⟩
     go_wp2_with fail
     refine (hpc2).mono ?_
     rintro e w3 ⟨rfl, hb_⟩
     have hT3 := hT2.later hb_
     clear b0 b1 r0 r1 zr0 zr1 hb_ 
     obtain ⟨b0, b1⟩ := aR hT3.hb rfl rfl
     obtain ⟨r0, r1⟩ := aR hT3.hr rfl rfl
     obtain ⟨zr0, zr1⟩ := cA hT3.hr
     have hk3 := hk.later hT3.below
     obtain ⟨b, o, rfl, c0, c1, c2, c3, c4, c5, c6, c7, c8⟩ := hk3.ps.cells i hi
     obtain ⟨hlc, hlm, hLS⟩ := hk3.ps.leases i hi
     have hpf := EU (poAt ps i) z w3 hLS hlm
     unfold yB at hpf
     obtain ⟨pA, hpA⟩ : ∃ pA, Hid (pA = (eH (poAt ps i) z).1) := ⟨_, rfl⟩
     obtain ⟨pL, hpL⟩ : ∃ pL, Hid (pL = (eH (poAt ps i) z).2) := ⟨_, rfl⟩
     obtain ⟨pE, hpE⟩ : ∃ pE, Hid (pE = eG (poAt ps i) z) := ⟨_, rfl⟩
     rw [← hpA.out, ← hpL.out, ← hpE.out] at hpf
     go_wp2_with fail
     refine hpf.mono ?_
     rintro e w4 ⟨rfl, hb4⟩
     have hT4 := hT3.later hb4
     clear b0 b1 r0 r1 zr0 zr1 hb4 c0 c1 c2 c3 c4 c5 c6 c7 c8 hpf
     obtain ⟨b0, b1⟩ := aR hT4.hb rfl rfl
     obtain ⟨r0, r1⟩ := aR hT4.hr rfl rfl
     obtain ⟨zr0, zr1⟩ := cA hT4.hr
     go_wp2
     refine bodyPost_ret (v := .tuple #[.agg #[.int .i64 pA, .int .i64 pL], .int .i64 pE]) (by simp [results, Tryz.results85, go_sem, r0, r1]) rfl ?_
     refine ⟨?_, ((hT4.below.setCell (p := ⟨w.heap.size + 1, 0, none⟩) (zA) _).setCell (p := ⟨w.heap.size + 1, 1, none⟩) (zA) _)⟩
     have hEE : bW t ps id up z = pE := hE4.out.trans hpE.out.symm
     have hOO : fP t ps id up z = (pA, pL) := by
      by_cases h0 : bW t ps id up z = 0
      ·rw [hO3.out h0, hpA.out, hpL.out]
      ·have h1 : fP t ps id up z = (0, 0) := if_pos h0
       have h2 := KV (p := poAt ps i) (z := z) (by rw [← hE4.out]; exact h0)
       rw [h1, hpA.out, hpL.out, h2]
     rw [hOO, hEE]
 ·have hne : Hid (bW t ps id up z = aV t ps ∧ aV t ps ≠ 0) := ⟨if_pos hc0, hc0⟩
  go_wp2_with fail
  refine (hck).mono ?_
  rintro e w1 ⟨rfl, hb_⟩
  have hT1 := hT0.later hb_
  clear b0 b1 r0 r1 zr0 zr1 hb_ 
  obtain ⟨b0, b1⟩ := aR hT1.hb rfl rfl
  obtain ⟨r0, r1⟩ := aR hT1.hr rfl rfl
  obtain ⟨zr0, zr1⟩ := cA hT1.hr
  go_wp2
  refine bodyPost_ret (v := .tuple #[.agg #[.int .i64 0, .int .i64 0], .int .i64 (aV t ps)]) (by simp [results, Tryz.results85, go_sem, r0, r1]) rfl ?_
  exact fV.err hne.out ((hT1.below.setCell (p := ⟨w.heap.size + 1, 0, none⟩) (zA) _).setCell (p := ⟨w.heap.size + 1, 1, none⟩) (zA) _)
def kB (t : Int) (ps : List Po) (id up z mn mx us co : Int) : Int :=
 if bW t ps id up z ≠ 0 then bW t ps id up z else nN ps (fP t ps id up z).2 mn mx us co
def uD (ps : List Po) (e : Po) (up : Int) (rs : List Po) : Prop :=
 ∃ qs ms x' c' ls', cD ps qs ∧ iN e qs ms ∧ gC ⟨e.a, e.l, 2, e.id, 0⟩ (poAt ms (aP ms up).toNat).ls ls' ∧ rs = ms.set (aP ms up).toNat (aT (poAt ms (aP ms up).toNat) x' ls'.length c' ls')
def oJ (t : Int) (ps : List Po) (id up z mn mx us co : Int) (w : World) (r : Ending) (w' : World) : Prop :=
 ∃ v rs t' a l, r = .returned (.tuple #[.agg #[.int .i64 t', v], .agg #[.int .i64 a, .int .i64 l], .int .i64 (kB t ps id up z mn mx us co)]) ∧ Below w.heap.size w w' ∧ dR w' w.heap.size v rs rs.length ∧
  (kB t ps id up z mn mx us co ≠ 0 → t' = 0 ∧ rs = [] ∧ a = 0 ∧ l = 0) ∧
  (kB t ps id up z mn mx us co = 0 → t' = t ∧ (a, l) = fP t ps id up z ∧ uD ps ⟨id, up, a, l, mn, mx, us, co, none, 0, 0, []⟩ up rs)
theorem oJ.err {id : Int} (hE : kB t ps id up z mn mx us co = E ∧ E ≠ 0) (hb : Below w.heap.size w w') :
  oJ t ps id up z mn mx us co w (.returned (.tuple #[.agg #[.int .i64 0, .slice none 0 0], .agg #[.int .i64 0, .int .i64 0], .int .i64 E])) w' :=
 ⟨_, [], 0, 0, 0, by rw [hE.1], hb, dR.nil _ _, fun _ => ⟨rfl, rfl, rfl, rfl⟩, fun h => absurd (hE.1.symm.trans h) hE.2⟩
structure MS (w W : World) (t mn mx us co : Int) (v : Value) : Prop where
 hb : W.heap[w.heap.size]? = some (gR t v)
 hu : W.heap[w.heap.size + 1]? = some (.cells #[.int .i64 mn, .int .i64 mx, .int .i64 us, .int .i64 co] 56)
 hs : W.heap[w.heap.size + 2]? = some (gR 0 (.slice none 0 0))
 hr : W.heap[w.heap.size + 3]? = some (.cells #[.int .i64 0, .int .i64 0] 49)
 below : Below w.heap.size w W
theorem MS.later (h : MS w W t mn mx us co v) (hb : Below W.heap.size W W') : MS w W' t mn mx us co v :=
 ⟨aA hb h.hb, aA hb h.hu, aA hb h.hs, aA hb h.hr, h.below.trans (hb.mono h.below.size)⟩
theorem MS.kept (h : MS w W t mn mx us co v) (hk : dW base W W') (hb : w.heap.size ≤ base) : MS w W' t mn mx us co v :=
 ⟨hk.box _ _ _ h.hb (by decide) (by decide), hk.box _ _ _ h.hu (by decide) (by decide), hk.box _ _ _ h.hs (by decide) (by decide), hk.box _ _ _ h.hr (by decide) (by decide), h.below.trans (hk.below.mono hb)⟩
theorem MS.fin (h : MS w W t mn mx us co v) (a b c d : Value) : Below w.heap.size w ((((W.setCell ⟨w.heap.size + 2, 0, none⟩ a).setCell ⟨w.heap.size + 2, 1, none⟩ b).setCell ⟨w.heap.size + 3, 0, none⟩ c).setCell ⟨w.heap.size + 3, 1, none⟩ d) :=
 (((h.below.setCell (p := ⟨w.heap.size + 2, 0, none⟩) (zA) _).setCell (p := ⟨w.heap.size + 2, 1, none⟩) (zA) _).setCell (p := ⟨w.heap.size + 3, 0, none⟩) (zA) _).setCell (p := ⟨w.heap.size + 3, 1, none⟩) (zA) _
theorem iN.len (h : iN e qs rs) : rs.length = qs.length + 1 := by
 obtain ⟨i, hi, -, -, rfl⟩ := h
 simp
 omega
theorem iN.all {p : Po → Prop} (h : iN e qs rs) (he : p e) (hq : ∀ j, j < qs.length → p (poAt qs j)) : ∀ j, j < rs.length → p (poAt rs j) := by
 intro j hj
 have hl := h.len
 obtain ⟨i, hi, -, -, rfl⟩ := h
 rw [oG hi]
 by_cases c1 : j < i
 ·rw [if_pos c1]; exact hq j (by omega)
 ·rw [if_neg c1]
  by_cases c2 : j = i
  ·rw [if_pos c2]; exact he
  ·rw [if_neg c2]; exact hq (j - 1) (by omega)
theorem iN.has (h : iN e qs rs) (hq : ¬ aP qs up < 0) : ∃ k : Nat, k < rs.length ∧ aP rs up = k := by
 have hl := h.len
 obtain ⟨q, hq1, -, hq3⟩ := aQ hq
 by_cases hn : aP rs up < 0
 ·have h2 := iC hn
  obtain ⟨i, hi, -, -, rfl⟩ := h
  by_cases c1 : q < i
  ·have := h2 q (by omega)
   rw [oG hi, if_pos c1] at this
   exact absurd hq3 this
  ·have := h2 (q + 1) (by omega)
   rw [oG hi, if_neg (by omega), if_neg (by omega)] at this
   exact absurd hq3 this
 ·obtain ⟨k, h1, h2, -⟩ := aQ hn
  exact ⟨k, h1, h2⟩
theorem Q9 {id : Int} (h : bW t ps id up z = 0) : aV t ps = 0 ∧ ¬ aP ps up < 0 ∧ ∀ i, i < ps.length → (poAt ps i).n ≤ 32 := by
 unfold bW at h
 by_cases h1 : aV t ps = 0
 ·refine ⟨h1, fun h2 => ?_, fun i hi => (iP h1 i hi).1⟩
  rw [if_neg (by simp [h1])] at h
  split at h
  ·cases h
  ·first | (rw [if_pos h2] at h; cases h) | cases h
 ·rw [if_pos h1] at h; exact absurd h h1
theorem N9 (t : Int) (x : Option Addr) (n c : Nat) (ps : List Po) (id up z mn mx us co : Int) (w : World) (hk : Bk w x n c ps) :
  Calls Tryz.prog 44 #[.agg #[.int .i64 t, .slice x n c], .int .i64 id, .int .i64 up, .int .i64 z, .agg #[.int .i64 mn, .int .i64 mx, .int .i64 us, .int .i64 co]] w (oJ t ps id up z mn mx us co w) := by
 have hpl : Hid (ps.length = n) := hk.ps.len
 go_enter Tryz.func44, Tryz.ntmps44
 go_upto_region 1 with fail
 obtain ⟨w0, hw0⟩ : ∃ w0, w0 = (((w.alloc (gR t (.slice x n c))).alloc (.cells #[.int .i64 mn, .int .i64 mx, .int .i64 us, .int .i64 co] 56)).alloc (gR 0 (.slice none 0 0))).alloc (.cells #[.int .i64 0, .int .i64 0] 49) := ⟨_, rfl⟩
 rw [← hw0]
 have hT0 : MS w w0 t mn mx us co (.slice x n c) := by
  rw [hw0]
  exact ⟨aF _ (aF _ (aF _ (aB _ rfl))), aF _ (aF _ (aB _ (by simp))), aF _ (aB _ (by simp)), aB _ (by simp), ((cC w _ _).alloc (by simp; omega) _).alloc (by simp; omega) _⟩
 clear hw0
 obtain ⟨b0, b1⟩ := aR hT0.hb rfl rfl
 obtain ⟨u0, u1, u2, u3⟩ := dN hT0.hu rfl rfl rfl rfl
 obtain ⟨s0, s1⟩ := aR hT0.hs rfl rfl
 obtain ⟨zs0, zs1⟩ := cA hT0.hs
 obtain ⟨r0, r1⟩ := aR hT0.hr rfl rfl
 obtain ⟨zr0, zr1⟩ := cA hT0.hr
 have hnr := C9 t x n c ps id up z w0 (hk.later hT0.below)
 unfold fV at hnr
 obtain ⟨pA, hpA⟩ : ∃ pA, Hid (pA = (fP t ps id up z).1) := ⟨_, rfl⟩
 obtain ⟨pL, hpL⟩ : ∃ pL, Hid (pL = (fP t ps id up z).2) := ⟨_, rfl⟩
 rw [← hpA.out, ← hpL.out] at hnr
 by_cases hne0 : bW t ps id up z = 0
 ·obtain ⟨hc0, hup, hn32⟩ := Q9 hne0
  have hup' : Hid (¬ aP ps up < 0) := hup
  have hn32' : Hid (∀ i, i < ps.length → (poAt ps i).n ≤ 32) := hn32
  have hn8 : n ≤ 8 := by rw [← hpl.out]; exact sJ hc0
  have hE1 : Hid (kB t ps id up z mn mx us co = nN ps pL mn mx us co) := by
   unfold Hid kB
   rw [if_neg (by simp [hne0]), hpL.out]
  rw [hne0] at hnr
  clear hc0 hup hn32 hne0
  go_wp2_with fail
  refine hnr.mono ?_
  rintro e w1 ⟨rfl, hb1⟩
  have hT1 := hT0.later hb1
  clear b0 b1 u0 u1 u2 u3 s0 s1 zs0 zs1 r0 r1 zr0 zr1 hb1 hnr
  go_upto_region 2 with fail
  obtain ⟨w2, hw2⟩ : ∃ w2, w2 = w1.alloc (.cells #[.int .i64 pA, .int .i64 pL] 49) := ⟨_, rfl⟩
  rw [← hw2]
  have hT2 : MS w w2 t mn mx us co (.slice x n c) := by rw [hw2]; exact hT1.later (bl1 _ _)
  have hp2 : w2.heap[w1.heap.size]? = some (.cells #[.int .i64 pA, .int .i64 pL] 49) := by rw [hw2]; exact aB _ rfl
  have hsz1 : w.heap.size + 3 < w1.heap.size := (zG hT1.hr)
  clear hw2
  obtain ⟨b0, b1⟩ := aR hT2.hb rfl rfl
  obtain ⟨u0, u1, u2, u3⟩ := dN hT2.hu rfl rfl rfl rfl
  obtain ⟨s0, s1⟩ := aR hT2.hs rfl rfl
  obtain ⟨zs0, zs1⟩ := cA hT2.hs
  obtain ⟨r0, r1⟩ := aR hT2.hr rfl rfl
  obtain ⟨zr0, zr1⟩ := cA hT2.hr
  obtain ⟨p0, p1⟩ := aR hp2 rfl rfl
  have had := sL t pA pL mn mx us co x n c ps hpl.out w2
  by_cases hae : nN ps pL mn mx us co = 0
  ·have hE0 : Hid (kB t ps id up z mn mx us co = 0) := hE1.out.trans hae
   rw [hae] at had
   clear hE1 hae
   go_wp2_with fail
   refine had.mono ?_
   rintro e w3 ⟨rfl, hb3⟩
   have hT3 := hT2.later hb3
   have hp3 := aA hb3 hp2
   clear b0 b1 u0 u1 u2 u3 s0 s1 zs0 zs1 r0 r1 zr0 zr1 p0 p1 hb3 hp2 had
   obtain ⟨b0, b1⟩ := aR hT3.hb rfl rfl
   obtain ⟨u0, u1, u2, u3⟩ := dN hT3.hu rfl rfl rfl rfl
   obtain ⟨s0, s1⟩ := aR hT3.hs rfl rfl
   obtain ⟨zs0, zs1⟩ := cA hT3.hs
   obtain ⟨r0, r1⟩ := aR hT3.hr rfl rfl
   obtain ⟨zr0, zr1⟩ := cA hT3.hr
   obtain ⟨p0, p1⟩ := aR hp3 rfl rfl
   have hwp := sK t x n c ps ⟨id, up, pA, pL, mn, mx, us, co, none, 0, 0, []⟩ w3 (hk.later hT3.below) hn8 rfl rfl rfl rfl
   go_wp2_with fail
   refine hwp.mono ?_
   rintro e w5 ⟨v5, qs, ms, rfl, hb5, hs, hput, hOB⟩
   obtain ⟨k, hkl, hke⟩ := hput.has (up := up) (by rw [uC hs]; have := hup'.out; omega)
   have hmn : ∀ j, j < ms.length → (poAt ms j).n ≤ 32 := iN.all (p := fun p => p.n ≤ 32) hput (Nat.zero_le _) (fun j hj => by
    have hj2 : j < ps.length := by rw [hs.1]; exact hj
    rw [← (hs.2 j hj2).2.2.2.2.2.2.2.2.1]
    exact hn32'.out j hj2)
   have hml : ms.length ≤ 9 := by have := hput.len; rw [← hs.1, hpl.out] at this; omega
   rcases hOB.row.2 with ⟨-, h0⟩ | ⟨g, cap, cur, rfl, hg1, hg2, -⟩
   ·omega
   clear b0 b1 u0 u1 u2 u3 s0 s1 zs0 zs1 r0 r1 zr0 zr1 p0 p1 hwp
   go_upto_region 7 with fail
   obtain ⟨w6, hw6⟩ : ∃ w6, w6 = w5.alloc (gR t (.slice (some ⟨g, 0, none⟩) ms.length cap)) := ⟨_, rfl⟩
   rw [← hw6]
   have hT6 : MS w w6 t mn mx us co (.slice x n c) := by rw [hw6]; exact (hT3.later hb5).later (bl1 _ _)
   have hp6 : w6.heap[w1.heap.size]? = some (.cells #[.int .i64 pA, .int .i64 pL] 49) := by rw [hw6]; exact aF _ (aA hb5 hp3)
   have hn6 : w6.heap[w5.heap.size]? = some (gR t (.slice (some ⟨g, 0, none⟩) ms.length cap)) := by rw [hw6]; exact aB _ rfl
   have hOB6 : dR w6 w3.heap.size (.slice (some ⟨g, 0, none⟩) ms.length cap) ms ms.length := by rw [hw6]; exact hOB.later (bl1 _ _)
   have hs6 : w3.heap.size ≤ w6.heap.size := by rw [hw6]; have := hb5.size; simp; omega
   have hsz3 : w.heap.size + 3 < w3.heap.size := (zG hT3.hr)
   have hsz5 : w.heap.size + 3 < w5.heap.size := by have := hb5.size; omega
   clear hw6 hOB hb5 hg2 hp3
   obtain ⟨xq2, cq2, hvq2, hBk2⟩ := hOB6.bk (fun j hj => by have := hmn j hj; omega)
   simp only [Value.slice.injEq] at hvq2
   obtain ⟨rfl, -, rfl⟩ := hvq2
   have hpl2 := fun W h => pplace_any t up (some ⟨g, 0, none⟩) ms.length cap ms W h (by omega)
   rw [hke] at hpl2
   have hps6 := hBk2.ps
   have g0 := Ws.here (v := .int .i64 t) ((aE hn6).1 0)
   have g1 := Ws.here (v := .slice (some ⟨g, 0, none⟩) ms.length cap) ((aE hn6).1 1)
   have g2 := Ws.here (v := .int .i64 pA) ((aE hp6).1 0)
   have g3 := Ws.here (v := .int .i64 pL) ((aE hp6).1 1)
   have hk0 : (0 : Int) ≤ k := by omega
   have hk1 : (k : Int) < ms.length := by omega
   have hR : Hid (∀ x' c' ls', gC ⟨pA, pL, 2, id, 0⟩ (poAt ms k).ls ls' → uD ps ⟨id, up, pA, pL, mn, mx, us, co, none, 0, 0, []⟩ up (ms.set k (aT (poAt ms k) x' ls'.length c' ls'))) := fun x' c' ls' h => ⟨qs, ms, x', c', ls', hs, hput, by rw [hke]; exact h, by rw [hke]; rfl⟩
   clear hke
   refine jZ w6.heap.size 9 (by kernel_rfl) (by kernel_rfl) ?_
   simp only [List.take_succ_cons, List.take_zero, List.drop_succ_cons, List.drop_zero]
   repeat (go_big_quiet_step ((go_at_call 82; exact Calls.in_ws (zE) (hpl2 _ (hps6.later (Ws.property _))))))
   refine wpQuiet_nil ?_
   intro uu
   have hB7 := uu.property
   generalize uu.val = w7 at hB7 ⊢
   clear uu g0 g1 g2 g3 hpl2
   have hadd := sI ⟨pA, pL, 2, id, 0⟩ w3.heap.size g ms.length cap ms k w7 (hOB6.later hB7) hkl (hmn k hkl) (Nat.le_trans hs6 hB7.size)
   go_wp2_with fail
   refine hadd.mono ?_
   rintro e w8 ⟨rfl, x', c', ls', hpl3, hOB8, hg8⟩
   obtain ⟨hbg, cur7, hgc7⟩ := (hOB6.later hB7).row.block
   have hKu : dW w3.heap.size w6 w8 := (dW.of_below hB7 hs6).trans (dW.of_grown hg8 hbg (Nat.le_trans hs6 hB7.size) hgc7 (.inl rfl))
   have hT8 := hT6.kept hKu hT3.below.size
   have hp8 := hKu.box _ _ _ hp6 (by decide) (by decide)
   have hn8' := hKu.box _ _ _ hn6 (by decide) (by decide)
   have hR2 : Hid (uD ps ⟨id, up, pA, pL, mn, mx, us, co, none, 0, 0, []⟩ up (ms.set k (aT (poAt ms k) x' ls'.length c' ls'))) := hR.out x' c' ls' hpl3
   clear hadd hB7 hg8 hgc7 hKu hT6 hp6 hn6 hOB6 hR hpl3
   obtain ⟨m0, m1⟩ := aR hn8' rfl rfl
   obtain ⟨p0, p1⟩ := aR hp8 rfl rfl
   have n1 : ¬ w1.heap.size = w.heap.size + 2 := by omega
   have n3 : ¬ w1.heap.size = w.heap.size + 3 := by omega
   have n5 : ¬ w5.heap.size = w.heap.size + 2 := by omega
   have n7 : ¬ w5.heap.size = w.heap.size + 3 := by omega
   obtain ⟨s0, s1⟩ := aR hT8.hs rfl rfl
   obtain ⟨zs0, zs1⟩ := cA hT8.hs
   obtain ⟨r0, r1⟩ := aR hT8.hr rfl rfl
   obtain ⟨zr0, zr1⟩ := cA hT8.hr
   go_upto_region 8 with fail
   go_region_with fail
   all_goals go_wp2
   all_goals refine bodyPost_ret (v := .tuple #[.agg #[.int .i64 t, .slice (some ⟨g, 0, none⟩) ms.length cap], .agg #[.int .i64 pA, .int .i64 pL], .int .i64 0]) (by simp [results, Tryz.results44, go_sem, s0, s1, r0, r1]) rfl ?_
   all_goals have hsz2 : w.heap.size + 2 < w3.heap.size := by omega
   all_goals have hfin := (hT8.fin (.int .i64 t) (.slice (some ⟨g, 0, none⟩) ms.length cap) (.int .i64 pA) (.int .i64 pL)).drew
   all_goals have hob := (((((hOB8.put (o := 0) (u := .int .i64 t) hsz2).put (o := 1) (u := .slice (some ⟨g, 0, none⟩) ms.length cap) hsz2).put (o := 0) (u := .int .i64 pA) hsz3).put (o := 1) (u := .int .i64 pL) hsz3).later (zD).drew).low hT3.below.size
   all_goals exact ⟨_, _, t, pA, pL, by rw [hE0.out], hfin, hob, fun h => absurd hE0.out h, fun _ => ⟨rfl, by rw [hpA.out, hpL.out], hR2.out⟩⟩
  ·have hne : Hid (kB t ps id up z mn mx us co = nN ps pL mn mx us co ∧ nN ps pL mn mx us co ≠ 0) := ⟨hE1.out, hae⟩
   go_wp2_with fail
   refine had.mono ?_
   rintro e w3 ⟨rfl, hb3⟩
   have hT3 := hT2.later hb3
   clear b0 b1 u0 u1 u2 u3 s0 s1 zs0 zs1 r0 r1 zr0 zr1 p0 p1 hb3 hp2 had
   obtain ⟨b0, b1⟩ := aR hT3.hb rfl rfl
   obtain ⟨u0, u1, u2, u3⟩ := dN hT3.hu rfl rfl rfl rfl
   obtain ⟨s0, s1⟩ := aR hT3.hs rfl rfl
   obtain ⟨zs0, zs1⟩ := cA hT3.hs
   obtain ⟨r0, r1⟩ := aR hT3.hr rfl rfl
   obtain ⟨zr0, zr1⟩ := cA hT3.hr
   go_wp2
   refine bodyPost_ret (v := .tuple #[.agg #[.int .i64 0, .slice none 0 0], .agg #[.int .i64 0, .int .i64 0], .int .i64 (nN ps pL mn mx us co)]) (by simp [results, Tryz.results44, go_sem, s0, s1, r0, r1]) rfl ?_
   exact oJ.err hne.out (hT3.fin _ _ _ _)
 ·have hne : Hid (kB t ps id up z mn mx us co = bW t ps id up z ∧ bW t ps id up z ≠ 0) := ⟨if_pos hne0, hne0⟩
  go_wp2_with fail
  refine hnr.mono ?_
  rintro e w1 ⟨rfl, hb1⟩
  have hT1 := hT0.later hb1
  clear b0 b1 u0 u1 u2 u3 s0 s1 zs0 zs1 r0 r1 zr0 zr1 hb1 hnr
  go_upto_region 2 with fail
  obtain ⟨w2, hw2⟩ : ∃ w2, w2 = w1.alloc (.cells #[.int .i64 pA, .int .i64 pL] 49) := ⟨_, rfl⟩
  rw [← hw2]
  have hT2 : MS w w2 t mn mx us co (.slice x n c) := by rw [hw2]; exact hT1.later (bl1 _ _)
  clear hw2
  obtain ⟨b0, b1⟩ := aR hT2.hb rfl rfl
  obtain ⟨u0, u1, u2, u3⟩ := dN hT2.hu rfl rfl rfl rfl
  obtain ⟨s0, s1⟩ := aR hT2.hs rfl rfl
  obtain ⟨zs0, zs1⟩ := cA hT2.hs
  obtain ⟨r0, r1⟩ := aR hT2.hr rfl rfl
  obtain ⟨zr0, zr1⟩ := cA hT2.hr
  go_wp2
  refine bodyPost_ret (v := .tuple #[.agg #[.int .i64 0, .slice none 0 0], .agg #[.int .i64 0, .int .i64 0], .int .i64 (bW t ps id up z)]) (by simp [results, Tryz.results44, go_sem, s0, s1, r0, r1]) rfl ?_
  exact oJ.err hne.out (hT2.fin _ _ _ _)
theorem KW (w : World) : Calls Tryz.prog 29 #[] w fun e w' => e = .returned (.agg #[.int .i64 8, .int .i64 16, .int .i64 12, .int .i64 3]) ∧ Below w.heap.size w w' := by
 go_enter Tryz.func29, Tryz.ntmps29
 go_wp2
 refine bodyPost_ret (v := .agg #[.int .i64 8, .int .i64 16, .int .i64 12, .int .i64 3]) (by simp [results, Tryz.results29, go_sem]) rfl ⟨rfl, ?_⟩
 exact bl1 w _
theorem HI (t id : Int) (x : Option Addr) (n c : Nat) (ps : List Po) (w : World) (hp : nW w x n ps) (hn : n ≤ 1048576) :
  Calls Tryz.prog 13 #[.agg #[.int .i64 t, .slice x n c], .int .i64 id] w fun e w' => e = .returned (.int .i64 (aP ps id)) ∧ Below w.heap.size w w' := by
 go_enter Tryz.func13, Tryz.ntmps13
 go_wp2
 go_loopw [5] (fun i wr => ∃ q : Nat, q ≤ n ∧ i = .int .i64 q ∧ wr = w.alloc (.cells #[.int .i64 t, .slice x n c] 25) ∧ (∀ j, j < q → (poAt ps j).id ≠ id)) (fun i _ => n - (intOf i).toNat)
 case atStart => exact ⟨0, by omega, rfl, rfl, fun j hj => by omega⟩
 case round =>
  obtain ⟨q, hq, rfl, rfl, hno⟩ := hrel
  have hpl := hp.len
  by_cases hlt : q < n
  ·obtain ⟨b, o, rfl, c0, -⟩ := (hp.later (bl1 w (.cells #[.int .i64 t, .slice x n c] 25))).cells q hlt
   have hlt' := hlt
   by_cases hid : (poAt ps q).id = id
   ·have hb : ((poAt ps q).id == id) = true := by simpa using hid
    have hid' : Hid ((poAt ps q).id = id) := hid
    clear hid
    go_wp2
    go_ret
    exact ⟨cQ (lO (by omega) hid'.out hno).symm, bl1 w _⟩
   ·have hb : ((poAt ps q).id == id) = false := by simpa using hid
    have hid' : Hid ((poAt ps q).id ≠ id) := hid
    clear hid
    go_wp2
    go_roundw
    case rel => exact ⟨q + 1, hlt', by go_num, by first | rfl | trivial, fun j hj => by
     by_cases hj2 : j < q
     ·exact hno j hj2
     ·obtain rfl : j = q := by omega
      exact hid'.out⟩
    case measure => simp [intOf]; omega
  ·go_wp2
   go_ret
   exact ⟨cQ (pD (fun j hj => hno j (by omega))).symm, bl1 w _⟩
open Go.ChangeShapes Go.WideShapes Go.ChangeAt Go.RowKit Go.Joins
theorem TT : Tryz.prog.cellsOf 56 = 4 := by kernel_rfl
section
variable {H : Type} {enc : TypeId × Value → H} {w : World}
theorem mM {α : Type} {xs : List α} {m i : Nat} (h : xs.length = m) (hi : i < m) : (xs[i]?).isSome = true := by
 rw [List.getElem?_eq_getElem (by omega)]
 rfl
end
theorem E4 (h : ∀ i, i < n → f i = g i) : (List.range n).all f = (List.range n).all g := by
 rw [Bool.eq_iff_iff, List.all_eq_true, List.all_eq_true]
 exact ⟨fun k i hi => by rw [← h i (List.mem_range.1 hi)]; exact k i hi, fun k i hi => by rw [h i (List.mem_range.1 hi)]; exact k i hi⟩
theorem E5 (h : ∀ i, i < n → f i = g i) : aL n f = aL n g := by
 unfold aL
 rw [Bool.eq_iff_iff, List.any_eq_true, List.any_eq_true]
 exact ⟨fun ⟨i, hi, k⟩ => ⟨i, hi, by rw [← h i (List.mem_range.1 hi)]; exact k⟩, fun ⟨i, hi, k⟩ => ⟨i, hi, by rw [h i (List.mem_range.1 hi)]; exact k⟩⟩
def E6 (p q : Po) : Prop := p.id = q.id ∧ p.up = q.up ∧ p.a = q.a ∧ p.l = q.l ∧ p.mn = q.mn ∧ p.mx = q.mx ∧ p.us = q.us ∧ p.co = q.co
def eK (ps qs : List Po) : Prop := ps.length = qs.length ∧ ∀ i, i < ps.length → E6 (poAt ps i) (poAt qs i)
theorem sH.head {q : Po} (h : sH p q) : E6 p q := ⟨h.1, h.2.1, h.2.2.1, h.2.2.2.1, h.2.2.2.2.1, h.2.2.2.2.2.1, h.2.2.2.2.2.2.1, h.2.2.2.2.2.2.2.1⟩
theorem BO (h : eK ps qs) (id : Int) : aP qs id = aP ps id := by
 by_cases h1 : aP ps id < 0
 ·have h2 := iC h1
  rw [pD (ps := ps) h2, pD]
  intro j hj
  rw [← h.1] at hj
  rw [← (h.2 j hj).1]
  exact h2 j hj
 ·obtain ⟨i, hi, hat, -⟩ := aQ h1
  obtain ⟨-, h3, h4⟩ := kA hat
  rw [hat]
  refine lO (by rw [← h.1]; exact hi) (by rw [← (h.2 i hi).1]; exact h3) (fun j hj => ?_)
  rw [← (h.2 j (by omega)).1]
  exact h4 j hj
theorem yH (h : eK ps qs) : lR qs.length qs = lR ps.length ps := by
 unfold lR pN
 rw [← h.1]
 congr 1
 ·refine E4 fun i hi => ?_
  unfold oD
  rw [(h.2 i hi).1, (h.2 (i - 1) (by omega)).1]
 ·congr 1
  refine E5 fun i hi => ?_
  rw [(h.2 i hi).1]
theorem uE (h : eK ps qs) : gT qs = gT ps := by
 unfold gT
 rw [← h.1]
 refine E4 fun i hi => ?_
 obtain ⟨-, h2, h3, h4, -⟩ := h.2 i hi
 unfold mK
 rw [h2, h3, h4]
 congr 2
 refine E5 fun j hj => ?_
 obtain ⟨-, g2, g3, g4, -⟩ := h.2 j (by omega)
 unfold kT
 rw [g2, g3, g4]
theorem OA (h : eK ps qs) (t id : Int) (e : Le) : rE t qs id e = rE t ps id e := by
 unfold rE
 rw [BO h]
 by_cases h1 : e.kd = 1
 ·rw [if_pos h1, if_pos h1]
 ·rw [if_neg h1, if_neg h1]
  by_cases h2 : e.kd = 2
  ·rw [if_pos h2, if_pos h2]
   by_cases h3 : aP ps e.ow < 0
   ·rw [if_pos h3, if_pos h3]
   ·rw [if_neg h3, if_neg h3]
    obtain ⟨i, hi, hat, -⟩ := aQ h3
    rw [hat]
    obtain ⟨-, g2, g3, g4, -⟩ := h.2 i hi
    unfold TI
    rw [Int.toNat_natCast, g2, g3, g4]
  ·rw [if_neg h2, if_neg h2]
theorem fD (hi : i < ls.length) : aO ls i ∈ ls := by
 unfold aO
 rw [zF, List.getElem?_eq_getElem hi]
 exact List.getElem_mem hi
theorem gG {e : Le} (h : e ∈ ls) : ∃ i, i < ls.length ∧ aO ls i = e := by
 obtain ⟨i, hi, rfl⟩ := List.mem_iff_getElem.1 h
 exact ⟨i, hi, by unfold aO; rw [zF, List.getElem?_eq_getElem hi]; rfl⟩
theorem jI {id : Int} (hn : ls.length = n) : aL n (eX ls id) = true ↔ ∃ e ∈ ls, e.kd = 2 ∧ e.ow = id := by
 constructor
 ·intro h
  obtain ⟨i, hi, hf, -⟩ := xV h
  unfold eX at hf
  simp only [zH, beq_iff_eq] at hf
  exact ⟨_, fD (by omega), hf⟩
 ·rintro ⟨e, he, h1, h2⟩
  obtain ⟨i, hi, rfl⟩ := gG he
  refine bD (k := i) (by rw [← hn]; exact hi) ?_
  unfold eX
  rw [h1, h2]
  simp
def bX (ps : List Po) : Prop := ∀ i, i < ps.length → (poAt ps i).ls.length = (poAt ps i).n
theorem OB (h : eK ps qs) (hp : bX ps) (hq : bX qs) (h2 : ∀ k, k < ps.length → ∀ e ∈ (poAt ps k).ls, e.kd = 2 → e ∈ (poAt qs k).ls) (f : Nat) :
  ∀ p q : Po, E6 p q → lD ps f p = true → lD qs f q = true := by
 induction f with
 | zero => intro p q _ h1; cases h1
 | succ f ih =>
  intro p q hpq h1
  obtain ⟨e1, e2, -⟩ := hpq
  unfold lD at h1 ⊢
  rw [← e1, ← e2]
  by_cases c1 : p.up = 0
  ·rw [if_pos c1]
  ·rw [if_neg c1] at h1 ⊢
   rw [BO h]
   by_cases c2 : aP ps p.up < 0
   ·rw [if_pos c2] at h1; cases h1
   ·rw [if_neg c2] at h1 ⊢
    obtain ⟨i, hi, hat, -⟩ := aQ c2
    rw [hat] at h1 ⊢
    rw [Int.toNat_natCast] at h1 ⊢
    by_cases c3 : aL (poAt ps i).n (eX (poAt ps i).ls p.id) = true
    ·rw [if_pos c3] at h1
     obtain ⟨e, he, k1, k2⟩ := (jI (hp i hi)).1 c3
     rw [if_pos ((jI (hq i (by rw [← h.1]; exact hi))).2 ⟨e, h2 i hi e he k1, k1, k2⟩)]
     exact ih _ _ (h.2 i hi) h1
    ·rw [if_neg c3] at h1; cases h1
theorem pR (hn : p.ls.length = p.n) : AV t ps p = true ↔ ∀ e ∈ p.ls, rE t ps p.id e = true := by
 unfold AV
 rw [List.all_eq_true]
 constructor
 ·intro h e he
  obtain ⟨i, hi, rfl⟩ := gG he
  exact h i (List.mem_range.2 (by omega))
 ·intro h i hi
  exact h _ (fD (by have := List.mem_range.1 hi; omega))
theorem pS (hc : aV t ps = 0) (hT0 : 0 ≤ T) (hT1 : T ≤ 1073741824) (h : eK ps qs) (hp : bX ps) (hq : bX qs) (hn : ∀ k, k < ps.length → (poAt qs k).n ≤ 32) (hU : ∀ k, k < ps.length → nK (lp (poAt qs k).ls) (poAt ps k).a (poAt ps k).l)
  (h2 : ∀ k, k < ps.length → ∀ e ∈ (poAt ps k).ls, e.kd = 2 → e ∈ (poAt qs k).ls) (hL : ∀ k, k < ps.length → ∀ e ∈ (poAt qs k).ls, rE T ps (poAt ps k).id e = true) : aV T qs = 0 := by
 obtain ⟨h8, -, hi, ht, hpo⟩ := hZ hc
 refine CY (by rw [← h.1]; exact h8) ?_
 have hw : dE T 0 1073741824 = true := by unfold dE; simp [hT0, hT1]
 rw [hw, yH h, hi, uE h, ht]
 simp only [Bool.true_and]
 refine tZ fun j hj => ?_
 have hj2 : j < ps.length := by rw [h.1]; exact hj
 obtain ⟨p1, p2, p3, p4⟩ := eI (hpo j hj2)
 obtain ⟨e1, e2, e3, e4, e5, e6, e7, e8⟩ := h.2 j hj2
 obtain ⟨-, hrt, -⟩ := iG p1
 unfold kZ
 have k1 : kS (poAt qs j).a (poAt qs j).l (poAt qs j).n (lp (poAt qs j).ls) = 0 := by
  unfold kS
  rw [if_neg (by have := hn j hj2; omega), ← e3, ← e4, hrt, EH (hU j hj2)]
  rfl
 have k3 : lD qs qs.length (poAt qs j) = true := by
  rw [← h.1]
  exact OB h hp hq h2 _ _ _ (h.2 j hj2) p3
 have k4 : AV T qs (poAt qs j) = true := (pR (hq j hj)).2 fun e he => by
  rw [OA h, ← e1]
  exact hL j hj2 e he
 rw [k1, k3, k4, ← e4, ← e5, ← e6, ← e7, ← e8, p2]
 rfl
theorem E7 {f : Le → Bool} (h : nK (lp ls) a l) : nK (lp (ls.filter f)) a l := by
 unfold lp at h ⊢
 refine ⟨fun u hu => ?_, ?_⟩
 ·obtain ⟨e, he, rfl⟩ := List.mem_map.1 hu
  exact h.inn _ (List.mem_map.2 ⟨e, (List.mem_filter.1 he).1, rfl⟩)
 ·have := h.rise
  rw [List.pairwise_map] at this ⊢
  exact this.filter f
theorem lU (hc : aV t ps = 0) (i : Nat) (hi : i < ps.length) : nK (lp (poAt ps i).ls) (poAt ps i).a (poAt ps i).l := by
 obtain ⟨-, -, -, -, hp⟩ := hZ hc
 exact I6 (iG (eI (hp i hi)).1).2.2
theorem rF (hc : aV t ps = 0) (hf : bX ps) (hm : 1 ≤ m) (hm1 : t + m ≤ 1073741824) (hs : cD ps qs) (hp : jY (t + m) qs qs.length rs) :
  aV (t + m) rs = 0 ∧ eK ps rs ∧ bX rs ∧ ∀ k, k < ps.length → (poAt rs k).ls = iQ (t + m) (poAt ps k).ls := by
 have hl : ∀ k, k < ps.length → k < qs.length := fun k hk => by rw [← hs.1]; exact hk
 have hls : ∀ k, k < ps.length → (poAt rs k).ls = iQ (t + m) (poAt ps k).ls ∧ (poAt rs k).n = (iQ (t + m) (poAt ps k).ls).length ∧ E6 (poAt ps k) (poAt rs k) := fun k hk => by
  obtain ⟨x, c, e⟩ := (hp.2 k (hl k hk)).1 (hl k hk)
  rw [e, (hs.2 k hk).2.2.2.2.2.2.2.2.2]
  exact ⟨rfl, rfl, (hs.2 k hk).head⟩
 have hH : eK ps rs := ⟨hs.1.trans hp.1.symm, fun k hk => (hls k hk).2.2⟩
 have hF : bX rs := fun k hk => by
  have hk2 : k < ps.length := by rw [hH.1]; exact hk
  rw [(hls k hk2).1, (hls k hk2).2.1]
 obtain ⟨-, ⟨ht0, ht1⟩, -, -, hpo⟩ := hZ hc
 refine ⟨pS hc (by omega) hm1 hH hf hF (fun k hk => ?_) (fun k hk => ?_) (fun k hk e he h2 => ?_) (fun k hk e he => ?_), hH, hF, fun k hk => (hls k hk).1⟩
 ·rw [(hls k hk).2.1]
  have h1 := (iP hc k hk).1
  have h2 := List.length_filter_le (fun e => !lE (t + m) e) (poAt ps k).ls
  have h3 := hf k hk
  unfold iQ
  omega
 ·rw [(hls k hk).1]
  exact E7 (lU hc k hk)
 ·rw [(hls k hk).1]
  refine List.mem_filter.2 ⟨he, ?_⟩
  unfold lE
  rw [h2]
  rfl
 ·rw [(hls k hk).1] at he
  obtain ⟨he1, he2⟩ := List.mem_filter.1 he
  have h4 := (pR (hf k hk)).1 (eI (hpo k hk)).2.2.2 e he1
  unfold rE at h4 ⊢
  by_cases c1 : e.kd = 1
  ·rw [if_pos c1] at h4 ⊢; exact h4
  ·rw [if_neg c1] at h4 ⊢
   by_cases c2 : e.kd = 2
   ·rw [if_pos c2] at h4 ⊢; exact h4
   ·rw [if_neg c2] at h4 ⊢
    by_cases c3 : e.kd = 3
    ·rw [if_pos c3] at h4 ⊢
     unfold lE at he2
     rw [c3] at he2
     simp only [zH, decide_eq_true_eq, beq_self_eq_true, Bool.true_and, Bool.not_eq_true', decide_eq_false_iff_not] at h4 he2 ⊢
     exact ⟨h4.1, by omega, by omega⟩
    ·rw [if_neg c3] at h4; cases h4
theorem JE {id : Int} (h : fB t ps id a l = 0) : aV t ps = 0 ∧ ∃ i j : Nat, i < ps.length ∧ aP ps id = i ∧ j < (poAt ps i).n ∧ bM (poAt ps i).n (qF (poAt ps i).ls a l) = j ∧ (aO (poAt ps i).ls j).kd = 1 ∧ (aO (poAt ps i).ls j).a = a ∧ (aO (poAt ps i).ls j).l = l := by
 unfold fB at h
 by_cases h1 : aV t ps = 0
 ·refine ⟨h1, ?_⟩
  rw [if_neg (by simp [h1])] at h
  by_cases h2 : aP ps id < 0
  ·rw [if_pos h2] at h; cases h
  ·rw [if_neg h2] at h
   obtain ⟨i, hi, hat, -⟩ := aQ h2
   rw [hat, Int.toNat_natCast] at h
   by_cases h3 : bM (poAt ps i).n (qF (poAt ps i).ls a l) < 0
   ·rw [if_pos h3] at h; cases h
   ·obtain ⟨j, hj, hf, hu⟩ := fC h3
    unfold qF at hu
    simp only [zH, beq_iff_eq, decide_eq_true_eq] at hu
    exact ⟨i, j, hi, hat, hj, hf, hu.1, hu.2.1, hu.2.2⟩
 ·rw [if_pos h1] at h; exact absurd h h1
theorem yI (hc : aV t ps = 0) (hi : i < ps.length) (h : eG (poAt ps i) z = 0) :
  ∃ x, eH (poAt ps i) z = (x, z) ∧ D7 (lp (poAt ps i).ls) (poAt ps i).a (poAt ps i).l z x ∧ ∀ y, D7 (lp (poAt ps i).ls) (poAt ps i).a (poAt ps i).l z y → x ≤ y := by
 obtain ⟨-, -, -, -, hp⟩ := hZ hc
 obtain ⟨h1, h2, -, -⟩ := eI (hp i hi)
 obtain ⟨r1, r2, r3, r4, -, -⟩ := C4 h2
 obtain ⟨-, hrt, -⟩ := iG h1
 unfold eG at h
 unfold eH
 by_cases hz : z < (poAt ps i).mn ∨ (poAt ps i).mx < z
 ·rw [if_pos hz] at h; cases h
 ·rw [if_neg hz] at h ⊢
  cases hq : oF (poAt ps i) z with
  | none => rw [hq] at h; cases h
  | some y =>
   refine ⟨y, rfl, ?_⟩
   unfold oF at hq
   by_cases hn : (poAt ps i).n = 32
   ·rw [if_pos hn] at hq; cases hq
   ·rw [if_neg hn] at hq
    unfold tR at hq
    have hE : tQ (poAt ps i).a (poAt ps i).l (poAt ps i).n (lp (poAt ps i).ls) z = 0 := by
     unfold tQ
     rw [if_pos h1, if_neg (by omega)]
    rw [if_pos hE] at hq
    have hF := QP (z := z) (CL (lp (poAt ps i).ls) (16 - (poAt ps i).l).toNat (poAt ps i).a (poAt ps i).l hrt (by omega)) (by omega)
    rw [hq] at hF
    exact hF
theorem SN {id : Int} (h : cZ t ps id z ow = 0) : aV t ps = 0 ∧ ¬ aP ps id < 0 ∧ dE ow 1 65536 = true ∧ eG (poAt ps (aP ps id).toNat) (nB (poAt ps (aP ps id).toNat) z) = 0 := by
 unfold cZ at h
 by_cases h1 : aV t ps = 0
 ·rw [if_neg (by simp [h1])] at h
  by_cases h2 : aP ps id < 0
  ·rw [if_pos h2] at h; cases h
  ·rw [if_neg h2] at h
   by_cases h3 : dE ow 1 65536 = false
   ·rw [if_pos h3] at h; cases h
   ·rw [if_neg h3] at h
    exact ⟨h1, h2, by simpa using h3, h⟩
 ·rw [if_pos h1] at h; exact absurd h h1
theorem HJ (h : mtsAny a l (lp ls) = false) {e : Le} (he : e ∈ ls) : fK a l e.a e.l = false := by
 cases hm : fK a l e.a e.l with
 | false => rfl
 | true =>
  have hmem : (e.a, e.l) ∈ lp ls := List.mem_map.2 ⟨e, he, rfl⟩
  have := gY.2 ⟨_, hmem, hm⟩
  rw [this] at h; cases h
theorem Bk.full (h : Bk w x n c ps) : bX ps := fun i hi => (h.ps.leases i (by rw [← h.ps.len]; exact hi)).2.2.len
theorem dR.full (h : dR w base v ps ps.length) : bX ps := fun i hi => (h.own i hi).ls.2.1
def E8 (ls : List Le) (v : Int) : Nat := (ls.filter fun e => (e.kd == 1) && GU e.a e.l v).length
def E9 (ps : List Po) (v : Int) : Nat := (ps.map fun p => E8 p.ls v).sum
def QI (ps : List Po) : Nat → Nat → Prop
 | 0, q => q < ps.length ∧ (poAt ps q).up = 0
 | d + 1, q => q < ps.length ∧ (poAt ps q).up ≠ 0 ∧ ∃ r : Nat, aP ps (poAt ps q).up = r ∧ (∃ e ∈ (poAt ps r).ls, e.kd = 2 ∧ e.ow = (poAt ps q).id) ∧ QI ps d r
theorem TV (hF : bX ps) (f : Nat) : ∀ q, q < ps.length → lD ps f (poAt ps q) = true → ∃ d, QI ps d q := by
 induction f with
 | zero => intro q _ h; cases h
 | succ f ih =>
  intro q hq h
  unfold lD at h
  by_cases c1 : (poAt ps q).up = 0
  ·exact ⟨0, hq, c1⟩
  ·rw [if_neg c1] at h
   by_cases c2 : aP ps (poAt ps q).up < 0
   ·rw [if_pos c2] at h; cases h
   ·rw [if_neg c2] at h
    obtain ⟨r, hr, hat, -⟩ := aQ c2
    rw [hat, Int.toNat_natCast] at h
    by_cases c3 : aL (poAt ps r).n (eX (poAt ps r).ls (poAt ps q).id) = true
    ·rw [if_pos c3] at h
     obtain ⟨d, hd⟩ := ih r hr h
     exact ⟨d + 1, hq, c1, r, hat, (jI (hF r hr)).1 c3, hd⟩
    ·rw [if_neg c3] at h; cases h
theorem QI.lt : ∀ {d q : Nat}, QI ps d q → q < ps.length
 | 0, _, h => h.1
 | _ + 1, _, h => h.1
theorem TW (h : lR ps.length ps = true) (i : Nat) : ∀ d, i + d + 1 < ps.length → (poAt ps i).id < (poAt ps (i + d + 1)).id := by
 unfold lR pN at h
 simp only [zH] at h
 have hr := List.all_eq_true.1 h.1
 have one : ∀ k, k + 1 < ps.length → (poAt ps k).id < (poAt ps (k + 1)).id := fun k hk => by
  have := hr (k + 1) (List.mem_range.2 hk)
  unfold oD at this
  simpa using this
 intro d
 induction d with
 | zero => intro hd; exact one i hd
 | succ d ih =>
  intro hd
  have h1 := ih (by omega)
  have h2 := one (i + d + 1) (by omega)
  rw [show i + (d + 1) + 1 = i + d + 1 + 1 by omega]
  omega
theorem fE (hs : cD ps qs) (hf : bX ps) (hi : i < ps.length) : eK ps (qs.set i (aT (poAt qs i) x' ls'.length c' ls')) ∧ bX (qs.set i (aT (poAt qs i) x' ls'.length c' ls')) ∧ ∀ k, k < ps.length → (poAt (qs.set i (aT (poAt qs i) x' ls'.length c' ls')) k).ls = if i = k then ls' else (poAt ps k).ls := by
 have hi2 : i < qs.length := by rw [← hs.1]; exact hi
 have hat : ∀ k, poAt (qs.set i (aT (poAt qs i) x' ls'.length c' ls')) k = if i = k then aT (poAt qs i) x' ls'.length c' ls' else poAt qs k := fun k => cY hi2
 refine ⟨⟨by rw [List.length_set]; exact hs.1, fun k hk => ?_⟩, fun k hk => ?_, fun k hk => ?_⟩
 ·rw [hat]
  by_cases e : i = k
  ·rw [if_pos e]
   subst e
   exact (hs.2 i hi).head
  ·rw [if_neg e]
   exact (hs.2 k hk).head
 ·rw [List.length_set] at hk
  rw [hat]
  by_cases e : i = k
  ·rw [if_pos e]; rfl
  ·rw [if_neg e]
   have hk2 : k < ps.length := by rw [hs.1]; exact hk
   have h1 := (hs.2 k hk2).2.2.2.2.2.2.2.2
   rw [← h1.1, ← h1.2]
   exact hf k hk2
 ·rw [hat]
  by_cases e : i = k
  ·rw [if_pos e, if_pos e]; rfl
  ·rw [if_neg e, if_neg e]
   exact (hs.2 k hk).2.2.2.2.2.2.2.2.2.symm
theorem JF : ∀ (l : List Nat) (i y : Nat) (h : i < l.length), (l.set i y).sum + l[i] = l.sum + y
 | x :: r, 0, y, _ => by simp; omega
 | x :: r, i + 1, y, h => by
  have := JF r i y (by simpa using h)
  simp only [List.set_cons_succ, List.sum_cons, List.getElem_cons_succ]
  omega
theorem OC {e : Le} (h : gC e ls ls') (v : Int) : E8 ls' v = E8 ls v + if ((e.kd == 1) && GU e.a e.l v) = true then 1 else 0 := by
 obtain ⟨k, hk, -, -, rfl⟩ := h
 unfold E8
 have e1 : ls.filter (fun e => (e.kd == 1) && GU e.a e.l v) = (ls.take k).filter (fun e => (e.kd == 1) && GU e.a e.l v) ++ (ls.drop k).filter (fun e => (e.kd == 1) && GU e.a e.l v) := by
  rw [← List.filter_append, List.take_append_drop]
 rw [e1, List.filter_append, List.filter_append, List.length_append, List.length_append, List.length_append, List.filter_cons, List.filter_nil]
 split
 ·simp only [List.length_singleton]; omega
 ·simp only [List.length_nil]; omega
theorem RA (h : ps.length = qs.length) (hl : ∀ k, k < ps.length → (poAt qs k).ls = (poAt ps k).ls) (v : Int) : E9 qs v = E9 ps v := by
 unfold E9
 congr 1
 refine List.ext_getElem (by simp [h]) fun k h1 h2 => ?_
 rw [List.length_map] at h1 h2
 rw [List.getElem_map, List.getElem_map, ← bI h1, ← bI h2, hl k h2]
theorem OD (hi : i < ps.length) (v : Int) : E9 (ps.set i p) v + E8 (poAt ps i).ls v = E9 ps v + E8 p.ls v := by
 unfold E9
 rw [List.map_set]
 have := JF (ps.map fun p => E8 p.ls v) i (E8 p.ls v) (by simpa using hi)
 rw [List.getElem_map, ← bI hi] at this
 exact this
theorem FA {e : Le} (h : gC e ls ls') : SJ (lp ls) e.a e.l (lp ls') := by
 obtain ⟨k, hk, h1, h2, rfl⟩ := h
 refine ⟨⟨k, by rw [rC]; exact hk, fun j hj => ?_, fun hj => ?_, ?_⟩⟩
 ·rw [(JB (by omega)).1]
  have := h1 j hj
  omega
 ·rw [rC] at hj
  rw [(JB hj).1]
  exact h2 hj
 ·unfold lp
  simp
theorem HK {id : Int} (hF : bX ps) (hE : cZ t ps id z ow = 0) (hat : aP ps id = i) (hi : i < ps.length) (hal : (a, l) = eH (poAt ps i) (nB (poAt ps i) z)) (hs : cD ps qs) (hput : gC ⟨a, l, 1, ow, 0⟩ (poAt ps i).ls ls') :
  aV t (qs.set i (aT (poAt qs i) x' ls'.length c' ls')) = 0 ∧ bX (qs.set i (aT (poAt qs i) x' ls'.length c' ls')) ∧ rt a l = true ∧ ∀ v, GU a l v = true → E9 (qs.set i (aT (poAt qs i) x' ls'.length c' ls')) v = E9 ps v + 1 := by
 obtain ⟨hc, -, how, hpf⟩ := SN hE
 rw [hat, Int.toNat_natCast] at hpf
 obtain ⟨hH, hFr, hls⟩ := fE (x' := x') (c' := c') (ls' := ls') hs hF hi
 obtain ⟨y, e1, e2, -⟩ := yI hc hi hpf
 rw [e1] at hal
 simp only [Prod.mk.injEq] at hal
 obtain ⟨rfl, hlz⟩ := hal
 rw [← hlz] at e2
 obtain ⟨-, ⟨ht0, ht1⟩, -, -, hpo⟩ := hZ hc
 have h31 := yC hpf
 have hmem : ∀ e, e ∈ ls' ↔ e = ⟨a, l, 1, ow, 0⟩ ∨ e ∈ (poAt ps i).ls := fun e => by
  obtain ⟨k, hk, -, -, rfl⟩ := hput
  have : (poAt ps i).ls = (poAt ps i).ls.take k ++ (poAt ps i).ls.drop k := (List.take_append_drop _ _).symm
  constructor
  ·intro h
   simp only [List.mem_append, List.mem_singleton] at h
   rcases h with (h | h) | h
   ·exact .inr (List.mem_of_mem_take h)
   ·exact .inl h
   ·exact .inr (List.mem_of_mem_drop h)
  ·rintro (h | h)
   ·simp [h]
   ·rw [this] at h
    simp only [List.mem_append, List.mem_singleton] at h ⊢
    rcases h with h | h
    ·exact .inl (.inl h)
    ·exact .inr h
 refine ⟨pS hc ht0 ht1 hH hF hFr (fun k hk => ?_) (fun k hk => ?_) (fun k hk e he h2 => ?_) (fun k hk e he => ?_), hFr, (bH e2.1).1, fun v hv => ?_⟩
 ·have hk2 : k < (qs.set i (aT (poAt qs i) x' ls'.length c' ls')).length := by rw [← hH.1]; exact hk
  rw [← hFr k hk2, hls k hk]
  by_cases e : i = k
  ·subst e
   rw [if_pos rfl, hput.len, hF i hi]
   omega
  ·rw [if_neg e, hF k hk]
   exact (iP hc k hk).1
 ·rw [hls k hk]
  by_cases e : i = k
  ·subst e
   rw [if_pos rfl]
   exact EI (lU hc i hi) e2.1 e2.2 (FA hput)
  ·rw [if_neg e]
   exact lU hc k hk
 ·rw [hls k hk]
  by_cases e' : i = k
  ·subst e'
   rw [if_pos rfl]
   exact (hmem e).2 (.inr he)
  ·rw [if_neg e']
   exact he
 ·rw [hls k hk] at he
  have hold : e ∈ (poAt ps k).ls → rE t ps (poAt ps k).id e = true := fun h => (pR (hF k hk)).1 (eI (hpo k hk)).2.2.2 e h
  by_cases e' : i = k
  ·subst e'
   rw [if_pos rfl] at he
   rcases (hmem e).1 he with rfl | h
   ·unfold rE
    rw [if_pos rfl, how]
    rfl
   ·exact hold h
  ·rw [if_neg e'] at he
   exact hold he
 ·have h1 := OD (ps := qs) (i := i) (p := aT (poAt qs i) x' ls'.length c' ls') (by rw [← hs.1]; exact hi) v
  have h2 := RA (ps := ps) (qs := qs) hs.1 (fun k hk => (hs.2 k hk).2.2.2.2.2.2.2.2.2.symm) v
  have h3 := OC hput v
  rw [if_pos (by simp [hv])] at h3
  have h4 : (poAt qs i).ls = (poAt ps i).ls := (hs.2 i hi).2.2.2.2.2.2.2.2.2.symm
  have h5 : (aT (poAt qs i) x' ls'.length c' ls').ls = ls' := rfl
  rw [h4, h5] at h1
  omega
def mN (c n : Int) : Int := if c < 0 then -((c + 1).tmod n) else c % n
theorem jJ (c n : Int) (hn : 0 < n) : 0 ≤ mN c n ∧ mN c n < n := by
 unfold mN
 split
 ·rename_i h
  rw [← Int.neg_tmod, Int.tmod_eq_emod_of_nonneg (by omega)]
  exact ⟨Int.emod_nonneg _ (by omega), Int.emod_lt_of_pos _ hn⟩
 ·exact ⟨Int.emod_nonneg _ (by omega), Int.emod_lt_of_pos _ hn⟩
theorem yJ (c n : Int) (w : World) (hc0 : -9223372036854775808 ≤ c) (hc1 : c ≤ 9223372036854775807) (hn0 : 0 < n) (hn1 : n ≤ 65536) :
  Calls Tryz.prog 7 #[.int .i64 c, .int .i64 n] w fun e w' => e = .returned (.int .i64 (mN c n)) ∧ w' = w := by
 have hz : n ≠ 0 := by omega
 unfold mN
 by_cases hneg : c < 0
 ·rw [if_pos hneg]
  have h1 : IntKind.i64.wrap (c + 1) = c + 1 := by rw [IntKind.wrap_i64]; omega
  have h2 : IntKind.i64.wrap (-(c + 1)) = -(c + 1) := by rw [IntKind.wrap_i64]; omega
  go_enter Tryz.func7, Tryz.ntmps7
  go_wp2
  go_ret
  exact ⟨rfl, rfl⟩
 ·rw [if_neg hneg]
  go_enter Tryz.func7, Tryz.ntmps7
  go_wp2
  go_ret
  exact ⟨rfl, rfl⟩
theorem uF : ∀ (n : Nat) (l : List Nat), l.Nodup → (∀ x ∈ l, x < n) → l.length ≤ n
 | 0, l, _, h => by
  match l, h with
  | [], _ => exact zE
  | x :: r, h => exact absurd (h x (by simp)) (by omega)
 | n + 1, l, hn, h => by
  by_cases hm : n ∈ l
  ·have h1 := uF n (l.erase n) (hn.erase n) (fun x hx => by
    have hx1 := h x (List.mem_of_mem_erase hx)
    have hx2 : x ≠ n := fun e => by
     subst e
     exact (List.Nodup.not_mem_erase hn) hx
    omega)
   rw [List.length_erase_of_mem hm] at h1
   omega
  ·have h1 := uF n l hn (fun x hx => by
    have hx1 := h x hx
    have hx2 : x ≠ n := fun e => hm (e ▸ hx)
    omega)
   omega
theorem JG : ∀ (d e q : Nat), QI ps d q → QI ps e q → d = e
 | 0, 0, _, _, _ => rfl
 | 0, e + 1, q, h, g => absurd h.2 g.2.1
 | d + 1, 0, q, h, g => absurd g.2 h.2.1
 | d + 1, e + 1, q, h, g => by
  obtain ⟨-, -, r, h1, -, h2⟩ := h
  obtain ⟨-, -, s, g1, -, g2⟩ := g
  have : r = s := by omega
  subst this
  rw [JG d e r h2 g2]
theorem FB : ∀ (d q : Nat), QI ps d q → ∃ l : List Nat, l.length = d + 1 ∧ l.Nodup ∧ ∀ x ∈ l, x < ps.length ∧ ∃ e, e ≤ d ∧ QI ps e x
 | 0, q, h => ⟨[q], rfl, by simp, fun x hx => by
  obtain rfl : x = q := by simpa using hx
  exact ⟨h.1, 0, zE, h⟩⟩
 | d + 1, q, h => by
  have hq := h
  obtain ⟨h0, -, r, -, -, h2⟩ := h
  obtain ⟨l, l1, l2, l3⟩ := FB d r h2
  refine ⟨q :: l, by rw [List.length_cons, l1], List.nodup_cons.2 ⟨fun hm => ?_, l2⟩, fun x hx => ?_⟩
  ·obtain ⟨-, e, he, hd⟩ := l3 q hm
   have := JG _ _ _ hq hd
   omega
  ·rcases List.mem_cons.1 hx with rfl | hx
   ·exact ⟨h0, d + 1, zE, hq⟩
   ·obtain ⟨x1, e, he, hd⟩ := l3 x hx
    exact ⟨x1, e, by omega, hd⟩
theorem TX (h : QI ps d q) : d < ps.length := by
 obtain ⟨l, l1, l2, l3⟩ := FB d q h
 have := uF ps.length l l2 (fun x hx => (l3 x hx).1)
 omega
theorem BP (hF : bX ps) : ∀ (d f q : Nat), QI ps d q → d < f → lD ps f (poAt ps q) = true
 | 0, f + 1, q, h, _ => by unfold lD; rw [if_pos h.2]
 | d + 1, f + 1, q, h, hf => by
  obtain ⟨-, h1, r, h2, h3, h4⟩ := h
  have hr := h4.lt
  unfold lD
  rw [if_neg h1, h2, if_neg (by omega), Int.toNat_natCast, if_pos ((jI (hF r hr)).2 h3)]
  exact BP hF d f r h4 (by omega)
theorem FC : mK ps j = true ↔ ∀ m, m < j → ((poAt ps j).up = 0 ∧ (poAt ps m).up = 0) → fK (poAt ps j).a (poAt ps j).l (poAt ps m).a (poAt ps m).l = false := by
 constructor
 ·intro h m hm hu
  cases hx : fK (poAt ps j).a (poAt ps j).l (poAt ps m).a (poAt ps m).l with
  | false => rfl
  | true =>
   have hy : aL j (kT ps (poAt ps j).a (poAt ps j).l) = true := bD hm (by unfold kT; rw [hu.2, gA, hx]; rfl)
   unfold mK at h
   rw [hu.1, hy] at h
   cases h
 ·intro h
  unfold mK
  cases hu : ((poAt ps j).up == 0) with
  | false => rfl
  | true =>
   have hn : aL j (kT ps (poAt ps j).a (poAt ps j).l) = false := fL fun m hm => by
    unfold kT
    cases hv : ((poAt ps m).up == 0) with
    | false => rfl
    | true =>
     rw [gA, h m hm ⟨by simpa using hu, by simpa using hv⟩]
     rfl
   rw [hn]
   rfl
def TY (q : Po) (x : Int) : Prop := ∃ e ∈ q.ls, e.kd = 2 ∧ e.ow = x
def MT (t : Int) (ps : List Po) (id : Int) (e : Le) : Prop :=
 (e.kd = 1 ∧ dE e.ow 1 65536 = true ∧ e.un = 0) ∨ (e.kd = 2 ∧ e.un = 0 ∧ ∃ q ∈ ps, q.id = e.ow ∧ q.up = id ∧ q.a = e.a ∧ q.l = e.l) ∨ (e.kd = 3 ∧ e.ow = 0 ∧ t < e.un ∧ e.un ≤ t + 1024)
structure RB (t : Int) (ps : List Po) : Prop where
 few : ps.length ≤ 8
 t0 : 0 ≤ t
 t1 : t ≤ 1073741824
 idw : ∀ p ∈ ps, dE p.id 1 65536 = true
 rise : ps.Pairwise fun p q => p.id < q.id
 tops : ps.Pairwise fun p q => p.up = 0 → q.up = 0 → fK p.a p.l q.a q.l = false
 n32 : ∀ p ∈ ps, p.ls.length ≤ 32
 root : ∀ p ∈ ps, rt p.a p.l = true
 used : ∀ p ∈ ps, nK (lp p.ls) p.a p.l
 rule : ∀ p ∈ ps, dF p.mn p.mx p.us p.co p.l = true
 ups : ∀ p ∈ ps, ∃ f, lD ps f p = true
 les : ∀ p ∈ ps, ∀ e ∈ p.ls, MT t ps p.id e
theorem poAt_mem (h : i < ps.length) : poAt ps i ∈ ps := by rw [bI h]; exact List.getElem_mem h
theorem bJ (h : p ∈ ps) : ∃ i, i < ps.length ∧ poAt ps i = p := by
 obtain ⟨i, hi, rfl⟩ := List.mem_iff_getElem.1 h
 exact ⟨i, hi, bI hi⟩
theorem uG (h : ps.Pairwise fun p q => p.id < q.id) {p q : Po} (hp : p ∈ ps) (hq : q ∈ ps) (e : p.id = q.id) : p = q := by
 obtain ⟨i, hi, rfl⟩ := List.mem_iff_getElem.1 hp
 obtain ⟨j, hj, rfl⟩ := List.mem_iff_getElem.1 hq
 rw [List.pairwise_iff_getElem] at h
 rcases Nat.lt_trichotomy i j with c | c | c
 ·have := h i j hi hj c
  omega
 ·subst c; rfl
 ·have := h j i hj hi c
  omega
theorem DA (h : ps.Pairwise fun p q => p.id < q.id) {q : Po} (hq : q ∈ ps) : ∃ i : Nat, i < ps.length ∧ aP ps q.id = i ∧ poAt ps i = q := by
 obtain ⟨i, hi, e⟩ := bJ hq
 refine ⟨i, hi, lO hi (by rw [e]) (fun j hj e2 => ?_), e⟩
 rw [List.pairwise_iff_getElem] at h
 have := h j i (by omega) hi hj
 rw [← bI (show j < ps.length by omega), ← bI hi, e, e2] at this
 omega
theorem bX.mem (h : bX ps) {p : Po} (hp : p ∈ ps) : p.ls.length = p.n := by
 obtain ⟨i, hi, rfl⟩ := bJ hp
 exact h i hi
theorem DB (h : ∀ p ∈ ps, p.ls.length = p.n) : bX ps := fun _ hi => h _ (poAt_mem hi)
theorem up_step (hF : bX ps) (h : ps.Pairwise fun p q => p.id < q.id) {f : Nat} {p : Po} : lD ps (f + 1) p = true ↔ p.up = 0 ∨ ∃ q ∈ ps, q.id = p.up ∧ TY q p.id ∧ lD ps f q = true := by
 by_cases c : p.up = 0
 ·simp [TE c, c]
 ·constructor
  ·intro g
   unfold lD at g
   rw [if_neg c] at g
   by_cases c2 : aP ps p.up < 0
   ·rw [if_pos c2] at g; cases g
   ·rw [if_neg c2] at g
    obtain ⟨i, hi, hat, he⟩ := aQ c2
    rw [hat, Int.toNat_natCast] at g
    by_cases c3 : aL (poAt ps i).n (eX (poAt ps i).ls p.id) = true
    ·rw [if_pos c3] at g
     exact .inr ⟨_, poAt_mem hi, he, (jI (hF i hi)).1 c3, g⟩
    ·rw [if_neg c3] at g; cases g
  ·rintro (g | ⟨q, hq, h1, h2, h3⟩)
   ·exact absurd g c
   ·obtain ⟨i, hi, hat, rfl⟩ := DA h hq
    rw [JC c (by rw [← h1]; exact hat) ((jI (hF i hi)).2 h2)]
    exact h3
theorem wZ (hp : bX ps) (hq : bX qs) (rp : ps.Pairwise fun p q => p.id < q.id) (rq : qs.Pairwise fun p q => p.id < q.id) (gone : Int)
  (hR : ∀ x, x ≠ gone → ∀ q ∈ ps, TY q x → q.id ≠ gone ∧ ∃ q' ∈ qs, q'.id = q.id ∧ q'.up = q.up ∧ TY q' x) :
  ∀ (f : Nat) (p p' : Po), p.id ≠ gone → p'.id = p.id → p'.up = p.up → lD ps f p = true → lD qs f p' = true
 | 0, p, p', _, _, _, h => by unfold lD at h; cases h
 | f + 1, p, p', hg, e1, e2, h => by
  rw [up_step hp rp] at h
  rw [up_step hq rq]
  rcases h with h | ⟨q, m, h1, h2, h3⟩
  ·exact .inl (e2.trans h)
  ·obtain ⟨g1, q', m', k1, k2, k3⟩ := hR p.id hg q m h2
   exact .inr ⟨q', m', by rw [k1, h1, e2], by rw [e1]; exact k3, wZ hp hq rp rq gone hR f q q' g1 k1 k2 h3⟩
theorem OE (hF : bX ps) {p : Po} (hp : p ∈ ps) (h : ∃ f, lD ps f p = true) : lD ps ps.length p = true := by
 obtain ⟨i, hi, rfl⟩ := bJ hp
 obtain ⟨f, h⟩ := h
 obtain ⟨d, hd⟩ := TV hF f i hi h
 exact BP hF d _ i hd (TX hd)
theorem lV : lR ps.length ps = true ↔ (ps.Pairwise fun p q => p.id < q.id) ∧ ∀ p ∈ ps, dE p.id 1 65536 = true := by
 constructor
 ·intro h
  refine ⟨?_, fun p hp => ?_⟩
  ·rw [List.pairwise_iff_getElem]
   intro i j hi hj hij
   have := TW h i (j - i - 1) (by omega)
   rw [show i + (j - i - 1) + 1 = j by omega, bI hi, bI hj] at this
   exact this
  ·obtain ⟨i, hi, rfl⟩ := bJ hp
   unfold lR at h
   rw [zH] at h
   cases e : dE (poAt ps i).id 1 65536
   ·rw [bD (f := fun i => !dE (poAt ps i).id 1 65536) hi (by simp [e])] at h
    exact absurd h.2 (by decide)
   ·rfl
 ·rintro ⟨h1, h2⟩
  unfold lR pN
  rw [zH, List.all_eq_true]
  refine ⟨fun i hi => ?_, ?_⟩
  ·have hi' : i < ps.length := by simpa using hi
   unfold oD
   cases i with
   | zero => rfl
   | succ i =>
    rw [List.pairwise_iff_getElem] at h1
    have := h1 i (i + 1) (by omega) hi' (by omega)
    rw [← bI (show i < ps.length by omega), ← bI hi'] at this
    simpa using this
  ·rw [fL (fun i hi => by rw [h2 _ (poAt_mem hi)]; rfl)]
   rfl
theorem jP : gT ps = true ↔ ps.Pairwise fun p q => p.up = 0 → q.up = 0 → fK p.a p.l q.a q.l = false := by
 unfold gT
 rw [List.all_eq_true, List.pairwise_iff_getElem]
 constructor
 ·intro h i j hi hj hij u1 u2
  have h1 := FC.1 (h j (by simpa using hj)) i hij
  rw [bI hi, bI hj] at h1
  rw [gA]
  exact h1 ⟨u2, u1⟩
 ·intro h j hj
  have hj' : j < ps.length := by simpa using hj
  refine FC.2 (fun i hij ⟨u2, u1⟩ => ?_)
  have h1 := h i j (by omega) hj' hij
  rw [← bI (show i < ps.length by omega), ← bI hj'] at h1
  rw [gA]
  exact h1 u1 u2
theorem DC (h : ps.Pairwise fun p q => p.id < q.id) {id : Int} {e : Le} : rE t ps id e = true ↔ MT t ps id e := by
 unfold rE MT
 by_cases c1 : e.kd = 1
 ·rw [if_pos c1]
  simp [c1]
 ·rw [if_neg c1]
  by_cases c2 : e.kd = 2
  ·rw [if_pos c2]
   constructor
   ·intro g
    by_cases c3 : aP ps e.ow < 0
    ·rw [if_pos c3] at g; cases g
    ·rw [if_neg c3] at g
     obtain ⟨i, hi, hat, he⟩ := aQ c3
     rw [hat, Int.toNat_natCast] at g
     unfold TI at g
     simp only [zH, decide_eq_true_eq, beq_iff_eq] at g
     exact .inr (.inl ⟨c2, g.2, _, poAt_mem hi, he, g.1.1, g.1.2.1, g.1.2.2⟩)
   ·rintro (g | ⟨-, g, q, hq, k1, k2, k3, k4⟩ | g)
    ·exact absurd g.1 c1
    ·obtain ⟨i, hi, hat, rfl⟩ := DA h hq
     rw [k1] at hat
     rw [if_neg (by omega), hat, Int.toNat_natCast]
     unfold TI
     simp [k2, k3, k4, g]
    ·omega
  ·rw [if_neg c2]
   by_cases c3 : e.kd = 3
   ·rw [if_pos c3]
    simp [c3]
   ·rw [if_neg c3]
    simp [c1, c2, c3]
theorem gH (hF : bX ps) (h : aV t ps = 0) : RB t ps := by
 obtain ⟨h8, ⟨ht0, ht1⟩, hi, ht, hpo⟩ := hZ h
 obtain ⟨hr, hw⟩ := lV.1 hi
 have hat : ∀ p ∈ ps, kZ t ps ps.length p = true := fun p hp => by
  obtain ⟨i, hi, rfl⟩ := bJ hp
  exact hpo i hi
 refine ⟨h8, ht0, ht1, hw, hr, jP.1 ht, fun p hp => ?_, fun p hp => ?_, fun p hp => ?_, fun p hp => (eI (hat p hp)).2.1, fun p hp => ⟨_, (eI (hat p hp)).2.2.1⟩, fun p hp e he => ?_⟩
 ·rw [hF.mem hp]
  exact (iG (eI (hat p hp)).1).1
 ·exact (iG (eI (hat p hp)).1).2.1
 ·exact I6 (iG (eI (hat p hp)).1).2.2
 ·exact (DC hr).1 ((pR (hF.mem hp)).1 (eI (hat p hp)).2.2.2 e he)
theorem RB.chk (h : RB t ps) (hF : bX ps) : aV t ps = 0 := by
 refine CY h.few ?_
 have hw : dE t 0 1073741824 = true := by unfold dE; simp [h.t0, h.t1]
 rw [hw, lV.2 ⟨h.rise, h.idw⟩, jP.2 h.tops]
 simp only [Bool.true_and]
 refine tZ fun j hj => ?_
 have hp := poAt_mem hj
 unfold kZ
 have k1 : kS (poAt ps j).a (poAt ps j).l (poAt ps j).n (lp (poAt ps j).ls) = 0 := by
  unfold kS
  rw [if_neg (by have := h.n32 _ hp; rw [hF j hj] at this; omega), h.root _ hp, EH (h.used _ hp)]
  rfl
 have k4 : AV t ps (poAt ps j) = true := (pR (hF j hj)).2 fun e he => (DC h.rise).2 (h.les _ hp e he)
 rw [k1, OE hF hp (h.ups _ hp), k4, h.rule _ hp]
 rfl
theorem oK (hF : bX ps) (h : cD ps qs) (hc : aV t ps = 0) : aV t qs = 0 ∧ bX qs := by
 have hH : eK ps qs := ⟨h.1, fun i hi => (h.2 i hi).head⟩
 have hls : ∀ k, k < ps.length → (poAt qs k).ls = (poAt ps k).ls ∧ (poAt qs k).n = (poAt ps k).n := fun k hk => ⟨(h.2 k hk).2.2.2.2.2.2.2.2.2.symm, (h.2 k hk).2.2.2.2.2.2.2.2.1.symm⟩
 have hFq : bX qs := fun k hk => by
  have hk2 : k < ps.length := by rw [h.1]; exact hk
  rw [(hls k hk2).1, (hls k hk2).2]
  exact hF k hk2
 obtain ⟨-, ⟨ht0, ht1⟩, -, -, hpo⟩ := hZ hc
 refine ⟨pS hc ht0 ht1 hH hF hFq (fun k hk => ?_) (fun k hk => ?_) (fun k hk e he h2 => ?_) (fun k hk e he => ?_), hFq⟩
 ·rw [(hls k hk).2]; exact (iP hc k hk).1
 ·rw [(hls k hk).1]; exact lU hc k hk
 ·rw [(hls k hk).1]; exact he
 ·rw [(hls k hk).1] at he
  exact (pR (hF k hk)).1 (eI (hpo k hk)).2.2.2 e he
theorem yK {α : Type} {R : α → α → Prop} {qs : List α} {e : α} {i : Nat} (h : qs.Pairwise R) (h1 : ∀ x ∈ qs.take i, R x e) (h2 : ∀ x ∈ qs.drop i, R e x) : (qs.take i ++ [e] ++ qs.drop i).Pairwise R := by
 rw [← List.take_append_drop i qs, List.pairwise_append] at h
 obtain ⟨p1, p2, p3⟩ := h
 rw [List.append_assoc, List.pairwise_append]
 refine ⟨p1, List.pairwise_cons.2 ⟨h2, p2⟩, fun a ha b hb => ?_⟩
 rcases List.mem_cons.1 hb with rfl | hb
 ·exact h1 a ha
 ·exact p3 a ha b hb
theorem jK {α : Type} {qs : List α} {e x : α} {i : Nat} : x ∈ qs.take i ++ [e] ++ qs.drop i ↔ x = e ∨ x ∈ qs := by
 have : x ∈ qs ↔ x ∈ qs.take i ∨ x ∈ qs.drop i := by rw [← List.mem_append, List.take_append_drop]
 rw [this]
 simp only [List.mem_append, List.mem_singleton]
 constructor
 ·rintro ((h | h) | h)
  ·exact .inr (.inl h)
  ·exact .inl h
  ·exact .inr (.inr h)
 ·rintro (h | h | h)
  ·exact .inl (.inr h)
  ·exact .inl (.inl h)
  ·exact .inr h
theorem FD (h : qs.Pairwise fun p q => p.id < q.id) (hp : iN e qs rs) (hno : ∀ q ∈ qs, q.id ≠ e.id) : rs.Pairwise fun p q => p.id < q.id := by
 obtain ⟨i, hi, h1, h2, rfl⟩ := hp
 refine yK h (fun x hx => ?_) (fun x hx => ?_)
 ·obtain ⟨j, hj, rfl⟩ := List.mem_iff_getElem.1 hx
  rw [List.length_take] at hj
  have hm : (qs.take i)[j] ∈ qs := List.mem_of_mem_take hx
  have g1 := h1 j (by omega)
  rw [bI (by omega)] at g1
  have g2 := hno _ hm
  rw [List.getElem_take] at g2 ⊢
  omega
 ·obtain ⟨j, hj, rfl⟩ := List.mem_iff_getElem.1 hx
  rw [List.length_drop] at hj
  rw [List.getElem_drop]
  have g1 := h2 (by omega)
  rw [bI (by omega)] at g1
  by_cases c : j = 0
  ·subst c
   exact g1
  ·rw [List.pairwise_iff_getElem] at h
   have := h i (i + j) (by omega) (by omega) (by omega)
   omega
theorem KX (h : chk a l = 0) : rt a l = true := by unfold rt; rw [h]; rfl
theorem HL {id : Int} (hF : bX ps) (hE : gD t ps id a l mn mx us co = 0) (hs : cD ps qs) (hp : iN ⟨id, 0, a, l, mn, mx, us, co, none, 0, 0, []⟩ qs rs) : aV t rs = 0 ∧ bX rs := by
 unfold gD at hE
 by_cases c0 : aV t ps = 0
 ·rw [if_neg (by simp [c0])] at hE
  by_cases c1 : dE id 1 65536 = false ∨ chk a l ≠ 0
  ·rw [if_pos c1] at hE; omega
  rw [if_neg c1] at hE
  by_cases c2 : 0 ≤ aP ps id ∨ aL ps.length (kT ps a l) = true
  ·rw [if_pos c2] at hE; omega
  rw [if_neg c2] at hE
  unfold nN at hE
  by_cases c3 : dF mn mx us co l = false
  ·rw [if_pos c3] at hE; omega
  rw [if_neg c3] at hE
  by_cases c4 : ps.length = 8
  ·rw [if_pos c4] at hE; omega
  simp only [not_or, Classical.not_not, Bool.not_eq_false, Bool.not_eq_true] at c1 c2
  have hrt : rt a l = true := by
   have h1 := c1.2
   exact KX h1
  have hno : ∀ q ∈ qs, q.id ≠ id := fun q hq e => by
   obtain ⟨i, hi, rfl⟩ := bJ hq
   have hi2 : i < ps.length := by rw [hs.1]; exact hi
   exact iC (id := id) (by omega) i hi2 (by rw [(hs.2 i hi2).1]; exact e)
  have htop : ∀ q ∈ qs, q.up = 0 → fK q.a q.l a l = false := fun q hq e => by
   obtain ⟨i, hi, rfl⟩ := bJ hq
   have hi2 : i < ps.length := by rw [hs.1]; exact hi
   obtain ⟨-, s2, s3, s4, -⟩ := hs.2 i hi2
   cases hx : fK (poAt qs i).a (poAt qs i).l a l
   ·rfl
   ·rw [bD (f := kT ps a l) hi2 (by unfold kT; rw [s2, s3, s4, e, hx]; rfl)] at c2
    exact absurd c2.2 (by decide)
  obtain ⟨hcq, hFq⟩ := oK hF hs c0
  have hB := gH hFq hcq
  have hr := FD hB.rise hp hno
  obtain ⟨k, hk, -, -, e⟩ := hp
  have hmem : ∀ x, x ∈ rs ↔ x = ⟨id, 0, a, l, mn, mx, us, co, none, 0, 0, []⟩ ∨ x ∈ qs := fun x => by rw [e]; exact jK
  have hFr : bX rs := DB fun p hp => by
   rcases (hmem p).1 hp with rfl | h
   ·rfl
   ·exact hFq.mem h
  have ev : ∀ (P : Po → Prop), P ⟨id, 0, a, l, mn, mx, us, co, none, 0, 0, []⟩ → (∀ q ∈ qs, P q) → ∀ p ∈ rs, P p := fun P h1 h2 p hp => by
   rcases (hmem p).1 hp with rfl | h
   ·exact h1
   ·exact h2 p h
  refine ⟨RB.chk ⟨?_, hB.t0, hB.t1, ?_, hr, ?_, ?_, ?_, ?_, ?_, ?_, ?_⟩ hFr, hFr⟩
  ·have h8 := hB.few
   have h9 := hs.1
   rw [e]
   simp
   omega
  ·exact ev _ (by simpa using c1.1) hB.idw
  ·rw [e]
   refine yK hB.tops (fun x hx u _ => htop x (List.mem_of_mem_take hx) u) (fun x hx _ u => ?_)
   rw [gA]
   exact htop x (List.mem_of_mem_drop hx) u
  ·exact ev _ (Nat.zero_le _) hB.n32
  ·exact ev _ hrt hB.root
  ·exact ev (fun p => nK (lp p.ls) p.a p.l) ⟨fun u hu => absurd hu (by simp [lp]), by simp [lp]⟩ hB.used
  ·exact ev _ (by simpa using c3) hB.rule
  ·refine ev (fun p => ∃ f, lD rs f p = true) ⟨1, TE rfl⟩ (fun q hq => ?_)
   obtain ⟨f, hf⟩ := hB.ups q hq
   have h0 : ∀ q ∈ qs, q.id ≠ 0 := fun q hq e0 => by
    have := hB.idw q hq
    rw [e0] at this
    exact absurd this (by decide)
   exact ⟨f, wZ hFq hFr hB.rise hr 0 (fun x _ q' hq' h2 => ⟨h0 q' hq', q', (hmem q').2 (.inr hq'), rfl, rfl, h2⟩) f q q (h0 q hq) rfl rfl hf⟩
  ·refine ev (fun p => ∀ e ∈ p.ls, MT t rs p.id e) (fun e he => absurd he (by simp)) (fun q hq e he => ?_)
   rcases hB.les q hq e he with h | ⟨h1, h2, q', hq', h3⟩ | h
   ·exact .inl h
   ·exact .inr (.inl ⟨h1, h2, q', (hmem q').2 (.inr hq'), h3⟩)
   ·exact .inr (.inr h)
 ·rw [if_pos c0] at hE
  exact absurd hE c0
def TZ (p : Po) (j : Nat) (t : Int) : Le := ⟨(aO p.ls j).a, (aO p.ls j).l, 3, 0, t + p.co⟩
theorem iR (h : i < ls.length) : aO ls i = ls[i] := by unfold aO; rw [zF, List.getElem?_eq_getElem h]; rfl
theorem cool_mem {e : Le} (hj : j < p.ls.length) (h : e ∈ bS p j t) : (∃ k, k ≠ j ∧ k < p.ls.length ∧ aO p.ls k = e) ∨ (p.co ≠ 0 ∧ e = TZ p j t) := by
 unfold bS at h
 by_cases c : p.co = 0
 ·rw [if_pos c] at h
  rcases List.mem_append.1 h with h | h
  ·obtain ⟨k, hk, rfl⟩ := List.mem_iff_getElem.1 h
   have hk' := hk
   rw [List.length_take] at hk'
   exact .inl ⟨k, by omega, by omega, by rw [iR (by omega), List.getElem_take]⟩
  ·obtain ⟨k, hk, rfl⟩ := List.mem_iff_getElem.1 h
   have hk' := hk
   rw [List.length_drop] at hk'
   exact .inl ⟨j + 1 + k, by omega, by omega, by rw [iR (by omega), List.getElem_drop]⟩
 ·rw [if_neg c] at h
  obtain ⟨k, hk, rfl⟩ := List.mem_iff_getElem.1 h
  have hk' := hk
  rw [List.length_set] at hk'
  rw [List.getElem_set]
  by_cases e : j = k
  ·rw [if_pos e]; exact .inr ⟨c, rfl⟩
  ·rw [if_neg e]; exact .inl ⟨k, fun h => e h.symm, hk', iR hk'⟩
theorem oL (hj : j < p.ls.length) (hk : k < p.ls.length) (hne : k ≠ j) : aO p.ls k ∈ bS p j t := by
 unfold bS
 split
 ·rw [iR hk]
  by_cases c : k < j
  ·refine List.mem_append.2 (.inl ?_)
   have h1 : k < (p.ls.take j).length := by rw [List.length_take]; omega
   have := List.getElem_mem h1
   rwa [List.getElem_take] at this
  ·refine List.mem_append.2 (.inr ?_)
   have h1 : k - (j + 1) < (p.ls.drop (j + 1)).length := by rw [List.length_drop]; omega
   have := List.getElem_mem h1
   rw [List.getElem_drop] at this
   rwa [show p.ls[j + 1 + (k - (j + 1))] = p.ls[k] from by congr 1; omega] at this
 ·rw [iR hk]
  have h1 : k < (p.ls.set j ⟨(aO p.ls j).a, (aO p.ls j).l, 3, 0, t + p.co⟩).length := by rw [List.length_set]; exact hk
  have := List.getElem_mem h1
  rwa [List.getElem_set, if_neg (fun e => hne e.symm)] at this
theorem FE : (bS p j t).length ≤ p.ls.length := by
 unfold bS
 split
 ·simp; omega
 ·simp
theorem BQ (hj : j < p.ls.length) (h : nK (lp p.ls) a l) : nK (lp (bS p j t)) a l := by
 unfold bS
 split
 ·have hs : (p.ls.take j ++ p.ls.drop (j + 1)).Sublist p.ls := by
   have h1 : (p.ls.take j ++ p.ls.drop (j + 1)).Sublist (p.ls.take j ++ p.ls.drop j) := List.Sublist.append_left (List.drop_sublist_drop_left _ (by omega)) _
   rwa [List.take_append_drop] at h1
  have hs2 : (lp (p.ls.take j ++ p.ls.drop (j + 1))).Sublist (lp p.ls) := hs.map _
  exact ⟨fun u hu => h.inn u (hs2.subset hu), h.rise.sublist hs2⟩
 ·have e : lp (p.ls.set j ⟨(aO p.ls j).a, (aO p.ls j).l, 3, 0, t + p.co⟩) = lp p.ls := by
   unfold lp
   rw [List.map_set]
   refine List.ext_getElem (by simp) fun k h1 h2 => ?_
   rw [List.getElem_set]
   split
   ·rename_i e
    subst e
    rw [List.getElem_map, iR hj]
   ·rfl
  rw [e]
  exact h
theorem OF (h : nK (lp ls) a l) {i k : Nat} (hi : i < ls.length) (hk : k < ls.length) (e : (aO ls i).a = (aO ls k).a) : i = k := by
 have hr := h.rise
 unfold lp at hr
 rw [List.pairwise_map, List.pairwise_iff_getElem] at hr
 rw [iR hi, iR hk] at e
 rcases Nat.lt_trichotomy i k with c | c | c
 ·have h1 := hr i k hi hk c
  have h2 := cO ls[i].l
  simp only at h1
  omega
 ·exact c
 ·have h1 := hr k i hk hi c
  have h2 := cO ls[k].l
  simp only at h1
  omega
theorem BR {id : Int} (hr : dF p.mn p.mx p.us p.co p.l = true) (hc : p.co ≠ 0) : MT t ps id (TZ p j t) := by
 obtain ⟨h0, h1⟩ := (C4 hr).2.2.2.2
 exact .inr (.inr ⟨rfl, rfl, by show t < t + p.co; omega, by show t + p.co ≤ t + 1024; omega⟩)
theorem mO {id t' : Int} (hF : bX ps) (hE : fB t ps id a l = 0) (hR : sM t ps id a l t' rs) : t' = t ∧ aV t rs = 0 ∧ bX rs := by
 obtain ⟨ht, qs, x', c', hs, hrs⟩ := hR
 refine ⟨ht, ?_⟩
 unfold fB at hE
 by_cases c0 : aV t ps = 0
 ·rw [if_neg (by simp [c0])] at hE
  by_cases c1 : aP ps id < 0
  ·rw [if_pos c1] at hE; omega
  rw [if_neg c1] at hE
  obtain ⟨i, hi, hat, -⟩ := aQ c1
  rw [hat, Int.toNat_natCast] at hE hrs
  by_cases c2 : bM (poAt ps i).n (qF (poAt ps i).ls a l) < 0
  ·rw [if_pos c2] at hE; omega
  obtain ⟨j, hj, hfa, hu⟩ := fC c2
  rw [hfa, Int.toNat_natCast] at hrs
  have hjl : j < (poAt ps i).ls.length := by rw [hF i hi]; exact hj
  obtain ⟨hH, hFr, hls⟩ := fE (x' := x') (c' := c') (ls' := bS (poAt ps i) j t) hs hF hi
  rw [← hrs] at hH hFr hls
  have hkd : (aO (poAt ps i).ls j).kd = 1 := by
   unfold qF at hu
   simp only [zH, beq_iff_eq] at hu
   exact hu.1
  have hB := gH hF c0
  refine ⟨pS c0 hB.t0 hB.t1 hH hF hFr (fun k hk => ?_) (fun k hk => ?_) (fun k hk e he h2 => ?_) (fun k hk e he => ?_), hFr⟩
  ·rw [← hFr k (by rw [← hH.1]; exact hk), hls k hk]
   have h32 := hB.n32 _ (poAt_mem hk)
   split
   ·rename_i e; subst e
    exact Nat.le_trans FE h32
   ·exact h32
  ·rw [hls k hk]
   split
   ·rename_i e; subst e
    exact BQ hjl (lU c0 i hi)
   ·exact lU c0 k hk
  ·rw [hls k hk]
   split
   ·rename_i e'; subst e'
    obtain ⟨m, hm, rfl⟩ := gG he
    exact oL hjl hm (fun e => by rw [e, hkd] at h2; omega)
   ·exact he
  ·rw [hls k hk] at he
   refine (DC hB.rise).2 ?_
   split at he
   ·rename_i e'; subst e'
    rcases cool_mem hjl he with ⟨m, -, hm, rfl⟩ | ⟨hc, rfl⟩
    ·exact hB.les _ (poAt_mem hi) _ (fD hm)
    ·exact BR (hB.rule _ (poAt_mem hi)) hc
   ·exact hB.les _ (poAt_mem hk) _ he
 ·rw [if_pos c0] at hE
  exact absurd hE c0
end Go.Proofs.YtndpilfpejfloaaGreat
