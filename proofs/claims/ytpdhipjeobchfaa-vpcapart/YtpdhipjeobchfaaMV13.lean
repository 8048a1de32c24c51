/- What a network, a range and a prefix that came in are. -/
import Derived.Test.YtpdhipjeobchfaaRows
import Derived.Test.YtpdhipjeobchfaaMV12
import Derived.ProofKit
import Derived.OpenShut
import Derived.Carry
import Derived.SizedLaws
import Derived.ChangeMaps5
import Derived.Deep.Slices
import Derived.Deep.DeepHandedRow
import Derived.Lib.SmallJoins
namespace Go.Proofs.Ytpdhipjeobchfaa
open Go.ChangeShapes Go.WideShapes Go.ChangeAt Go.RowKit Go.Joins

theorem own : ownKnob Try.prog.godebug = none := by kernel_rfl
theorem laidOut : laidOutB Try.prog = true := by kernel_rfl
theorem cells3 : Try.prog.cellsOf 3 = 1 := by kernel_rfl
theorem cellsP : Try.prog.cellsOf 39 = 2 := by kernel_rfl
theorem wf_range {n : Int} (h : (Lit.int .i64 n).wf = true) : -9223372036854775808 ≤ n ∧ n ≤ 9223372036854775807 := by
  have h1 : IntKind.i64.min = -9223372036854775808 := by rfl
  have h2 : IntKind.i64.max = 9223372036854775807 := by rfl
  simp [Lit.wf] at h
  omega

section
variable {H : Type} {enc : TypeId × Value → H} {w : World} {base : Nat} {spare : Nat → Bool} {held : Bool}
theorem int_of {n : Nat} {v : Value} {y : Option (DataW H × List MemPlace)} (hy : y.isSome = true) (h : DataW.trod enc Try.prog w base spare held n 3 [v] = y) : ∃ a : Int, v = .int .i64 a := by
  obtain ⟨y, rfl⟩ := Option.isSome_iff_exists.1 hy
  obtain ⟨a, e, -⟩ := DataW.trod_int Try.underlying3 h
  simp at e
  exact ⟨a, e⟩
theorem some_at {α : Type} {xs : List α} {m i : Nat} (h : xs.length = m) (hi : i < m) : (xs[i]?).isSome = true := by
  rw [List.getElem?_eq_getElem (by omega)]
  rfl
end
theorem cellsRg : Try.prog.cellsOf 60 = 3 := by kernel_rfl
theorem cellsFc : Try.prog.cellsOf 47 = 2 := by kernel_rfl
theorem cellsSb : Try.prog.cellsOf 42 = 4 := by kernel_rfl
theorem cellsVn : Try.prog.cellsOf 25 = 3 := by kernel_rfl
theorem cellsIs : Try.prog.cellsOf 45 = 1 := by kernel_rfl
theorem cellsRs : Try.prog.cellsOf 22 = 1 := by kernel_rfl
theorem cellsFs : Try.prog.cellsOf 40 = 1 := by kernel_rfl
theorem cellsSs : Try.prog.cellsOf 23 = 1 := by kernel_rfl
def cI (a : Int) : List Value := [.int .i64 a]
def cV (v : Vn) : List Value := [.int .i64 v.id, .slice v.rx v.rn v.rc, .slice v.sx v.sn v.sc]
section
variable {H : Type} {enc : TypeId × Value → H} {w : World}
theorem trod_in {n : Nat} {cs : List Value} {x : DataW H × List MemPlace} (hl : cs.length = 1) (h : DataW.trod enc Try.prog w 0 (fun _ => true) true n 3 cs = some x) : ∃ a : Int, cs = cI a := by
  match cs, hl with
  | [v0], _ =>
    obtain ⟨a, e, -⟩ := DataW.trod_int Try.underlying3 h
    simp at e
    exact ⟨a, by rw [e]; rfl⟩
set_option maxRecDepth 20000 in
theorem trod_ins {n : Nat} {v : Value} {y : DataW H × List MemPlace} (h : DataW.trod enc Try.prog w 0 (fun _ => true) true n 45 [v] = some y) :
    ∃ (x : Option Addr) (k c : Nat) (es : List Int), v = .slice x k c ∧ IS w x k es ∧ k ≤ c ∧ c ≤ 9223372036854775807 := by
  rcases Deep.open_slice Try.underlying45 h with ⟨h0, -⟩ | ⟨a, len, cap, m, k, D, Pl, h1, -, hl, hm, hmm, hx, hcell⟩
  · simp at h0
    exact ⟨none, 0, 0, [], h0, ⟨rfl, fun i hi => by omega⟩, by omega, by omega⟩
  · simp at h1
    subst h1
    simp at hmm
    have hmm' := hmm.symm
    subst hmm'
    clear hmm
    have each : ∀ i, i < cap → ∃ q : Int, (∀ j, j < 1 → w.cell? (a.add (i * 1 + j)) = (cI q)[j]?) := fun i hi => by
      obtain ⟨cs', e1, e2⟩ := hcell i hi
      rw [cells3] at e1
      obtain ⟨-, hlen, hc⟩ := World.cells?_some e1
      obtain ⟨q, rfl⟩ := trod_in hlen e2
      exact ⟨q, fun j hj => by
        have := hc j hj
        rw [Deep.add_add] at this
        exact this⟩
    have : Inhabited Int := ⟨0⟩
    obtain ⟨Q, hQ⟩ := Deep.choose_lt each
    have hmax : cap ≤ 9223372036854775807 := by unfold maxLen at hm; omega
    by_cases hn0 : len = 0
    · subst hn0
      exact ⟨some a, 0, cap, [], rfl, ⟨rfl, fun i hi => by omega⟩, by omega, hmax⟩
    · have hsp : a.spot = none := by
        have h0 := hQ 0 (by omega) 0 (by omega)
        have h1 : w.cell? (a.add (0 * 1 + 0)) = some (.int .i64 (Q 0)) := h0
        have := World.cell?_spot h1
        simpa [Addr.add] using this
      obtain ⟨b, o, sp⟩ := a
      simp only at hsp
      subst hsp
      have hat : ∀ i, i < len → inAt ((List.range len).map Q) i = Q i := fun i hi => by unfold inAt; rw [List.getD_eq_getElem?_getD, List.getElem?_map, List.getElem?_range hi]; rfl
      have e : ∀ i, i < len → ∀ j, j < 1 → ∀ u, (cI (Q i))[j]? = some u → w.cell? ⟨b, o + i * 1 + j, none⟩ = some u := fun i hi j hj u hu => by
        have := hQ i (by omega) j hj
        rw [addr_add, hu, ← Nat.add_assoc] at this
        exact this
      refine ⟨some ⟨b, o, none⟩, len, cap, (List.range len).map Q, rfl, ?_, hl, hmax⟩
      exact ⟨by simp, fun i hi => ⟨b, o, rfl, by rw [hat i hi]; have := e i hi 0 (by omega) _ rfl; simpa using this⟩⟩
set_option maxRecDepth 20000 in
theorem trod_fc {n : Nat} {cs : List Value} {x : DataW H × List MemPlace} (hl : cs.length = 2) (h : DataW.trod enc Try.prog w 0 (fun _ => true) true n 47 cs = some x) : ∃ f : Fc, cs = cF f ∧ f.n ≤ f.c ∧ f.n ≤ 9223372036854775807 ∧ IS w f.x f.n f.ns := by
  obtain ⟨xs, k, -, -, -, hxl, hf⟩ := DataW.trod_struct Try.underlying47 h
  match cs, hl with
  | [v0, v1], _ =>
    have g0 := hf 0 _ rfl
    have g1 := hf 1 _ rfl
    have y : ∀ i, i < 2 → (xs[i]?).isSome = true := fun i hi => some_at hxl hi
    simp [cells3, cellsIs] at g0 g1
    obtain ⟨a0, rfl⟩ := int_of (y 0 (by omega)) g0
    obtain ⟨z1, h1⟩ := Option.isSome_iff_exists.1 (y 1 (by omega))
    rw [h1] at g1
    obtain ⟨lx, ln, lc, ls, rfl, hLS, hlc, hlm⟩ := trod_ins g1
    exact ⟨⟨a0, lx, ln, lc, ls⟩, rfl, hlc, Nat.le_trans hlc hlm, hLS⟩
set_option maxRecDepth 20000 in
theorem trod_fcs {n : Nat} {v : Value} {y : DataW H × List MemPlace} (h : DataW.trod enc Try.prog w 0 (fun _ => true) true n 40 [v] = some y) :
    ∃ (x : Option Addr) (k c : Nat) (es : List Fc), v = .slice x k c ∧ FcS w x k es ∧ k ≤ c ∧ c ≤ 9223372036854775807 := by
  rcases Deep.open_slice Try.underlying40 h with ⟨h0, -⟩ | ⟨a, len, cap, m, k, D, Pl, h1, -, hl, hm, hmm, hx, hcell⟩
  · simp at h0
    exact ⟨none, 0, 0, [], h0, ⟨rfl, fun i hi => by omega, fun i hi => by omega⟩, by omega, by omega⟩
  · simp at h1
    subst h1
    simp at hmm
    have hmm' := hmm.symm
    subst hmm'
    clear hmm
    have each : ∀ i, i < cap → ∃ q : Fc, (∀ j, j < 2 → w.cell? (a.add (i * 2 + j)) = (cF q)[j]?) ∧ q.n ≤ q.c ∧ q.n ≤ 9223372036854775807 ∧ IS w q.x q.n q.ns := fun i hi => by
      obtain ⟨cs', e1, e2⟩ := hcell i hi
      rw [cellsFc] at e1
      obtain ⟨-, hlen, hc⟩ := World.cells?_some e1
      obtain ⟨q, rfl, hq⟩ := trod_fc hlen e2
      exact ⟨q, fun j hj => by
        have := hc j hj
        rw [Deep.add_add] at this
        exact this, hq⟩
    have : Inhabited Fc := ⟨fcZ⟩
    obtain ⟨Q, hQ⟩ := Deep.choose_lt each
    have hmax : cap ≤ 9223372036854775807 := by unfold maxLen at hm; omega
    by_cases hn0 : len = 0
    · subst hn0
      exact ⟨some a, 0, cap, [], rfl, ⟨rfl, fun i hi => by omega, fun i hi => by omega⟩, by omega, hmax⟩
    · have hsp : a.spot = none := by
        have h0 := (hQ 0 (by omega)).1 0 (by omega)
        have h1 : w.cell? (a.add (0 * 2 + 0)) = some (.int .i64 (Q 0).id) := h0
        have := World.cell?_spot h1
        simpa [Addr.add] using this
      obtain ⟨b, o, sp⟩ := a
      simp only at hsp
      subst hsp
      have hat : ∀ i, i < len → fcAt ((List.range len).map Q) i = Q i := fun i hi => by unfold fcAt; rw [List.getD_eq_getElem?_getD, List.getElem?_map, List.getElem?_range hi]; rfl
      have e : ∀ i, i < len → ∀ j, j < 2 → ∀ u, (cF (Q i))[j]? = some u → w.cell? ⟨b, o + i * 2 + j, none⟩ = some u := fun i hi j hj u hu => by
        have := (hQ i (by omega)).1 j hj
        rw [addr_add, hu, ← Nat.add_assoc] at this
        exact this
      refine ⟨some ⟨b, o, none⟩, len, cap, (List.range len).map Q, rfl, ?_, hl, hmax⟩
      exact ⟨by simp, fun i hi => ⟨b, o, rfl, by rw [hat i hi]; exact ⟨e i hi 0 (by omega) _ rfl, e i hi 1 (by omega) _ rfl⟩⟩, fun i hi => by rw [hat i hi]; exact (hQ i (by omega)).2⟩
set_option maxRecDepth 20000 in
theorem trod_sb {n : Nat} {cs : List Value} {x : DataW H × List MemPlace} (hl : cs.length = 4) (h : DataW.trod enc Try.prog w 0 (fun _ => true) true n 42 cs = some x) : ∃ f : Sb, cs = cS f ∧ f.n ≤ f.c ∧ f.n ≤ 9223372036854775807 ∧ FcS w f.x f.n f.fs := by
  obtain ⟨xs, k, -, -, -, hxl, hf⟩ := DataW.trod_struct Try.underlying42 h
  match cs, hl with
  | [v0, v1, v2, v3], _ =>
    have g0 := hf 0 _ rfl
    have g1 := hf 1 _ rfl
    have g2 := hf 2 _ rfl
    have y : ∀ i, i < 3 → (xs[i]?).isSome = true := fun i hi => some_at hxl hi
    simp [cells3, cellsP, cellsFs] at g0 g1 g2
    obtain ⟨a0, rfl⟩ := int_of (y 0 (by omega)) g0
    obtain ⟨z1, h1⟩ := Option.isSome_iff_exists.1 (y 1 (by omega))
    obtain ⟨z2, h2⟩ := Option.isSome_iff_exists.1 (y 2 (by omega))
    rw [h1] at g1
    rw [h2] at g2
    obtain ⟨us, k4, -, -, -, hul, hu⟩ := DataW.trod_struct Try.underlying39 g1
    have p0 := hu 0 _ rfl
    have p1 := hu 1 _ rfl
    simp [cells3] at p0 p1
    obtain ⟨a1, rfl⟩ := int_of (some_at hul (by decide)) p0
    obtain ⟨a2, rfl⟩ := int_of (some_at hul (by decide)) p1
    obtain ⟨lx, ln, lc, ls, rfl, hLS, hlc, hlm⟩ := trod_fcs g2
    exact ⟨⟨a0, a1, a2, lx, ln, lc, ls⟩, rfl, hlc, Nat.le_trans hlc hlm, hLS⟩
set_option maxRecDepth 20000 in
theorem trod_sbs {n : Nat} {v : Value} {y : DataW H × List MemPlace} (h : DataW.trod enc Try.prog w 0 (fun _ => true) true n 23 [v] = some y) :
    ∃ (x : Option Addr) (k c : Nat) (es : List Sb), v = .slice x k c ∧ SS w x k es ∧ k ≤ c ∧ c ≤ 9223372036854775807 := by
  rcases Deep.open_slice Try.underlying23 h with ⟨h0, -⟩ | ⟨a, len, cap, m, k, D, Pl, h1, -, hl, hm, hmm, hx, hcell⟩
  · simp at h0
    exact ⟨none, 0, 0, [], h0, ⟨rfl, fun i hi => by omega, fun i hi => by omega⟩, by omega, by omega⟩
  · simp at h1
    subst h1
    simp at hmm
    have hmm' := hmm.symm
    subst hmm'
    clear hmm
    have each : ∀ i, i < cap → ∃ q : Sb, (∀ j, j < 4 → w.cell? (a.add (i * 4 + j)) = (cS q)[j]?) ∧ q.n ≤ q.c ∧ q.n ≤ 9223372036854775807 ∧ FcS w q.x q.n q.fs := fun i hi => by
      obtain ⟨cs', e1, e2⟩ := hcell i hi
      rw [cellsSb] at e1
      obtain ⟨-, hlen, hc⟩ := World.cells?_some e1
      obtain ⟨q, rfl, hq⟩ := trod_sb hlen e2
      exact ⟨q, fun j hj => by
        have := hc j hj
        rw [Deep.add_add] at this
        exact this, hq⟩
    have : Inhabited Sb := ⟨sbZ⟩
    obtain ⟨Q, hQ⟩ := Deep.choose_lt each
    have hmax : cap ≤ 9223372036854775807 := by unfold maxLen at hm; omega
    by_cases hn0 : len = 0
    · subst hn0
      exact ⟨some a, 0, cap, [], rfl, ⟨rfl, fun i hi => by omega, fun i hi => by omega⟩, by omega, hmax⟩
    · have hsp : a.spot = none := by
        have h0 := (hQ 0 (by omega)).1 0 (by omega)
        have h1 : w.cell? (a.add (0 * 4 + 0)) = some (.int .i64 (Q 0).id) := h0
        have := World.cell?_spot h1
        simpa [Addr.add] using this
      obtain ⟨b, o, sp⟩ := a
      simp only at hsp
      subst hsp
      have hat : ∀ i, i < len → sbAt ((List.range len).map Q) i = Q i := fun i hi => by unfold sbAt; rw [List.getD_eq_getElem?_getD, List.getElem?_map, List.getElem?_range hi]; rfl
      have e : ∀ i, i < len → ∀ j, j < 4 → ∀ u, (cS (Q i))[j]? = some u → w.cell? ⟨b, o + i * 4 + j, none⟩ = some u := fun i hi j hj u hu => by
        have := (hQ i (by omega)).1 j hj
        rw [addr_add, hu, ← Nat.add_assoc] at this
        exact this
      refine ⟨some ⟨b, o, none⟩, len, cap, (List.range len).map Q, rfl, ?_, hl, hmax⟩
      exact ⟨by simp, fun i hi => ⟨b, o, rfl, by rw [hat i hi]; exact ⟨e i hi 0 (by omega) _ rfl, e i hi 1 (by omega) _ rfl, e i hi 2 (by omega) _ rfl, e i hi 3 (by omega) _ rfl⟩⟩, fun i hi => by rw [hat i hi]; exact (hQ i (by omega)).2⟩
set_option maxRecDepth 20000 in
theorem trod_rg {n : Nat} {cs : List Value} {x : DataW H × List MemPlace} (hl : cs.length = 3) (h : DataW.trod enc Try.prog w 0 (fun _ => true) true n 60 cs = some x) : ∃ c : Rg, cs = cR c := by
  obtain ⟨xs, k, -, -, -, hxl, hf⟩ := DataW.trod_struct Try.underlying60 h
  match cs, hl with
  | [v0, v1, v2], _ =>
    have g0 := hf 0 _ rfl
    have g1 := hf 1 _ rfl
    have y : ∀ i, i < 2 → (xs[i]?).isSome = true := fun i hi => some_at hxl hi
    simp [cells3, cellsP] at g0 g1
    obtain ⟨a2, rfl⟩ := int_of (y 1 (by omega)) g1
    obtain ⟨z4, h4⟩ := Option.isSome_iff_exists.1 (y 0 (by omega))
    rw [h4] at g0
    obtain ⟨us, k4, -, -, -, hul, hu⟩ := DataW.trod_struct Try.underlying39 g0
    have p0 := hu 0 _ rfl
    have p1 := hu 1 _ rfl
    simp [cells3] at p0 p1
    obtain ⟨a0, rfl⟩ := int_of (some_at hul (by decide)) p0
    obtain ⟨a1, rfl⟩ := int_of (some_at hul (by decide)) p1
    exact ⟨⟨a0, a1, a2⟩, rfl⟩
set_option maxRecDepth 20000 in
theorem trod_rgs {n : Nat} {v : Value} {y : DataW H × List MemPlace} (h : DataW.trod enc Try.prog w 0 (fun _ => true) true n 22 [v] = some y) :
    ∃ (x : Option Addr) (k c : Nat) (es : List Rg), v = .slice x k c ∧ RS w x k es ∧ k ≤ c ∧ c ≤ 9223372036854775807 := by
  rcases Deep.open_slice Try.underlying22 h with ⟨h0, -⟩ | ⟨a, len, cap, m, k, D, Pl, h1, -, hl, hm, hmm, hx, hcell⟩
  · simp at h0
    exact ⟨none, 0, 0, [], h0, ⟨rfl, fun i hi => by omega⟩, by omega, by omega⟩
  · simp at h1
    subst h1
    simp at hmm
    have hmm' := hmm.symm
    subst hmm'
    clear hmm
    have each : ∀ i, i < cap → ∃ q : Rg, (∀ j, j < 3 → w.cell? (a.add (i * 3 + j)) = (cR q)[j]?) := fun i hi => by
      obtain ⟨cs', e1, e2⟩ := hcell i hi
      rw [cellsRg] at e1
      obtain ⟨-, hlen, hc⟩ := World.cells?_some e1
      obtain ⟨q, rfl⟩ := trod_rg hlen e2
      exact ⟨q, fun j hj => by
        have := hc j hj
        rw [Deep.add_add] at this
        exact this⟩
    have : Inhabited Rg := ⟨rgZ⟩
    obtain ⟨Q, hQ⟩ := Deep.choose_lt each
    have hmax : cap ≤ 9223372036854775807 := by unfold maxLen at hm; omega
    by_cases hn0 : len = 0
    · subst hn0
      exact ⟨some a, 0, cap, [], rfl, ⟨rfl, fun i hi => by omega⟩, by omega, hmax⟩
    · have hsp : a.spot = none := by
        have h0 := hQ 0 (by omega) 0 (by omega)
        have h1 : w.cell? (a.add (0 * 3 + 0)) = some (.int .i64 (Q 0).a) := h0
        have := World.cell?_spot h1
        simpa [Addr.add] using this
      obtain ⟨b, o, sp⟩ := a
      simp only at hsp
      subst hsp
      have hat : ∀ i, i < len → rgAt ((List.range len).map Q) i = Q i := fun i hi => by unfold rgAt; rw [List.getD_eq_getElem?_getD, List.getElem?_map, List.getElem?_range hi]; rfl
      have e : ∀ i, i < len → ∀ j, j < 3 → ∀ u, (cR (Q i))[j]? = some u → w.cell? ⟨b, o + i * 3 + j, none⟩ = some u := fun i hi j hj u hu => by
        have := hQ i (by omega) j hj
        rw [addr_add, hu, ← Nat.add_assoc] at this
        exact this
      refine ⟨some ⟨b, o, none⟩, len, cap, (List.range len).map Q, rfl, ?_, hl, hmax⟩
      exact ⟨by simp, fun i hi => ⟨b, o, rfl, by rw [hat i hi]; exact ⟨e i hi 0 (by omega) _ rfl, e i hi 1 (by omega) _ rfl, e i hi 2 (by omega) _ rfl⟩⟩⟩
set_option maxRecDepth 20000 in
theorem trod_vn {n : Nat} {cs : List Value} {x : DataW H × List MemPlace} (hl : cs.length = 3) (h : DataW.trod enc Try.prog w 0 (fun _ => true) true n 25 cs = some x) : ∃ v : Vn, cs = cV v ∧ v.rn ≤ 9223372036854775807 ∧ v.sn ≤ 9223372036854775807 ∧ v.rc ≤ 9223372036854775807 ∧ Vp w v.rx v.rn v.rc v.rs v.sx v.sn v.sc v.ss := by
  obtain ⟨xs, k, -, -, -, hxl, hf⟩ := DataW.trod_struct Try.underlying25 h
  match cs, hl with
  | [v0, v1, v2], _ =>
    have g0 := hf 0 _ rfl
    have g1 := hf 1 _ rfl
    have g2 := hf 2 _ rfl
    have y : ∀ i, i < 3 → (xs[i]?).isSome = true := fun i hi => some_at hxl hi
    simp [cells3, cellsRs, cellsSs] at g0 g1 g2
    obtain ⟨a0, rfl⟩ := int_of (y 0 (by omega)) g0
    obtain ⟨z1, h1⟩ := Option.isSome_iff_exists.1 (y 1 (by omega))
    obtain ⟨z2, h2⟩ := Option.isSome_iff_exists.1 (y 2 (by omega))
    rw [h1] at g1
    rw [h2] at g2
    obtain ⟨rx, rn, rc, rs, rfl, hRS, hrc, hrm⟩ := trod_rgs g1
    obtain ⟨sx, sn, sc, ss, rfl, hSS, hsc, hsm⟩ := trod_sbs g2
    exact ⟨⟨a0, rx, rn, rc, rs, sx, sn, sc, ss⟩, rfl, Nat.le_trans hrc hrm, Nat.le_trans hsc hsm, hrm, ⟨hrc, hsc, hRS, hSS⟩⟩
end
set_option maxRecDepth 100000 in
theorem open_vpc {H : Type} {enc : TypeId × Value → H} {w : World} {r : Reach} {b0 : Nat} {v : Value} {d : DataW H} {p : List MemPlace}
    (hv : Value.okWide Try.prog w r b0 25 v) (h : DataW.Trod enc Try.prog w 0 (fun _ => true) true 25 v d p) :
    ∃ (vid : Int) (rx : Option Addr) (rn rc : Nat) (rs : List Rg) (sx : Option Addr) (sn sc : Nat) (ss : List Sb), v = .agg #[.int .i64 vid, .slice rx rn rc, .slice sx sn sc] ∧ Vp w rx rn rc rs sx sn sc ss ∧ rn ≤ 9223372036854775807 ∧ sn ≤ 9223372036854775807 ∧ rc ≤ 9223372036854775807 := by
  obtain ⟨cs, rfl, hsz⟩ := okWide_struct Try.underlying25 hv
  obtain ⟨fuel, hf⟩ := h
  rw [cellsVn] at hsz
  obtain ⟨q, hc, h1, h2, h3, h4⟩ := trod_vn (cs := cs.toList) (by simpa using hsz) hf
  exact ⟨q.id, q.rx, q.rn, q.rc, q.rs, q.sx, q.sn, q.sc, q.ss, by rw [← Array.toArray_toList (xs := cs), hc]; rfl, h4, h1, h2, h3⟩
set_option maxRecDepth 100000 in
theorem open_rg {H : Type} {enc : TypeId × Value → H} {w : World} {r : Reach} {b0 : Nat} {v : Value} {d : DataW H} {p : List MemPlace}
    (hv : Value.okWide Try.prog w r b0 60 v) (h : DataW.Trod enc Try.prog w 0 (fun _ => true) true 60 v d p) :
    ∃ (g : Rg), v = .agg #[.int .i64 g.a, .int .i64 g.l, .int .i64 g.p] := by
  obtain ⟨cs, rfl, hsz⟩ := okWide_struct Try.underlying60 hv
  obtain ⟨fuel, hf⟩ := h
  rw [cellsRg] at hsz
  obtain ⟨q, hc⟩ := trod_rg (cs := cs.toList) (by simpa using hsz) hf
  exact ⟨q, by rw [← Array.toArray_toList (xs := cs), hc]; rfl⟩
set_option maxRecDepth 100000 in
theorem open_pfx {H : Type} {enc : TypeId × Value → H} {w : World} {r : Reach} {b0 : Nat} {v : Value} {d : DataW H} {p : List MemPlace}
    (hv : Value.okWide Try.prog w r b0 39 v) (h : DataW.Trod enc Try.prog w 0 (fun _ => true) true 39 v d p) :
    ∃ (a l : Int), v = .agg #[.int .i64 a, .int .i64 l] := by
  obtain ⟨c0, c1, y0, y1, m0, rfl, -, -, hy0, hy1⟩ := open_agg2 Try.underlying39 (by kernel_rfl) cellsP hv h
  obtain ⟨a, ea, -, -⟩ := DataW.trod_int Try.underlying3 hy0
  obtain ⟨l, el, -, -⟩ := DataW.trod_int Try.underlying3 hy1
  simp at ea el
  subst ea el
  exact ⟨a, l, rfl⟩
end Go.Proofs.Ytpdhipjeobchfaa
/- Unsub of package vpc. -/
namespace Go.Proofs.Ytpdhipjeobchfaa
open Go.RowKit Go.Shelf

/-- All these subnets' faces stand in memory of the call's own. -/
def OFa (w : World) (base : Nat) (ss : List Sb) : Prop := ∀ s ∈ ss, OFs w base (.slice s.x s.n s.c) s.fs s.fs.length
theorem OSs.ofa {w : World} {base : Nat} {v : Value} {ss : List Sb} (h : OSs w base v ss ss.length) : OFa w base ss := fun s hs => by
  obtain ⟨i, hi, rfl⟩ := List.getElem_of_mem hs
  have e : sbAt ss i = ss[i] := by unfold sbAt; rw [List.getD_eq_getElem?_getD, List.getElem?_eq_getElem hi]; rfl
  have := h.own i hi
  rw [e] at this
  exact this
theorem OFa.keptOf {w w' : World} {base g : Nat} {ss : List Sb} {cur : Array Value} {t : TypeId} (h : OFa w base ss) (hg : w.grownBy w' (some g)) (hb : w.heap[g]? = some (.cells cur t)) (h1 : t ≠ 47) (h2 : t ≠ 3) : OFa w' base ss := fun s hs => (h s hs).kept_of hg hb h1 h2
theorem OFa.put {w : World} {base b o : Nat} {u : Value} {ss : List Sb} (h : OFa w base ss) (hb : b < base) : OFa (w.setCell ⟨b, o, none⟩ u) base ss := fun s hs =>
  (h s hs).kept (set_grown _ _ _ _) (fun k hk => by have := (h s hs).row.lt k hk; omega) (fun j hj k hk => by have := ((h s hs).own j hj).lt k hk; omega)
theorem OFa.fcb {w : World} {base : Nat} {ss : List Sb} (h : OFa w base ss) : ∀ s ∈ ss, FcB w s := fun s hs => by
  obtain ⟨g1, g2, g3, g4⟩ := (h s hs).fcs
  exact ⟨g3, Nat.le_trans g3 g4, g1⟩
theorem OFa.part {w : World} {base : Nat} {ss ts : List Sb} (h : OFa w base ss) (hs : ∀ s ∈ ts, s ∈ ss) : OFa w base ts := fun s hm => h s (hs s hm)
theorem grown_box {w w' : World} {g b : Nat} {x : Obj} (hg : w.grownBy w' (some g)) (hne : b ≠ g) (hx : w.heap[b]? = some x) : w'.heap[b]? = some x := by
  obtain ⟨-, -, -, -, h⟩ := hg
  exact (h b (Array.getElem?_eq_some_iff.1 hx).1 (fun e => hne (by simpa using e))).trans hx
def unsubE (vid : Int) (rn : Nat) (rs : List Rg) (sn : Nat) (ss : List Sb) (id : Int) : Int :=
  if chkV vid rn rs sn ss ≠ 0 then chkV vid rn rs sn ss else if fstAt sn (fun i => (sbAt ss i).id == id) < 0 then 5 else if 0 < (sbAt ss (fstAt sn (fun i => (sbAt ss i).id == id)).toNat).n then 9 else 0
def UnsubR (vid : Int) (rs : List Rg) (ss : List Sb) (id : Int) (w : World) (V : Value) : Prop := ∃ ts i, sameSs ss ts ∧ i < ts.length ∧ (sbAt ss i).id = id ∧ (∀ j, j < i → (sbAt ss j).id ≠ id) ∧ NV w vid V rs (ts.take i ++ ts.drop (i + 1))
structure TN (w W : World) (vid : Int) (rx : Option Addr) (rn rc : Nat) (sx : Option Addr) (sn sc : Nat) : Prop where
  hb : W.heap[w.heap.size]? = some (.cells #[.int .i64 vid, .slice rx rn rc, .slice sx sn sc] 25)
  hs : W.heap[w.heap.size + 1]? = some (.cells #[.int .i64 0, .slice none 0 0, .slice none 0 0] 25)
  below : Below w.heap.size w W
theorem TN.later {w W W' : World} {vid : Int} {rx : Option Addr} {rn rc : Nat} {sx : Option Addr} {sn sc : Nat} (h : TN w W vid rx rn rc sx sn sc) (hb : Below W.heap.size W W') : TN w W' vid rx rn rc sx sn sc :=
  ⟨heap_later hb h.hb, heap_later hb h.hs, h.below.trans (hb.mono h.below.size)⟩

set_option maxRecDepth 100000 in
set_option maxHeartbeats 3200000 in
theorem vunsub_any (vid : Int) (rx : Option Addr) (rn rc : Nat) (rs : List Rg) (sx : Option Addr) (sn sc : Nat) (ss : List Sb) (id : Int) (w : World) (hv : Vp w rx rn rc rs sx sn sc ss) (hrn : rn ≤ 9223372036854775807) (hsn : sn ≤ 9223372036854775807) (hrc : rc ≤ 9223372036854775807) :
    Calls Try.prog 27 #[.agg #[.int .i64 vid, .slice rx rn rc, .slice sx sn sc], .int .i64 id] w (VPost (unsubE vid rn rs sn ss id) (UnsubR vid rs ss id) w) := by
  have hrl : Hid (rs.length = rn) := hv.ranges.len
  have hsl : Hid (ss.length = sn) := hv.subs.len
  go_enter Try.func27, Try.ntmps27
  go_upto_region 1 with fail
  obtain ⟨w0, hw0⟩ : ∃ w0, w0 = (w.alloc (vpB vid (.slice rx rn rc) (.slice sx sn sc))).alloc (vpB 0 (.slice none 0 0) (.slice none 0 0)) := ⟨_, rfl⟩
  rw [← hw0]
  have hT0 : TN w w0 vid rx rn rc sx sn sc := by
    rw [hw0]
    exact ⟨heap_old _ (heap_new _ rfl), heap_new _ (by simp), bl2 w _ _⟩
  clear hw0
  have b0 : w0.cell? ⟨w.heap.size, 0, none⟩ = some (.int .i64 vid) := (box_cells hT0.hb).1 0
  have b1 : w0.cell? ⟨w.heap.size, 1, none⟩ = some (.slice rx rn rc) := (box_cells hT0.hb).1 1
  have b2 : w0.cell? ⟨w.heap.size, 2, none⟩ = some (.slice sx sn sc) := (box_cells hT0.hb).1 2
  have s0 : w0.cell? ⟨w.heap.size + 1, 0, none⟩ = some (.int .i64 0) := (box_cells hT0.hs).1 0
  have zs0 : w0.frozen? ⟨w.heap.size + 1, 0, none⟩ = false := (box_cells hT0.hs).2 0
  have s1 : w0.cell? ⟨w.heap.size + 1, 1, none⟩ = some (.slice none 0 0) := (box_cells hT0.hs).1 1
  have zs1 : w0.frozen? ⟨w.heap.size + 1, 1, none⟩ = false := (box_cells hT0.hs).2 1
  have s2 : w0.cell? ⟨w.heap.size + 1, 2, none⟩ = some (.slice none 0 0) := (box_cells hT0.hs).1 2
  have zs2 : w0.frozen? ⟨w.heap.size + 1, 2, none⟩ = false := (box_cells hT0.hs).2 2
  have hck := checkV_any vid rx rn rc rs sx sn sc ss w0 (hv.later hT0.below) hrn hsn hrc
  by_cases hc0 : chkV vid rn rs sn ss = 0
  · rw [hc0] at hck
    obtain ⟨f1, f2, f3, f4⟩ := chkV_few hc0
    have hE1 : Hid (unsubE vid rn rs sn ss id = if fstAt sn (fun i => (sbAt ss i).id == id) < 0 then 5 else if 0 < (sbAt ss (fstAt sn (fun i => (sbAt ss i).id == id)).toNat).n then 9 else 0) := if_neg (c := chkV vid rn rs sn ss ≠ 0) (by simp [hc0])
    clear hc0
    go_wp2_with fail
    refine (hck).mono ?_
    rintro e w1 ⟨rfl, hbw1⟩
    have hT1 := hT0.later hbw1
    clear b0 b1 b2 s0 zs0 s1 zs1 s2 zs2
    have b0 : w1.cell? ⟨w.heap.size, 0, none⟩ = some (.int .i64 vid) := (box_cells hT1.hb).1 0
    have b1 : w1.cell? ⟨w.heap.size, 1, none⟩ = some (.slice rx rn rc) := (box_cells hT1.hb).1 1
    have b2 : w1.cell? ⟨w.heap.size, 2, none⟩ = some (.slice sx sn sc) := (box_cells hT1.hb).1 2
    have s0 : w1.cell? ⟨w.heap.size + 1, 0, none⟩ = some (.int .i64 0) := (box_cells hT1.hs).1 0
    have zs0 : w1.frozen? ⟨w.heap.size + 1, 0, none⟩ = false := (box_cells hT1.hs).2 0
    have s1 : w1.cell? ⟨w.heap.size + 1, 1, none⟩ = some (.slice none 0 0) := (box_cells hT1.hs).1 1
    have zs1 : w1.frozen? ⟨w.heap.size + 1, 1, none⟩ = false := (box_cells hT1.hs).2 1
    have s2 : w1.cell? ⟨w.heap.size + 1, 2, none⟩ = some (.slice none 0 0) := (box_cells hT1.hs).1 2
    have zs2 : w1.frozen? ⟨w.heap.size + 1, 2, none⟩ = false := (box_cells hT1.hs).2 2
    have hsp := fun t h => subPlace_isbig vid id rx rn rc sx sn sc ss t h w1 (hv.later hT1.below).subs hsn
    rcases fstAt_cases sn (fun i => (sbAt ss i).id == id) with ⟨i, hi, hf, hno, hfp⟩ | ⟨-, hfp⟩
    · have hsp' := hsp _ hfp
      clear hsp
      have hE2 : Hid (unsubE vid rn rs sn ss id = if 0 < (sbAt ss i).n then 9 else 0) := by
        have := hE1.out
        rw [hfp] at this
        rw [if_neg (by omega)] at this
        unfold Hid
        simpa using this
      clear hfp hE1
      have hHf : Hid ((sbAt ss i).id = id ∧ ∀ j, j < i → (sbAt ss j).id ≠ id) := ⟨by simpa using hf, fun j hj => by simpa using hno j hj⟩
      clear hf hno
      have hi' : Hid (i < sn) := hi
      obtain ⟨b, o, rfl, -, -, -, c3⟩ := hv.subs.cells i hi
      go_wp2_with fail
      refine (hsp').mono ?_
      rintro e w2 ⟨rfl, hbw2⟩
      have hT2 := hT1.later hbw2
      clear b0 b1 b2 s0 zs0 s1 zs1 s2 zs2
      have b0 : w2.cell? ⟨w.heap.size, 0, none⟩ = some (.int .i64 vid) := (box_cells hT2.hb).1 0
      have b1 : w2.cell? ⟨w.heap.size, 1, none⟩ = some (.slice rx rn rc) := (box_cells hT2.hb).1 1
      have b2 : w2.cell? ⟨w.heap.size, 2, none⟩ = some (.slice (some ⟨b, o, none⟩) sn sc) := (box_cells hT2.hb).1 2
      have s0 : w2.cell? ⟨w.heap.size + 1, 0, none⟩ = some (.int .i64 0) := (box_cells hT2.hs).1 0
      have zs0 : w2.frozen? ⟨w.heap.size + 1, 0, none⟩ = false := (box_cells hT2.hs).2 0
      have s1 : w2.cell? ⟨w.heap.size + 1, 1, none⟩ = some (.slice none 0 0) := (box_cells hT2.hs).1 1
      have zs1 : w2.frozen? ⟨w.heap.size + 1, 1, none⟩ = false := (box_cells hT2.hs).2 1
      have s2 : w2.cell? ⟨w.heap.size + 1, 2, none⟩ = some (.slice none 0 0) := (box_cells hT2.hs).1 2
      have zs2 : w2.frozen? ⟨w.heap.size + 1, 2, none⟩ = false := (box_cells hT2.hs).2 2
      have d3 := cell_later hT2.below c3
      clear c3
      have i0 : (0 : Int) ≤ i := by omega
      have i1 : (i : Int) < sn := by omega
      by_cases hgt : 0 < (sbAt ss i).n
      · have hne : unsubE vid rn rs sn ss id = 9 ∧ (9 : Int) ≠ 0 := ⟨hE2.out.trans (if_pos hgt), by decide⟩
        go_wp2
        refine bodyPost_ret (v := .tuple #[.agg #[.int .i64 0, .slice none 0 0, .slice none 0 0], .int .i64 9]) (by simp [results, Try.results27, go_sem, s0, s1, s2]) rfl ?_
        exact VPost.err hne (((hT2.below.setCell (p := ⟨w.heap.size + 1, 0, none⟩) (Nat.le_add_right _ _) _).setCell (p := ⟨w.heap.size + 1, 1, none⟩) (Nat.le_add_right _ _) _).setCell (p := ⟨w.heap.size + 1, 2, none⟩) (Nat.le_add_right _ _) _)
      · have hE0 : Hid (unsubE vid rn rs sn ss id = 0) := hE2.out.trans (if_neg hgt)
        have hv3 := fun W (hW : Below w.heap.size w W) => freshVpc_any vid rx rn rc rs (some ⟨b, o, none⟩) sn sc ss W (hv.later hW) (by omega) (by omega) (fun i hi => by have := f3 i hi; omega) (fun i hi j hj => by have := f4 i hi j hj; omega)
        go_wp2_with fail
        refine (hv3 _ hT2.below).mono ?_
        rintro e w5 ⟨vR, vS, ts, rfl, hOR, hss, hOS, hb5⟩
        have hT5 := hT2.later hb5
        have htl : ts.length = sn := by rw [← hss.1]; exact hsl.out
        obtain ⟨xr, cr, rfl, -⟩ := hOR.rs
        obtain ⟨k, hk⟩ : ∃ k, ts.length = k + 1 := ⟨ts.length - 1, by have := hi'.out; omega⟩
        have hik : i ≤ k := by have := hi'.out; omega
        obtain ⟨g, cap, hg5, cur, hgh, hcap1, hcap2, hvS⟩ : ∃ g cap, w2.heap.size ≤ g ∧ ∃ cur, w5.heap[g]? = some (.cells cur 42) ∧ k + 1 ≤ cap ∧ cap ≤ 9223372036854775807 ∧ vS = .slice (some ⟨g, 0, none⟩) (k + 1) cap := by
          obtain ⟨x2, c2, hv2, h1, h2, -, -⟩ := hOS.row.mem
          rcases hOS.row.2 with ⟨hv', -⟩ | ⟨g, cap, cur, hv', hg1, hg2, -⟩
          · rw [hv'] at hv2; simp only [Value.slice.injEq] at hv2; omega
          · rw [hv'] at hv2
            simp only [Value.slice.injEq] at hv2
            obtain ⟨-, -, rfl⟩ := hv2
            exact ⟨g, cap, hg1, cur, hg2, by omega, h2, by rw [hv', hk]⟩
        subst hvS
        clear b0 b1 b2 s0 zs0 s1 zs1 s2 zs2
        clear d3
        have hgl : g < w5.heap.size := (Array.getElem?_eq_some_iff.1 hgh).1
        go_upto_region 11 with fail
        obtain ⟨w6, hw6⟩ : ∃ w6, w6 = w5.alloc (vpB vid (.slice xr rs.length cr) (.slice (some ⟨g, 0, none⟩) (k + 1) cap)) := ⟨_, rfl⟩
        rw [← hw6]
        have hb56 : Below w5.heap.size w5 w6 := by rw [hw6]; exact bl1 _ _
        have hn6 : w6.heap[w5.heap.size]? = some (vpB vid (.slice xr rs.length cr) (.slice (some ⟨g, 0, none⟩) (k + 1) cap)) := by rw [hw6]; exact heap_new _ rfl
        clear hw6
        have hT6 := hT5.later hb56
        have hg6 := heap_later hb56 hgh
        have hOR6 := OwnR.later hOR hb56
        have hOS6 := OSs.later hOS hb56
        have n2 : w6.cell? ⟨w5.heap.size, 2, none⟩ = some (.slice (some ⟨g, 0, none⟩) (k + 1) cap) := (box_cells hn6).1 2
        have hdel := deleteS_any w2.heap.size g k cap i (i + 1) ts w6 hOS6.row hk hik rfl (by omega) hcap1 hcap2
        rw [show ((i + 1 : Nat) : Int) = (i : Int) + 1 by omega] at hdel
        go_wp2_with fail
        refine hdel.mono ?_
        rintro e w7 ⟨rfl, hO7, hg7⟩
        clear n2 hdel
        have hsz2 : w.heap.size + 1 < w2.heap.size := (Array.getElem?_eq_some_iff.1 hT2.hs).1
        have hn7 := grown_box hg7 (by omega) hn6
        have hs7 := grown_box hg7 (by omega) hT6.hs
        have hB7 := below_grownr hT6.below hg7 (fun q e => by cases e; omega)
        have hOR7 := hOR6.kept hg7 (fun q hq e => by subst e; exact hOR6.ne hg6 (by decide) hq)
        have hF7 := hOS6.ofa.keptOf hg7 hg6 (by decide) (by decide)
        have m0 : w7.cell? ⟨w5.heap.size, 0, none⟩ = some (.int .i64 vid) := (box_cells hn7).1 0
        have m1 : w7.cell? ⟨w5.heap.size, 1, none⟩ = some (.slice xr rs.length cr) := (box_cells hn7).1 1
        have m2 : w7.cell? ⟨w5.heap.size, 2, none⟩ = some (.slice (some ⟨g, 0, none⟩) (k + 1) cap) := (box_cells hn7).1 2
        have zm : w7.frozen? ⟨w5.heap.size, 2, none⟩ = false := (box_cells hn7).2 2
        have s0 : w7.cell? ⟨w.heap.size + 1, 0, none⟩ = some (.int .i64 0) := (box_cells hs7).1 0
        have s1 : w7.cell? ⟨w.heap.size + 1, 1, none⟩ = some (.slice none 0 0) := (box_cells hs7).1 1
        have s2 : w7.cell? ⟨w.heap.size + 1, 2, none⟩ = some (.slice none 0 0) := (box_cells hs7).1 2
        have zs0 : w7.frozen? ⟨w.heap.size + 1, 0, none⟩ = false := (box_cells hs7).2 0
        have zs1 : w7.frozen? ⟨w.heap.size + 1, 1, none⟩ = false := (box_cells hs7).2 1
        have zs2 : w7.frozen? ⟨w.heap.size + 1, 2, none⟩ = false := (box_cells hs7).2 2
        have ne1 : ¬ w5.heap.size = w.heap.size + 1 := by omega
        have ne2 : ¬ w.heap.size + 1 = w5.heap.size := by omega
        have hw5 : w.heap.size ≤ w5.heap.size := by omega
        go_wp2
        refine bodyPost_ret (v := .tuple #[.agg #[.int .i64 vid, .slice xr rs.length cr, .slice (some ⟨g, 0, none⟩) k cap], .int .i64 0]) (by simp [results, Try.results27, go_sem, s0, s1, s2]) rfl ?_
        have hfin := (((hB7.setCell (p := ⟨w5.heap.size, 2, none⟩) hw5 (.slice (some ⟨g, 0, none⟩) k cap)).setCell (p := ⟨w.heap.size + 1, 0, none⟩) (Nat.le_add_right _ _) (.int .i64 vid)).setCell (p := ⟨w.heap.size + 1, 1, none⟩) (Nat.le_add_right _ _) (.slice xr rs.length cr)).setCell (p := ⟨w.heap.size + 1, 2, none⟩) (Nat.le_add_right _ _) (.slice (some ⟨g, 0, none⟩) k cap)
        have hor := (((hOR7.putBox (o := 2) (u := .slice (some ⟨g, 0, none⟩) k cap) hn7 (by decide)).put (o := 0) (u := .int .i64 vid) hsz2).put (o := 1) (u := .slice xr rs.length cr) hsz2).put (o := 2) (u := .slice (some ⟨g, 0, none⟩) k cap) hsz2
        have hoq := (((hO7.putBox (o := 2) (u := .slice (some ⟨g, 0, none⟩) k cap) hn7 (by decide)).put (o := 0) (u := .int .i64 vid) hsz2).put (o := 1) (u := .slice xr rs.length cr) hsz2).put (o := 2) (u := .slice (some ⟨g, 0, none⟩) k cap) hsz2
        have hfa := (((hF7.keptOf (set_grown _ _ 2 (.slice (some ⟨g, 0, none⟩) k cap)) hn7 (by decide) (by decide)).put (o := 0) (u := .int .i64 vid) hsz2).put (o := 1) (u := .slice xr rs.length cr) hsz2).put (o := 2) (u := .slice (some ⟨g, 0, none⟩) k cap) hsz2
        refine VPost.ok hE0.out hfin ⟨ts, i, hss, by omega, hHf.out.1, hHf.out.2, NV.mk hor hoq (hfa.part (fun s hs => ?_)).fcb⟩
        rcases List.mem_append.1 hs with hs | hs
        · exact List.mem_of_mem_take hs
        · exact List.mem_of_mem_drop hs
    · have hsp' := hsp _ hfp
      have hne : unsubE vid rn rs sn ss id = 5 ∧ (5 : Int) ≠ 0 := ⟨hE1.out.trans (if_pos (by rw [hfp]; decide)), by decide⟩
      clear hfp hE1 hsp
      go_wp2_with fail
      refine (hsp').mono ?_
      rintro e w2 ⟨rfl, hbw2⟩
      have hT2 := hT1.later hbw2
      clear b0 b1 b2 s0 zs0 s1 zs1 s2 zs2
      have b0 : w2.cell? ⟨w.heap.size, 0, none⟩ = some (.int .i64 vid) := (box_cells hT2.hb).1 0
      have b1 : w2.cell? ⟨w.heap.size, 1, none⟩ = some (.slice rx rn rc) := (box_cells hT2.hb).1 1
      have b2 : w2.cell? ⟨w.heap.size, 2, none⟩ = some (.slice sx sn sc) := (box_cells hT2.hb).1 2
      have s0 : w2.cell? ⟨w.heap.size + 1, 0, none⟩ = some (.int .i64 0) := (box_cells hT2.hs).1 0
      have zs0 : w2.frozen? ⟨w.heap.size + 1, 0, none⟩ = false := (box_cells hT2.hs).2 0
      have s1 : w2.cell? ⟨w.heap.size + 1, 1, none⟩ = some (.slice none 0 0) := (box_cells hT2.hs).1 1
      have zs1 : w2.frozen? ⟨w.heap.size + 1, 1, none⟩ = false := (box_cells hT2.hs).2 1
      have s2 : w2.cell? ⟨w.heap.size + 1, 2, none⟩ = some (.slice none 0 0) := (box_cells hT2.hs).1 2
      have zs2 : w2.frozen? ⟨w.heap.size + 1, 2, none⟩ = false := (box_cells hT2.hs).2 2
      go_wp2
      refine bodyPost_ret (v := .tuple #[.agg #[.int .i64 0, .slice none 0 0, .slice none 0 0], .int .i64 5]) (by simp [results, Try.results27, go_sem, s0, s1, s2]) rfl ?_
      exact VPost.err hne (((hT2.below.setCell (p := ⟨w.heap.size + 1, 0, none⟩) (Nat.le_add_right _ _) _).setCell (p := ⟨w.heap.size + 1, 1, none⟩) (Nat.le_add_right _ _) _).setCell (p := ⟨w.heap.size + 1, 2, none⟩) (Nat.le_add_right _ _) _)
  · have hne : unsubE vid rn rs sn ss id = chkV vid rn rs sn ss ∧ chkV vid rn rs sn ss ≠ 0 := ⟨if_pos hc0, hc0⟩
    go_wp2_with fail
    refine (hck).mono ?_
    rintro e w1 ⟨rfl, hbw1⟩
    have hT1 := hT0.later hbw1
    clear b0 b1 b2 s0 zs0 s1 zs1 s2 zs2
    have b0 : w1.cell? ⟨w.heap.size, 0, none⟩ = some (.int .i64 vid) := (box_cells hT1.hb).1 0
    have b1 : w1.cell? ⟨w.heap.size, 1, none⟩ = some (.slice rx rn rc) := (box_cells hT1.hb).1 1
    have b2 : w1.cell? ⟨w.heap.size, 2, none⟩ = some (.slice sx sn sc) := (box_cells hT1.hb).1 2
    have s0 : w1.cell? ⟨w.heap.size + 1, 0, none⟩ = some (.int .i64 0) := (box_cells hT1.hs).1 0
    have zs0 : w1.frozen? ⟨w.heap.size + 1, 0, none⟩ = false := (box_cells hT1.hs).2 0
    have s1 : w1.cell? ⟨w.heap.size + 1, 1, none⟩ = some (.slice none 0 0) := (box_cells hT1.hs).1 1
    have zs1 : w1.frozen? ⟨w.heap.size + 1, 1, none⟩ = false := (box_cells hT1.hs).2 1
    have s2 : w1.cell? ⟨w.heap.size + 1, 2, none⟩ = some (.slice none 0 0) := (box_cells hT1.hs).1 2
    have zs2 : w1.frozen? ⟨w.heap.size + 1, 2, none⟩ = false := (box_cells hT1.hs).2 2
    have hsp := subPlace_big vid id rx rn rc sx sn sc ss w1 (hv.later hT1.below).subs hsn
    generalize fstAt sn (fun i => (sbAt ss i).id == id) = fp at hsp
    go_wp2_with fail
    refine (hsp).mono ?_
    rintro e w2 ⟨rfl, hbw2⟩
    have hT2 := hT1.later hbw2
    clear b0 b1 b2 s0 zs0 s1 zs1 s2 zs2
    have b0 : w2.cell? ⟨w.heap.size, 0, none⟩ = some (.int .i64 vid) := (box_cells hT2.hb).1 0
    have b1 : w2.cell? ⟨w.heap.size, 1, none⟩ = some (.slice rx rn rc) := (box_cells hT2.hb).1 1
    have b2 : w2.cell? ⟨w.heap.size, 2, none⟩ = some (.slice sx sn sc) := (box_cells hT2.hb).1 2
    have s0 : w2.cell? ⟨w.heap.size + 1, 0, none⟩ = some (.int .i64 0) := (box_cells hT2.hs).1 0
    have zs0 : w2.frozen? ⟨w.heap.size + 1, 0, none⟩ = false := (box_cells hT2.hs).2 0
    have s1 : w2.cell? ⟨w.heap.size + 1, 1, none⟩ = some (.slice none 0 0) := (box_cells hT2.hs).1 1
    have zs1 : w2.frozen? ⟨w.heap.size + 1, 1, none⟩ = false := (box_cells hT2.hs).2 1
    have s2 : w2.cell? ⟨w.heap.size + 1, 2, none⟩ = some (.slice none 0 0) := (box_cells hT2.hs).1 2
    have zs2 : w2.frozen? ⟨w.heap.size + 1, 2, none⟩ = false := (box_cells hT2.hs).2 2
    go_wp2
    refine bodyPost_ret (v := .tuple #[.agg #[.int .i64 0, .slice none 0 0, .slice none 0 0], .int .i64 (chkV vid rn rs sn ss)]) (by simp [results, Try.results27, go_sem, s0, s1, s2]) rfl ?_
    exact VPost.err hne (((hT2.below.setCell (p := ⟨w.heap.size + 1, 0, none⟩) (Nat.le_add_right _ _) _).setCell (p := ⟨w.heap.size + 1, 1, none⟩) (Nat.le_add_right _ _) _).setCell (p := ⟨w.heap.size + 1, 2, none⟩) (Nat.le_add_right _ _) _)
end Go.Proofs.Ytpdhipjeobchfaa
