/- What a slice of routes that came in is. -/
import Derived.Test.YtgealgjeboainaaGreatRows
import Derived.Test.YtgealgjeboainaaGreatMR13
import Derived.ProofKit
import Derived.OpenShut
import Derived.Carry
import Derived.SizedLaws
import Derived.ChangeMaps5
import Derived.Deep.Slices
import Derived.Deep.DeepHandedRow
import Derived.Lib.SmallJoins
namespace Go.Proofs.YtgealgjeboainaaGreat
open Go.ChangeShapes Go.WideShapes Go.ChangeAt Go.RowKit Go.Joins

theorem own : ownKnob Tryz.prog.godebug = none := by kernel_rfl
theorem laidOut : laidOutB Tryz.prog = true := by kernel_rfl
theorem cells3 : Tryz.prog.cellsOf 3 = 1 := by kernel_rfl
theorem cellsP : Tryz.prog.cellsOf 34 = 2 := by kernel_rfl
theorem cellsRt : Tryz.prog.cellsOf 36 = 3 := by kernel_rfl
theorem wf_range {n : Int} (h : (Lit.int .i64 n).wf = true) : -9223372036854775808 ≤ n ∧ n ≤ 9223372036854775807 := by
  have h1 : IntKind.i64.min = -9223372036854775808 := by rfl
  have h2 : IntKind.i64.max = 9223372036854775807 := by rfl
  simp [Lit.wf] at h
  omega

section
variable {H : Type} {enc : TypeId × Value → H} {w : World} {base : Nat} {spare : Nat → Bool} {held : Bool}
theorem int_of {n : Nat} {v : Value} {y : Option (DataW H × List MemPlace)} (hy : y.isSome = true) (h : DataW.trod enc Tryz.prog w base spare held n 3 [v] = y) : ∃ a : Int, v = .int .i64 a := by
  obtain ⟨y, rfl⟩ := Option.isSome_iff_exists.1 hy
  obtain ⟨a, e, -⟩ := DataW.trod_int Tryz.underlying3 h
  simp at e
  exact ⟨a, e⟩
theorem some_at {α : Type} {xs : List α} {m i : Nat} (h : xs.length = m) (hi : i < m) : (xs[i]?).isSome = true := by
  rw [List.getElem?_eq_getElem (by omega)]
  rfl
set_option maxRecDepth 20000 in
theorem trod_route {n : Nat} {cs : List Value} {x : DataW H × List MemPlace} (hl : cs.length = 3) (h : DataW.trod enc Tryz.prog w base spare held n 36 cs = some x) : ∃ c : Rg, cs = cR c := by
  obtain ⟨xs, k, -, -, -, hxl, hf⟩ := DataW.trod_struct Tryz.underlying36 h
  match cs, hl with
  | [v0, v1, v2], _ =>
    have g0 := hf 0 _ rfl
    have g1 := hf 1 _ rfl
    have y : ∀ i, i < 2 → (xs[i]?).isSome = true := fun i hi => some_at hxl hi
    simp [cells3, cellsP] at g0 g1
    obtain ⟨a2, rfl⟩ := int_of (y 1 (by omega)) g1
    obtain ⟨z4, h4⟩ := Option.isSome_iff_exists.1 (y 0 (by omega))
    rw [h4] at g0
    obtain ⟨us, k4, -, -, -, hul, hu⟩ := DataW.trod_struct Tryz.underlying34 g0
    have p0 := hu 0 _ rfl
    have p1 := hu 1 _ rfl
    simp [cells3] at p0 p1
    obtain ⟨a0, rfl⟩ := int_of (some_at hul (by decide)) p0
    obtain ⟨a1, rfl⟩ := int_of (some_at hul (by decide)) p1
    exact ⟨⟨a0, a1, a2⟩, rfl⟩
end
theorem rgAt_get {rs : List Rg} {i : Nat} (h : i < rs.length) : rgAt rs i = rs[i] := by simp [rgAt, List.getD_eq_getElem?_getD, h]
set_option maxRecDepth 100000 in
theorem open_routes {H : Type} {enc : TypeId × Value → H} {w : World} {r : Reach} {b0 : Nat} {v : Value} {d : DataW H} {p : List MemPlace}
    (hv : Value.okWide Tryz.prog w r b0 26 v) (h : DataW.Trod enc Tryz.prog w 0 (fun _ => true) true 26 v d p) :
    ∃ (x : Option Addr) (n c : Nat) (rs : List Rg), v = .slice x n c ∧ RS w x n rs ∧ n ≤ c ∧ c ≤ 9223372036854775807 := by
  obtain ⟨x, n, c, rfl⟩ := okWide_slice Tryz.underlying26 hv
  obtain ⟨fuel, hf⟩ := h
  rcases Deep.open_slice Tryz.underlying26 hf with ⟨h0, -⟩ | ⟨a, len, cap, m, k, D, Pl, h1, -, hl, hm, hmm, hx, hcell⟩
  · simp [Value.cells] at h0
    obtain ⟨rfl, rfl, rfl⟩ := h0
    exact ⟨none, 0, 0, [], rfl, ⟨rfl, fun i hi => by cases hi⟩, by omega, by omega⟩
  · simp [Value.cells] at h1
    obtain ⟨rfl, rfl, rfl⟩ := h1
    simp at hmm
    have hmm' := hmm.symm
    subst hmm'
    clear hmm
    have each : ∀ i, i < c → ∃ q : Rg, ∀ j, j < 3 → w.cell? (a.add (i * 3 + j)) = (cR q)[j]? := fun i hi => by
      obtain ⟨cs', e1, e2⟩ := hcell i hi
      rw [cellsRt] at e1
      obtain ⟨-, hlen, hc⟩ := World.cells?_some e1
      obtain ⟨q, rfl⟩ := trod_route hlen e2
      exact ⟨q, fun j hj => by
        have := hc j hj
        rw [Deep.add_add] at this
        exact this⟩
    have : Inhabited Rg := ⟨rgZ⟩
    obtain ⟨Q, hQ⟩ := Deep.choose_lt each
    have hmax : c ≤ 9223372036854775807 := by unfold maxLen at hm; omega
    by_cases hn0 : n = 0
    · subst hn0
      exact ⟨some a, 0, c, [], rfl, ⟨rfl, fun i hi => by cases hi⟩, by omega, hmax⟩
    · have hsp : a.spot = none := by
        have h0 := hQ 0 (by omega) 0 (by omega)
        have h1 : w.cell? (a.add (0 * 3 + 0)) = some (.int .i64 (Q 0).a) := h0
        have := World.cell?_spot h1
        simpa [Addr.add] using this
      obtain ⟨b, o, sp⟩ := a
      simp only at hsp
      subst hsp
      refine ⟨some ⟨b, o, none⟩, n, c, (List.range n).map Q, rfl, ⟨by simp, fun i hi => ⟨b, o, rfl, ?_⟩⟩, hl, hmax⟩
      have hat : rgAt ((List.range n).map Q) i = Q i := by rw [rgAt_get (by simpa using hi)]; simp
      rw [hat]
      have e : ∀ j, j < 3 → ∀ u, (cR (Q i))[j]? = some u → w.cell? ⟨b, o + i * 3 + j, none⟩ = some u := fun j hj u hu => by
        have := hQ i (by omega) j hj
        rw [addr_add, hu, ← Nat.add_assoc] at this
        exact this
      exact ⟨e 0 (by omega) _ rfl, e 1 (by omega) _ rfl, e 2 (by omega) _ rfl⟩
end Go.Proofs.YtgealgjeboainaaGreat
