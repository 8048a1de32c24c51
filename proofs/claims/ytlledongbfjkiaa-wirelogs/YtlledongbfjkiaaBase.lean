/- The ground of this seat's proofs: what commands, slices of commands and numbers that came in are. -/
import Derived.Test.YtlledongbfjkiaaRows
import Derived.Test.YtlledongbfjkiaaWj
import Derived.ProofKit
import Derived.OpenShut
import Derived.Carry
import Derived.SizedLaws
import Derived.ChangeMaps5
import Derived.Deep.Slices
import Derived.Deep.DeepHandedRow
import Derived.Lib.SmallJoins
namespace Go.Proofs.Ytlledongbfjkiaa
open Go.ChangeShapes Go.WideShapes Go.ChangeAt Go.RowKit Go.Joins

theorem own : ownKnob Try.prog.godebug = none := by kernel_rfl
theorem laidOut : laidOutB Try.prog = true := by kernel_rfl
theorem cells3 : Try.prog.cellsOf 3 = 1 := by kernel_rfl
theorem cellsP : Try.prog.cellsOf 23 = 2 := by kernel_rfl
theorem cellsR : Try.prog.cellsOf 25 = 4 := by kernel_rfl
theorem cellsCm : Try.prog.cellsOf 27 = 10 := by kernel_rfl
theorem bytesCm : Try.prog.bytesOf 27 = 80 := by kernel_rfl
theorem wf_range {n : Int} (h : (Lit.int .i64 n).wf = true) : -9223372036854775808 ≤ n ∧ n ≤ 9223372036854775807 := by
  have h1 : IntKind.i64.min = -9223372036854775808 := by rfl
  have h2 : IntKind.i64.max = 9223372036854775807 := by rfl
  simp [Lit.wf] at h
  omega

section
variable {H : Type} {enc : TypeId × Value → H} {w : World} {base : Nat} {spare : Nat → Bool} {held : Bool}
theorem int_of {n : Nat} {v : Value} {y : Option (DataW H × List MemPlace)} (hy : y.isSome = true) (h : DataW.trod enc Try.prog w base spare held n 3 [v] = y) : ∃ a : Int, v = .int .i64 a := by
  obtain ⟨y, rfl⟩ := Option.isSome_iff_exists.1 hy
  obtain ⟨a, e, -⟩ := DataW.trod_int Try.underlying3 h
  simp at e
  exact ⟨a, e⟩
theorem some_at {α : Type} {xs : List α} {m i : Nat} (h : xs.length = m) (hi : i < m) : (xs[i]?).isSome = true := by
  rw [List.getElem?_eq_getElem (by omega)]
  rfl
set_option maxRecDepth 20000 in
theorem trod_cmd {n : Nat} {cs : List Value} {x : DataW H × List MemPlace} (hl : cs.length = 10) (h : DataW.trod enc Try.prog w base spare held n 27 cs = some x) : ∃ c : Cm, cs = cellsC c := by
  obtain ⟨xs, k, -, -, -, hxl, hf⟩ := DataW.trod_struct Try.underlying27 h
  match cs, hl with
  | [v0, v1, v2, v3, v4, v5, v6, v7, v8, v9], _ =>
    have g0 := hf 0 _ rfl
    have g1 := hf 1 _ rfl
    have g2 := hf 2 _ rfl
    have g3 := hf 3 _ rfl
    have g4 := hf 4 _ rfl
    have g5 := hf 5 _ rfl
    have y : ∀ i, i < 6 → (xs[i]?).isSome = true := fun i hi => some_at hxl hi
    simp [cells3, cellsP, cellsR] at g0 g1 g2 g3 g4 g5
    obtain ⟨a0, rfl⟩ := int_of (y 0 (by omega)) g0
    obtain ⟨a1, rfl⟩ := int_of (y 1 (by omega)) g1
    obtain ⟨a2, rfl⟩ := int_of (y 2 (by omega)) g2
    obtain ⟨a3, rfl⟩ := int_of (y 3 (by omega)) g3
    obtain ⟨z4, h4⟩ := Option.isSome_iff_exists.1 (y 4 (by omega))
    obtain ⟨z5, h5⟩ := Option.isSome_iff_exists.1 (y 5 (by omega))
    rw [h4] at g4
    rw [h5] at g5
    obtain ⟨us, k4, -, -, -, hul, hu⟩ := DataW.trod_struct Try.underlying23 g4
    obtain ⟨ts, k5, -, -, -, htl, ht⟩ := DataW.trod_struct Try.underlying25 g5
    have p0 := hu 0 _ rfl
    have p1 := hu 1 _ rfl
    have r0 := ht 0 _ rfl
    have r1 := ht 1 _ rfl
    have r2 := ht 2 _ rfl
    have r3 := ht 3 _ rfl
    simp [cells3] at p0 p1 r0 r1 r2 r3
    obtain ⟨a4, rfl⟩ := int_of (some_at hul (by decide)) p0
    obtain ⟨a5, rfl⟩ := int_of (some_at hul (by decide)) p1
    obtain ⟨a6, rfl⟩ := int_of (some_at htl (by decide)) r0
    obtain ⟨a7, rfl⟩ := int_of (some_at htl (by decide)) r1
    obtain ⟨a8, rfl⟩ := int_of (some_at htl (by decide)) r2
    obtain ⟨a9, rfl⟩ := int_of (some_at htl (by decide)) r3
    exact ⟨⟨a0, a1, a2, a3, a4, a5, a6, a7, a8, a9⟩, rfl⟩
end
set_option maxRecDepth 100000 in
theorem open_cmd {H : Type} {enc : TypeId × Value → H} {w : World} {r : Reach} {b0 : Nat} {v : Value} {d : DataW H} {p : List MemPlace}
    (hv : Value.okWide Try.prog w r b0 27 v) (h : DataW.Trod enc Try.prog w 0 (fun _ => true) true 27 v d p) : ∃ c : Cm, v = cmV c := by
  obtain ⟨cs, rfl, hsz⟩ := okWide_struct Try.underlying27 hv
  obtain ⟨fuel, hf⟩ := h
  rw [cellsCm] at hsz
  obtain ⟨c, hc⟩ := trod_cmd (cs := cs.toList) (by simpa using hsz) hf
  exact ⟨c, by rw [← Array.toArray_toList (xs := cs), hc]; rfl⟩
theorem addr_add (b o j : Nat) : (⟨b, o, none⟩ : Addr).add j = ⟨b, o + j, none⟩ := by rw [Addr.add_lit]
set_option maxRecDepth 100000 in
theorem open_cmds {H : Type} {enc : TypeId × Value → H} {w : World} {r : Reach} {b0 : Nat} {v : Value} {d : DataW H} {p : List MemPlace}
    (hv : Value.okWide Try.prog w r b0 41 v) (h : DataW.Trod enc Try.prog w 0 (fun _ => true) true 41 v d p) :
    ∃ (x : Option Addr) (n c : Nat) (cs : List Cm), v = .slice x n c ∧ CS w x n cs ∧ n ≤ c ∧ c ≤ 9223372036854775807 ∧ (n = 0 ∨ ∃ elems sp, d = .slice elems sp ∧ elems.length = n) := by
  obtain ⟨x, n, c, rfl⟩ := okWide_slice Try.underlying41 hv
  obtain ⟨fuel, hf⟩ := h
  rcases Deep.open_slice Try.underlying41 hf with ⟨h0, -⟩ | ⟨a, len, cap, m, k, D, Pl, h1, -, hl, hm, hmm, hx, hcell⟩
  · simp [Value.cells] at h0
    obtain ⟨rfl, rfl, rfl⟩ := h0
    exact ⟨none, 0, 0, [], rfl, ⟨rfl, fun i hi => by cases hi⟩, by omega, by omega, .inl rfl⟩
  · simp [Value.cells] at h1
    obtain ⟨rfl, rfl, rfl⟩ := h1
    simp at hmm
    have hmm' := hmm.symm
    subst hmm'
    clear hmm
    have hd : d = .slice ((List.range n).map D) ((List.range (c - n)).map fun j => D (n + j)) := (Prod.mk.inj hx).1
    have each : ∀ i, i < c → ∃ q : Cm, ∀ j, j < 10 → w.cell? (a.add (i * 10 + j)) = (cellsC q)[j]? := fun i hi => by
      obtain ⟨cs', e1, e2⟩ := hcell i hi
      rw [cellsCm] at e1
      obtain ⟨-, hlen, hc⟩ := World.cells?_some e1
      obtain ⟨q, rfl⟩ := trod_cmd hlen e2
      exact ⟨q, fun j hj => by
        have := hc j hj
        rw [Deep.add_add] at this
        exact this⟩
    have : Inhabited Cm := ⟨zeroC⟩
    obtain ⟨Q, hQ⟩ := Deep.choose_lt each
    have hmax : c ≤ 9223372036854775807 := by unfold maxLen at hm; omega
    by_cases hn0 : n = 0
    · subst hn0
      exact ⟨some a, 0, c, [], rfl, ⟨rfl, fun i hi => by cases hi⟩, by omega, hmax, .inl rfl⟩
    · have hsp : a.spot = none := by
        have h0 := hQ 0 (by omega) 0 (by omega)
        have h1 : w.cell? (a.add (0 * 10 + 0)) = some (.int .i64 (Q 0).op) := h0
        have := World.cell?_spot h1
        simpa [Addr.add] using this
      obtain ⟨b, o, sp⟩ := a
      simp only at hsp
      subst hsp
      refine ⟨some ⟨b, o, none⟩, n, c, (List.range n).map Q, rfl, ⟨by simp, fun i hi => ⟨b, o, rfl, ?_⟩⟩, hl, hmax, .inr ⟨_, _, hd, by simp⟩⟩
      have hat : cmAt ((List.range n).map Q) i = Q i := by rw [cmAt_get (by simpa using hi)]; simp
      rw [hat]
      have e : ∀ j, j < 10 → ∀ u, (cellsC (Q i))[j]? = some u → w.cell? ⟨b, o + i * 10 + j, none⟩ = some u := fun j hj u hu => by
        have := hQ i (by omega) j hj
        rw [addr_add, hu, ← Nat.add_assoc] at this
        exact this
      exact ⟨e 0 (by omega) _ rfl, e 1 (by omega) _ rfl, e 2 (by omega) _ rfl, e 3 (by omega) _ rfl, e 4 (by omega) _ rfl, e 5 (by omega) _ rfl, e 6 (by omega) _ rfl, e 7 (by omega) _ rfl, e 8 (by omega) _ rfl, e 9 (by omega) _ rfl⟩
end Go.Proofs.Ytlledongbfjkiaa
