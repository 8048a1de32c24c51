/- The ground of this seat's proofs: what a space, a prefix, a number that came in are. -/
import Derived.Test.YtbnkgecblaffeaaRows
import Derived.Test.YtbnkgecblaffeaaJ
import Derived.ProofKit
import Derived.OpenShut
import Derived.Carry
import Derived.Deep.SlicePairs
import Derived.Deep.DeepHandedRow
import Derived.Lib.SmallJoins
namespace Go.Proofs.Ytbnkgecblaffeaa
open Go.ChangeShapes Go.WideShapes Go.ChangeAt Go.RowKit Go.Joins

theorem own : ownKnob Try.prog.godebug = none := by kernel_rfl
theorem laidOut : laidOutB Try.prog = true := by kernel_rfl
theorem cellsP : Try.prog.cellsOf 23 = 2 := by kernel_rfl
theorem cellsS : Try.prog.cellsOf 26 = 3 := by kernel_rfl
theorem cellsU : Try.prog.cellsOf 24 = 1 := by kernel_rfl
theorem cells3 : Try.prog.cellsOf 3 = 1 := by kernel_rfl

theorem wf_range {n : Int} (h : (Lit.int .i64 n).wf = true) : -9223372036854775808 ≤ n ∧ n ≤ 9223372036854775807 := by
  have h1 : IntKind.i64.min = -9223372036854775808 := by rfl
  have h2 : IntKind.i64.max = 9223372036854775807 := by rfl
  simp [Lit.wf] at h
  omega

set_option maxRecDepth 100000 in
theorem open_space {H : Type} {enc : TypeId × Value → H} {w : World} {r : Reach} {b0 : Nat} {v : Value} {d : DataW H} {p : List MemPlace}
    (hv : Value.okWide Try.prog w r b0 26 v) (h : DataW.Trod enc Try.prog w 0 (fun _ => true) true 26 v d p) :
    ∃ (a l : Int) (x : Option Addr) (n c : Nat) (ps : List (Int × Int)), v = .agg #[.int .i64 a, .int .i64 l, .slice x n c] ∧ PS w x n ps ∧ n ≤ c ∧ c ≤ 9223372036854775807 ∧ ((x = none ∧ c = 0) ∨ (∃ q, x = some q ∧ c = 0) ∨ ∃ b o, x = some ⟨b, o, none⟩) := by
  obtain ⟨cs, rfl, hsz⟩ := okWide_struct Try.underlying26 hv
  obtain ⟨c0, c1, c2, rfl⟩ := array3 (hsz.trans cellsS)
  obtain ⟨fuel, hf⟩ := h
  obtain ⟨y0, y1, n, hx, _, h0, h1⟩ := trod_struct2 Try.underlying26 hf
  simp [Value.cells, cellsP, cellsU] at h0 h1
  obtain ⟨z0, z1, m, hz, _, g0, g1⟩ := trod_struct2 Try.underlying23 h0
  simp [cells3] at g0 g1
  obtain ⟨a, ea, -, -⟩ := DataW.trod_int Try.underlying3 g0
  obtain ⟨l, el, -, -⟩ := DataW.trod_int Try.underlying3 g1
  simp at ea el
  subst ea el
  clear g0 g1 hz h0 hx hf hv hsz
  rcases Deep.open_slice_pairs Try.underlying24 Try.underlying23 cellsP rfl rfl cells3 cells3 h1 with ⟨hc, -⟩ | ⟨q, len, cap, k, n', V0, V1, D0, D1, P0, P1, hc, -, hlc, hcm, hk, -, hV⟩
  · simp at hc
    subst hc
    exact ⟨a, l, none, 0, 0, [], rfl, ⟨rfl, fun i hi => by cases hi⟩, by omega, by omega, .inl ⟨rfl, rfl⟩⟩
  · simp at hc
    subst hc
    simp at hk
    have hk' := hk.symm
    subst hk'
    clear hk
    have hspot : 0 < cap → q.spot = none := fun h => by
      have := World.cell?_spot (hV 0 h).1
      simpa [Addr.add] using this
    have hmax : cap ≤ 9223372036854775807 := by unfold maxLen at hcm; omega
    by_cases h0 : cap = 0
    · subst h0
      obtain rfl : len = 0 := by omega
      exact ⟨a, l, some q, 0, 0, [], rfl, ⟨rfl, fun i hi => by cases hi⟩, by omega, by omega, .inr (.inl ⟨q, rfl, rfl⟩)⟩
    · obtain ⟨b, o, sp'⟩ := q
      have hs : sp' = none := hspot (by omega)
      subst hs
      refine ⟨a, l, some ⟨b, o, none⟩, len, cap, (List.range len).map fun i => (intOf (V0 i), intOf (V1 i)), rfl, ⟨by simp, fun i hi => ⟨b, o, rfl, ?_, ?_⟩⟩, hlc, hmax, .inr (.inr ⟨b, o, rfl⟩)⟩
      · obtain ⟨e0, -, t0, -⟩ := hV i (by omega)
        obtain ⟨x, ex, -, -⟩ := DataW.trod_int Try.underlying3 t0
        simp at ex
        rw [addr_add, ex] at e0
        rw [e0]
        simp [at0, List.getD_eq_getElem?_getD, hi, ex, intOf]
      · obtain ⟨-, e0, -, t0⟩ := hV i (by omega)
        obtain ⟨x, ex, -, -⟩ := DataW.trod_int Try.underlying3 t0
        simp at ex
        rw [addr_add, ex] at e0
        rw [show o + i * 2 + 1 = o + (i * 2 + 1) by omega, e0]
        simp [at1, List.getD_eq_getElem?_getD, hi, ex, intOf]

set_option maxRecDepth 100000 in
theorem open_prefix {H : Type} {enc : TypeId × Value → H} {w : World} {r : Reach} {b0 : Nat} {v : Value} {d : DataW H} {p : List MemPlace}
    (hv : Value.okWide Try.prog w r b0 23 v) (h : DataW.Trod enc Try.prog w 0 (fun _ => true) true 23 v d p) :
    ∃ (a l : Int), v = .agg #[.int .i64 a, .int .i64 l] := by
  obtain ⟨c0, c1, y0, y1, m0, rfl, -, -, hy0, hy1⟩ := open_agg2 Try.underlying23 (by kernel_rfl) cellsP hv h
  obtain ⟨a, ea, -, -⟩ := DataW.trod_int Try.underlying3 hy0
  obtain ⟨l, el, -, -⟩ := DataW.trod_int Try.underlying3 hy1
  simp at ea el
  subst ea el
  exact ⟨a, l, rfl⟩
end Go.Proofs.Ytbnkgecblaffeaa
