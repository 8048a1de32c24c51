/- The law SpaceClaims answers true, whatever it is handed. -/
import Derived.Test.YtbnkgecblaffeaaRd
import Derived.Test.YtbnkgecblaffeaaTr
namespace Go.Proofs.Ytbnkgecblaffeaa
open Go.RowKit Go.Shelf

/-- What comes of a call that hands back a space and an error: these numbers, and a slice that holds this list. -/
def SpacePost (A L E : Int) (Q : List (Int × Int)) (w : World) (e : Ending) (w' : World) : Prop :=
  ∃ X N C, e = .returned (.tuple #[.agg #[.int .i64 A, .int .i64 L, .slice X N C], .int .i64 E]) ∧ Below w.heap.size w w' ∧ PS w' X N Q ∧ N ≤ 1000

theorem ps_nil (w : World) : PS w none 0 [] := ⟨rfl, fun i hi => by cases hi⟩

theorem claim_gen (a l c m : Int) (x : Option Addr) (n k : Nat) (ps Q : List (Int × Int)) (hQ : ∀ qs, PutAt ps c m qs → qs = Q) (w : World) (hp : n ≤ 32 → PS w x n ps) (hnc : n ≤ k) (hk63 : k ≤ 9223372036854775807) (hx : (x = none ∧ k = 0) ∨ (∃ q, x = some q ∧ k = 0) ∨ ∃ b o, x = some ⟨b, o, none⟩) :
    Calls Try.prog 15 #[.agg #[.int .i64 a, .int .i64 l, .slice x n k], .agg #[.int .i64 c, .int .i64 m]] w
      (SpacePost (if claimE a l n ps c m = 0 then a else 0) (if claimE a l n ps c m = 0 then l else 0) (claimE a l n ps c m) (if claimE a l n ps c m = 0 then Q else []) w) := by
  refine (claim_any a l c m x n k ps w hp hnc hk63 hx).mono fun e w' ⟨hb, h⟩ => ?_
  rcases h with ⟨h0, rfl⟩ | ⟨h0, x', c', qs, rfl, hput, hps, -⟩
  · rw [if_neg h0, if_neg h0, if_neg h0]
    exact ⟨none, 0, 0, rfl, hb, ps_nil w', by omega⟩
  · rw [if_pos h0, if_pos h0, if_pos h0]
    have hn : n ≤ 32 := by
      unfold claimE at h0
      by_cases hv : chkS a l n ps = 0
      · exact (chkS_ok hv).1
      · rw [if_neg hv] at h0; exact absurd h0 hv
    rw [h0, ← hQ qs hput]
    exact ⟨x', n + 1, c', rfl, hb, hps, by omega⟩
theorem claimOf_gen (a l c m : Int) (x : Option Addr) (n k : Nat) (ps Q : List (Int × Int)) (hQ : ∀ qs, PutAt ps c m qs → qs = Q) (w : World) (hp : n ≤ 32 → PS w x n ps) :
    Calls Try.prog 17 #[.agg #[.int .i64 a, .int .i64 l, .slice x n k], .agg #[.int .i64 c, .int .i64 m]] w
      (SpacePost (if claimE a l n ps c m = 0 then a else 0) (if claimE a l n ps c m = 0 then l else 0) (claimE a l n ps c m) (if claimE a l n ps c m = 0 then Q else []) w) := by
  refine (claimOf_any a l c m x n k ps w hp).mono fun e w' ⟨hb, h⟩ => ?_
  rcases h with ⟨h0, rfl⟩ | ⟨h0, x', c', qs, rfl, hput, hps⟩
  · rw [if_neg h0, if_neg h0, if_neg h0]
    exact ⟨none, 0, 0, rfl, hb, ps_nil w', by omega⟩
  · rw [if_pos h0, if_pos h0, if_pos h0]
    have hn : ps.length ≤ 32 := by
      unfold claimE at h0
      by_cases hv : chkS a l n ps = 0
      · have := (chkS_ok hv).1
        rw [(hp this).len]; exact this
      · rw [if_neg hv] at h0; exact absurd h0 hv
    have hlen : qs.length ≤ 1000 := by
      obtain ⟨i, hi, -, -, rfl⟩ := hput.ex
      simp
      omega
    rw [h0, ← hQ qs hput]
    exact ⟨x', qs.length, c', rfl, hb, hps, hlen⟩

def freeE (a l : Int) (n : Nat) (ps : List (Int × Int)) (c m : Int) : Int := if chkS a l n ps = 0 then (if (flt ps c m n).length = n then 5 else 0) else chkS a l n ps

theorem free_gen (a l c m : Int) (x : Option Addr) (n k : Nat) (ps : List (Int × Int)) (w : World) (hp : n ≤ 32 → PS w x n ps) (hnc : n ≤ k) (hk63 : k ≤ 9223372036854775807) :
    Calls Try.prog 16 #[.agg #[.int .i64 a, .int .i64 l, .slice x n k], .agg #[.int .i64 c, .int .i64 m]] w
      (SpacePost (if freeE a l n ps c m = 0 then a else 0) (if freeE a l n ps c m = 0 then l else 0) (freeE a l n ps c m) (if freeE a l n ps c m = 0 then flt ps c m n else []) w) := by
  refine (free_any a l c m x n k ps w hp hnc hk63).mono fun e w' ⟨hb, h⟩ => ?_
  rcases h with ⟨h0, rfl⟩ | ⟨h0, hno, rfl⟩ | ⟨h0, i, hi, heq, -, x', c', rfl, hps⟩
  · have hE : freeE a l n ps c m = chkS a l n ps := by unfold freeE; rw [if_neg h0]
    rw [hE, if_neg h0, if_neg h0, if_neg h0]
    exact ⟨none, 0, 0, rfl, hb, ps_nil w', by omega⟩
  · have hl := (hp (chkS_ok h0).1).len
    have hE : freeE a l n ps c m = 5 := by
      unfold freeE
      rw [if_pos h0, if_pos]
      rw [← hl, flt_all (by rw [hl]; exact hno)]
    rw [hE]
    exact ⟨none, 0, 0, rfl, hb, ps_nil w', by omega⟩
  · obtain ⟨hn, -, hap⟩ := chkS_ok h0
    have hl := (hp hn).len
    have hone := flt_one (used_of hap) (by omega) heq
    rw [hl] at hone
    have hln : (ps.take i ++ ps.drop (i + 1)).length = n - 1 := by simp; omega
    have hE : freeE a l n ps c m = 0 := by
      unfold freeE
      rw [if_pos h0, if_neg]
      rw [hone, hln]
      omega
    rw [hE, if_pos rfl, if_pos rfl, if_pos rfl, hone]
    exact ⟨x', n - 1, c', rfl, hb, hps, by omega⟩
theorem freeOf_gen (a l c m : Int) (x : Option Addr) (n k : Nat) (ps : List (Int × Int)) (w : World) (hp : n ≤ 32 → PS w x n ps) :
    Calls Try.prog 18 #[.agg #[.int .i64 a, .int .i64 l, .slice x n k], .agg #[.int .i64 c, .int .i64 m]] w
      (SpacePost (if freeE a l n ps c m = 0 then a else 0) (if freeE a l n ps c m = 0 then l else 0) (freeE a l n ps c m) (if freeE a l n ps c m = 0 then flt ps c m n else []) w) := by
  refine (freeOf_any a l c m x n k ps w hp).mono fun e w' ⟨hb, h⟩ => ?_
  rcases h with ⟨h0, rfl⟩ | ⟨h0, hlen, rfl⟩ | ⟨h0, hlen, x', c', rfl, hps⟩
  · have hE : freeE a l n ps c m = chkS a l n ps := by unfold freeE; rw [if_neg h0]
    rw [hE, if_neg h0, if_neg h0, if_neg h0]
    exact ⟨none, 0, 0, rfl, hb, ps_nil w', by omega⟩
  · have hE : freeE a l n ps c m = 5 := by unfold freeE; rw [if_pos h0, if_pos hlen]
    rw [hE]
    exact ⟨none, 0, 0, rfl, hb, ps_nil w', by omega⟩
  · have hE : freeE a l n ps c m = 0 := by unfold freeE; rw [if_pos h0, if_neg hlen]
    have := flt_len ps c m n
    have hn := (chkS_ok h0).1
    rw [hE, if_pos rfl, if_pos rfl, if_pos rfl]
    exact ⟨x', (flt ps c m n).length, c', rfl, hb, hps, by omega⟩

set_option maxRecDepth 100000 in
set_option maxHeartbeats 1600000 in
theorem claims_any (a l c m : Int) (x : Option Addr) (n k : Nat) (ps : List (Int × Int)) (w : World) (hp : n ≤ 32 → PS w x n ps) (hnc : n ≤ k) (hk63 : k ≤ 9223372036854775807) (hx : (x = none ∧ k = 0) ∨ (∃ q, x = some q ∧ k = 0) ∨ ∃ b o, x = some ⟨b, o, none⟩) :
    Calls Try.prog 4 #[.agg #[.int .i64 a, .int .i64 l, .slice x n k], .agg #[.int .i64 c, .int .i64 m]] w fun e w' => e = .returned (.bool true) ∧ Below w.heap.size w w' := by
  obtain ⟨Q, hQ⟩ : ∃ Q, ∀ qs, PutAt ps c m qs → qs = Q := by
    by_cases h : ∃ qs, PutAt ps c m qs
    · obtain ⟨Q, h⟩ := h
      exact ⟨Q, fun qs hq => hq.one h⟩
    · exact ⟨[], fun qs hq => absurd ⟨qs, hq⟩ h⟩
  have c1 := fun w hp => claim_gen a l c m x n k ps Q hQ w hp hnc hk63 hx
  have c2 := fun w hp => free_gen a l c m x n k ps w hp hnc hk63
  have c3 := fun w hp => claimOf_gen a l c m x n k ps Q hQ w hp
  have c4 := fun w hp => freeOf_gen a l c m x n k ps w hp
  generalize (if claimE a l n ps c m = 0 then Q else []) = Q1 at c1 c3
  generalize (if claimE a l n ps c m = 0 then a else 0) = A1 at c1 c3
  generalize (if claimE a l n ps c m = 0 then l else 0) = L1 at c1 c3
  generalize claimE a l n ps c m = E1 at c1 c3
  generalize (if freeE a l n ps c m = 0 then flt ps c m n else []) = Q2 at c2 c4
  generalize (if freeE a l n ps c m = 0 then a else 0) = A2 at c2 c4
  generalize (if freeE a l n ps c m = 0 then l else 0) = L2 at c2 c4
  generalize freeE a l n ps c m = E2 at c2 c4
  go_enter Try.func4, Try.ntmps4
  go_wp2_with fail
  refine (c1 _ (fun h => (hp h).later (S2.start w a l c m x n k).b)).mono ?_
  rintro e w1 ⟨X1, N1, C1, rfl, hb1, hp1, hn1⟩
  have hB := (S2.start w a l c m x n k).later hb1
  clear hb1 c1
  obtain ⟨s0, s1, s2, p0, p1⟩ := hB.cells1
  go_wp2_with fail
  have hA1 : (w1.alloc (.cells #[.int .i64 A1, .int .i64 L1, .slice X1 N1 C1] 26)).heap[w1.heap.size]? = some (.cells #[.int .i64 A1, .int .i64 L1, .slice X1 N1 C1] 26) := heap_new _ rfl
  refine (c2 _ (fun h => (hp h).later (hB.later (bl1 w1 _)).b)).mono ?_
  rintro e w2 ⟨X2, N2, C2, rfl, hb2, hp2, hn2⟩
  replace hB := (hB.later (bl1 w1 _)).later hb2
  replace hA1 := (hb2.block _ (Array.getElem?_eq_some_iff.1 hA1).1).trans hA1
  replace hp1 := (hp1.later (bl1 w1 _)).later hb2
  clear hb2 c2 s0 s1 s2 p0 p1
  obtain ⟨s0, s1, s2, p0, p1⟩ := hB.cells1
  go_wp2_with fail
  have hA2 : (w2.alloc (.cells #[.int .i64 A2, .int .i64 L2, .slice X2 N2 C2] 26)).heap[w2.heap.size]? = some (.cells #[.int .i64 A2, .int .i64 L2, .slice X2 N2 C2] 26) := heap_new _ rfl
  refine (c3 _ (fun h => (hp h).later (hB.later (bl1 w2 _)).b)).mono ?_
  rintro e w3 ⟨X3, N3, C3, rfl, hb3, hp3, hn3⟩
  replace hB := (hB.later (bl1 w2 _)).later hb3
  replace hA1 := (hb3.block _ (Array.getElem?_eq_some_iff.1 (heap_old _ hA1)).1).trans (heap_old _ hA1)
  replace hA2 := (hb3.block _ (Array.getElem?_eq_some_iff.1 hA2).1).trans hA2
  replace hp1 := (hp1.later (bl1 w2 _)).later hb3
  replace hp2 := (hp2.later (bl1 w2 _)).later hb3
  clear hb3 c3 s0 s1 s2 p0 p1
  obtain ⟨s0, s1, s2, p0, p1⟩ := hB.cells1
  go_wp2_with fail
  have hA3 : (w3.alloc (.cells #[.int .i64 A1, .int .i64 L1, .slice X3 N3 C3] 26)).heap[w3.heap.size]? = some (.cells #[.int .i64 A1, .int .i64 L1, .slice X3 N3 C3] 26) := heap_new _ rfl
  refine (c4 _ (fun h => (hp h).later (hB.later (bl1 w3 _)).b)).mono ?_
  rintro e w4 ⟨X4, N4, C4, rfl, hb4, hp4, hn4⟩
  replace hB := (hB.later (bl1 w3 _)).later hb4
  replace hA1 := (hb4.block _ (Array.getElem?_eq_some_iff.1 (heap_old _ hA1)).1).trans (heap_old _ hA1)
  replace hA2 := (hb4.block _ (Array.getElem?_eq_some_iff.1 (heap_old _ hA2)).1).trans (heap_old _ hA2)
  replace hA3 := (hb4.block _ (Array.getElem?_eq_some_iff.1 hA3).1).trans hA3
  replace hp1 := (hp1.later (bl1 w3 _)).later hb4
  replace hp2 := (hp2.later (bl1 w3 _)).later hb4
  replace hp3 := (hp3.later (bl1 w3 _)).later hb4
  clear hb4 c4 s0 s1 s2 p0 p1
  go_wp2_with fail
  have hA4 : (w4.alloc (.cells #[.int .i64 A2, .int .i64 L2, .slice X4 N4 C4] 26)).heap[w4.heap.size]? = some (.cells #[.int .i64 A2, .int .i64 L2, .slice X4 N4 C4] 26) := heap_new _ rfl
  refine (begun_is _).mono ?_
  rintro e w5 ⟨rfl, hb5⟩
  replace hB := (hB.later (bl1 w4 _)).later hb5
  replace hA1 := (hb5.block _ (Array.getElem?_eq_some_iff.1 (heap_old _ hA1)).1).trans (heap_old _ hA1)
  replace hA2 := (hb5.block _ (Array.getElem?_eq_some_iff.1 (heap_old _ hA2)).1).trans (heap_old _ hA2)
  replace hA3 := (hb5.block _ (Array.getElem?_eq_some_iff.1 (heap_old _ hA3)).1).trans (heap_old _ hA3)
  replace hA4 := (hb5.block _ (Array.getElem?_eq_some_iff.1 hA4).1).trans hA4
  replace hp1 := (hp1.later (bl1 w4 _)).later hb5
  replace hp2 := (hp2.later (bl1 w4 _)).later hb5
  replace hp3 := (hp3.later (bl1 w4 _)).later hb5
  replace hp4 := (hp4.later (bl1 w4 _)).later hb5
  clear hb5
  obtain ⟨e0, e1, e2, -⟩ := box3 hA1
  obtain ⟨e3, e4, e5, -⟩ := box3 hA3
  go_wp2_with fail
  refine (sameSpaces_is A1 L1 X1 X3 N1 N3 C1 C3 Q1 w5 hp1 hp3 (by omega) (by omega)).mono ?_
  rintro e w6 ⟨rfl, hb6⟩
  replace hA2 := (hb6.block _ (Array.getElem?_eq_some_iff.1 hA2).1).trans hA2
  replace hA4 := (hb6.block _ (Array.getElem?_eq_some_iff.1 hA4).1).trans hA4
  have hB6 := hB.b.trans (hb6.mono hB.b.size)
  replace hp2 := hp2.later hb6
  replace hp4 := hp4.later hb6
  clear e0 e1 e2 e3 e4 e5 hb6
  obtain ⟨e0, e1, e2, -⟩ := box3 hA2
  obtain ⟨e3, e4, e5, -⟩ := box3 hA4
  go_wp2_with fail
  refine (sameSpaces_is A2 L2 X2 X4 N2 N4 C2 C4 Q2 w6 hp2 hp4 (by omega) (by omega)).mono ?_
  rintro e w7 ⟨rfl, hb7⟩
  go_wp2
  go_ret
  exact ⟨rfl, hB6.trans (hb7.mono hB6.size)⟩
end Go.Proofs.Ytbnkgecblaffeaa
