/- What the document's own answers on spaces come to: meetsUsed, ClaimOf, FreeOf. -/
import Derived.Test.YtbnkgecblaffeaaTm
import Derived.Test.YtbnkgecblaffeaaV
namespace Go.Proofs.Ytbnkgecblaffeaa
open Go.RowKit Go.Shelf

theorem mtsAny_no {a l : Int} {ps : List (Int × Int)} (h : ∀ j, j < ps.length → mts (at0 ps j) (at1 ps j) a l = false) : mtsAny a l ps = false :=
  any_no fun j hj => by rw [mts_comm]; exact h j hj
theorem mtsAny_yes {a l : Int} {ps : List (Int × Int)} {j : Nat} (hj : j < ps.length) (h : mts (at0 ps j) (at1 ps j) a l = true) : mtsAny a l ps = true :=
  any_yes hj (by rw [mts_comm]; exact h)

set_option maxRecDepth 20000 in
set_option maxHeartbeats 800000 in
theorem meetsUsed_any (a l c m : Int) (x : Option Addr) (n k : Nat) (ps : List (Int × Int)) (w : World) (hp : PS w x n ps) (hn : n ≤ 64) :
    Calls Try.prog 33 #[.agg #[.int .i64 a, .int .i64 l, .slice x n k], .agg #[.int .i64 c, .int .i64 m]] w fun e w' => e = .returned (.bool (mtsAny c m ps)) ∧ Below w.heap.size w w' := by
  go_enter Try.func33, Try.ntmps33
  go_wp2
  go_loopw [5] (fun i wr => ∃ q : Nat, q ≤ n ∧ i = .int .i64 q ∧ Below (w.heap.size + 1 + 1) ((w.alloc (.cells #[.int .i64 a, .int .i64 l, .slice x n k] 26)).alloc (.cells #[.int .i64 c, .int .i64 m] 23)) wr ∧ (∀ j, j < q → mts (at0 ps j) (at1 ps j) c m = false)) (fun i _ => n - (intOf i).toNat)
  case atStart => exact ⟨0, by omega, rfl, Below.refl _ _, fun j hj => by omega⟩
  case round =>
    obtain ⟨q, hq, rfl, hB0, hno⟩ := hrel
    have hpl := hp.len
    have hB : Below ((w.alloc (.cells #[.int .i64 a, .int .i64 l, .slice x n k] 26)).alloc (.cells #[.int .i64 c, .int .i64 m] 23)).heap.size ((w.alloc (.cells #[.int .i64 a, .int .i64 l, .slice x n k] 26)).alloc (.cells #[.int .i64 c, .int .i64 m] 23)) wr := by simpa using hB0
    have s1 : wr.heap[w.heap.size]? = some (.cells #[.int .i64 a, .int .i64 l, .slice x n k] 26) := (hB.block _ (by simp; omega)).trans (heap_old _ (heap_new _ rfl))
    have s2 : wr.heap[w.heap.size + 1]? = some (.cells #[.int .i64 c, .int .i64 m] 23) := (hB.block _ (by simp)).trans (heap_new _ (by simp))
    have hW : Below w.heap.size w wr := (bl2 w _ _).trans (hB.mono (by simp; omega))
    have hz := hB0.size
    simp only [World.size_alloc] at hz
    obtain ⟨e0, e1, e2, -⟩ := box3 s1
    obtain ⟨p0, p1, -⟩ := box2 s2
    by_cases hlt : q < n
    · obtain ⟨b, o, rfl, c0, c1⟩ := (hp.later hW).cells q hlt
      have g0 := Ws.here c0
      have g1 := Ws.here c1
      have g2 := Ws.here e2
      have g3 := Ws.here p0
      have g4 := Ws.here p1
      have hlt' := hlt
      go_upto_region 4 with fail
      clear c0 c1 e0 e1 e2 p0 p1
      refine wp_region_ws wr.heap.size (by kernel_rfl) (by kernel_rfl) ?_
      cases hM : mts (at0 ps q) (at1 ps q) c m
      all_goals repeat (go_big_quiet_step ((go_at_call 30; exact Calls.in_ws (Nat.le_refl _) (meet_is _ _ _ _ _ hM _))))
      all_goals refine wpQuiet_nil ?_
      all_goals rintro _ ⟨u, rfl⟩
      all_goals have hu0 : Below wr.heap.size wr u.val := u.property
      all_goals have hu := hB0.trans (hu0.mono (by omega))
      all_goals generalize u.val = wu at hu hu0 ⊢
      all_goals clear u g0 g1 g2 g3 g4
      all_goals go_wp2
      · go_roundw
        case rel => exact ⟨q + 1, hlt', by go_num, hu, fun j hj => by
          by_cases hj2 : j < q
          · exact hno j hj2
          · obtain rfl : j = q := by omega
            exact hM⟩
        case measure => simp [intOf]; omega
      · go_ret
        exact ⟨ret_bool (mtsAny_yes (j := q) (by omega) hM).symm, hW.trans (hu0.mono hW.size)⟩
    · go_wp2
      go_ret
      exact ⟨ret_bool (mtsAny_no (fun j hj => hno j (by omega))).symm, hW⟩
theorem meetsUsed_is (a l c m : Int) (x : Option Addr) (n k : Nat) (ps : List (Int × Int)) (t : Bool) (h : mtsAny c m ps = t) (w : World) (hp : PS w x n ps) (hn : n ≤ 64) :
    Calls Try.prog 33 #[.agg #[.int .i64 a, .int .i64 l, .slice x n k], .agg #[.int .i64 c, .int .i64 m]] w fun e w' => e = .returned (.bool t) ∧ Below w.heap.size w w' := by
  subst h
  exact meetsUsed_any a l c m x n k ps w hp hn
end Go.Proofs.Ytbnkgecblaffeaa
