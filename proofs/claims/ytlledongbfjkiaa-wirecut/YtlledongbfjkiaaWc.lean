/- What Write of package wire comes to. -/
import Derived.Test.YtlledongbfjkiaaWb
namespace Go.Proofs.Ytlledongbfjkiaa
open Go.RowKit

/-- What Write answers. -/
def wrE (c : Cm) : Int := if okCm c = true then 0 else 3
def wrS (c : Cm) : List Int := if okCm c = true then cmdB c else []
theorem ret_two {s t : ByteArray} {a b : Int} (h : s = t) (h2 : a = b) : Ending.returned (.tuple #[.string s, .int .i64 a]) = .returned (.tuple #[.string t, .int .i64 b]) := by rw [h, h2]
theorem wr_no {c : Cm} (h : okCm c = false) : wrE c = 3 ∧ wrS c = [] := by unfold wrE wrS; rw [h]; exact ⟨rfl, rfl⟩
theorem wr_yes {c : Cm} (h : okCm c = true) : wrE c = 0 ∧ wrS c = cmdB c := by unfold wrE wrS; rw [h]; exact ⟨rfl, rfl⟩
theorem convert_ob {w : World} {base g n cap : Nat} {xs : List Int} (h : OB w base (.slice (some ⟨g, 0, none⟩) n cap) xs) (hn : xs.length = n) : (convert 49 9 (.slice (some ⟨g, 0, none⟩) n cap)).run Try.prog w = .ok (.string (strOfNums xs)) w :=
  run_convert_bytes_arg w 49 5 under_bytes under_u8 g 0 n cap xs hn (fun i hi => by rw [Nat.zero_add]; exact h.cell i (by omega)) 9 under_str

theorem be4_wrap (n : Int) : [n % 4294967296 / 16777216 % 256, n % 4294967296 / 65536 % 256, n % 4294967296 / 256 % 256, n % 4294967296 % 256] = be4 n := by
  unfold be4
  rw [show n % 4294967296 / 16777216 % 256 = n / 16777216 % 256 by omega, show n % 4294967296 / 65536 % 256 = n / 65536 % 256 by omega, show n % 4294967296 / 256 % 256 = n / 256 % 256 by omega, show n % 4294967296 % 256 = n % 256 by omega]
set_option maxRecDepth 20000 in
set_option maxHeartbeats 1600000 in
theorem write_any (c : Cm) (w : World) :
    Calls Try.prog 6 #[cmV c] w fun e w' => e = .returned (.tuple #[.string (strOfNums (wrS c)), .int .i64 (wrE c)]) ∧ Below w.heap.size w w' := by
  by_cases hout : c.op < 0 ∨ 255 < c.op
  · obtain ⟨e1, e2⟩ := wr_no (okCm_out hout)
    rw [e1, e2]
    by_cases h1 : c.op < 0
    · go_enter Try.func6, Try.ntmps6
      go_wp2
      go_ret2
      exact ⟨rfl, bl1 w _⟩
    · have h2 : 255 < c.op := by omega
      go_enter Try.func6, Try.ntmps6
      go_wp2
      go_ret2
      exact ⟨rfl, bl1 w _⟩
  · have h1 : 0 ≤ c.op := by omega
    have h2 : c.op ≤ 255 := by omega
    have hix := idx9 c
    go_enter Try.func6, Try.ntmps6
    go_wp2_with (go_at_call 20; refine (numbers_any c _).mono ?_; rintro e w1 ⟨rfl, hb1⟩)
    have hB0 : Below w.heap.size w w1 := (bl2 w _ _).trans (hb1.mono (by simp; omega))
    have hO0 : OB w1 w.heap.size (.slice (some ⟨w.heap.size + 1, 0, none⟩) 1 1) (cmdTo c 0) := by
      have e : cmdTo c 0 = [c.op] := by unfold cmdTo numsTo; rw [show c.op % 256 = c.op by omega]
      rw [e]
      exact (OB.one (w.alloc _) w.heap.size (w.heap.size + 1) c.op (by simp) (by omega)).later hb1
    clear hb1
    go_loopw [4, 22] (fun v i wr => ∃ k : Nat, k ≤ 9 ∧ i = .int .i64 k ∧ (∀ j, j < k → fits (c.num j) = true) ∧ OB wr w.heap.size v (cmdTo c k) ∧ Below w.heap.size w wr) (fun _ i _ => 9 - (intOf i).toNat)
    case atStart => exact ⟨0, by omega, rfl, fun j hj => by omega, hO0, hB0⟩
    case round =>
      obtain ⟨k, hk, rfl, hf, hO, hB⟩ := hrel
      have hcl : (cmdTo c k).length ≤ 37 := by rw [cmdTo_len]; omega
      by_cases hlt : k < 9
      · have hlt' := hlt
        have hixk := hix k hlt
        cases hfk : fits (c.num k)
        · by_cases h3 : c.num k < -2147483648
          · go_wp2
            go_ret2
            exact ⟨ret_two (by rw [(wr_no (okCm_no hlt' hfk)).2]; rfl) (wr_no (okCm_no hlt' hfk)).1.symm, hB⟩
          · have h4 : 2147483647 < c.num k := by
              have : ¬ (-2147483648 ≤ c.num k ∧ c.num k ≤ 2147483647) := fun h => by rw [fits_iff.2 h] at hfk; cases hfk
              omega
            go_wp2
            go_ret2
            exact ⟨ret_two (by rw [(wr_no (okCm_no hlt' hfk)).2]; rfl) (wr_no (okCm_no hlt' hfk)).1.symm, hB⟩
        · obtain ⟨h3, h4⟩ := fits_iff.1 hfk
          go_wp2_with (first | (go_at_call 21; refine (lowFirst_any _ _ (by omega) (by omega)).mono ?_; rintro e w2 ⟨v2, rfl, hO2, hB2⟩) | (go_at_call 22; refine Hid.out ?_))
          unfold Hid
          obtain ⟨g2, cap2, rfl, hg2⟩ := hO2.four
          refine (reverse_own hO2).mono ?_
          rintro e w3 ⟨rfl, hO3, hg3⟩
          have hB3 := below_grown (hB.trans (hB2.mono hB.size)) hg3 (fun j e => by have := hB.size; cases e; omega)
          have hOk := (hO.later hB2).kept hg3 (fun j e => by have := (hO.lt j e).2; omega)
          go_wp2_with (at_builtin; refine Hid.out ?_)
          unfold Hid
          refine wpList_append_ob rfl _ _ rfl w.heap.size _ _ rfl hOk g2 4 cap2 _ rfl rfl hO3.cells (by omega) hB3.size ?_
          intro v' w' hO' hg
          have hB' := below_grown hB3 hg (fun k e => (hOk.lt k e).1)
          go_wp2
          go_roundw
          case rel => exact ⟨k + 1, hlt', by go_num, fun j hj => by
            by_cases hj2 : j < k
            · exact hf j hj2
            · obtain rfl : j = k := by omega
              exact hfk, by rw [cmdTo_next, ← be4_wrap]; exact hO', hB'⟩
          case measure => simp [intOf]; omega
      · obtain rfl : k = 9 := by omega
        obtain ⟨g, cap, -, rfl, -⟩ := hO.shape (by simp [cmdTo])
        have hcv := convert_ob hO rfl
        go_wp2
        go_ret2
        exact ⟨ret_two (by rw [(wr_yes (okCm_yes h1 h2 hf)).2]; rfl) (wr_yes (okCm_yes h1 h2 hf)).1.symm, hB⟩
end Go.Proofs.Ytlledongbfjkiaa
