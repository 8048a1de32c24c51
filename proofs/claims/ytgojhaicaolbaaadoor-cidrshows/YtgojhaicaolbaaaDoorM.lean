/- What number of package parcelwayref comes to. -/
import Derived.Test.YtgojhaicaolbaaaDoorJ
namespace Go.Proofs.YtgojhaicaolbaaaDoor
open Go.RowKit

def numFrom (m : Int) : Nat → Int → List UInt8 → Int × List UInt8
  | 0, n, _ => (n, [])
  | _ + 1, n, [] => (n, [])
  | k + 1, n, c :: r => if (c.toNat : Int) = m then (n, r) else numFrom m k (10 * n + ((c.toNat : Int) - 48) % 256) r

def bd : Nat → Int
  | 0 => 0
  | 1 => 255
  | 2 => 2805
  | 3 => 28305
  | 4 => 283305
  | 5 => 2833305
  | _ => 28333305
theorem bd_step (k : Nat) (h : k < 6) : 10 * bd k + 255 ≤ bd (k + 1) := by
  match k, h with
  | 0, _ => decide
  | 1, _ => decide
  | 2, _ => decide
  | 3, _ => decide
  | 4, _ => decide
  | 5, _ => decide
theorem bd_le (k : Nat) : bd k ≤ 28333305 := by
  match k with
  | 0 => decide
  | 1 => decide
  | 2 => decide
  | 3 => decide
  | 4 => decide
  | 5 => decide
  | n + 6 => exact Int.le_refl _

theorem drop_at (s : ByteArray) (k : Nat) (h : k < s.size) : s.data.toList.drop k = s[k] :: s.data.toList.drop (k + 1) := by
  rw [List.drop_eq_getElem_cons (by simpa using h)]
  rfl

theorem ext_drop (s : ByteArray) (k : Nat) : s.extract k s.size = ⟨(s.data.toList.drop k).toArray⟩ := by
  have h := Lib.extract_data s k s.size
  have e : (s.extract k s.size).data.toList = s.data.toList.drop k := by
    rw [h]
    apply List.take_of_length_le
    rw [List.length_drop, size_len]
    omega
  cases hx : s.extract k s.size with
  | mk d =>
    rw [hx] at e
    rw [← e]
theorem ret_int_str {a b : ByteArray} {n : Int} (h : a = b) : Ending.returned (.tuple #[.int .i64 n, .string a]) = .returned (.tuple #[.int .i64 n, .string b]) := by rw [h]

set_option maxHeartbeats 800000 in
theorem numRef_any (s : ByteArray) (m : Int) (w : World) (_hs : s.size ≤ maxLen) :
    Calls Tryd.prog 34 #[.string s, .int .u8 m] w fun e w' => e = .returned (.tuple #[.int .i64 (numFrom m 6 0 s.data.toList).1, .string ⟨(numFrom m 6 0 s.data.toList).2.toArray⟩]) ∧ Below w.heap.size w w' := by
  unfold maxLen at _hs
  generalize hR : numFrom m 6 0 s.data.toList = R
  have HR : Hid (numFrom m 6 0 s.data.toList = R) := hR
  clear hR
  go_enter Tryd.func34, Tryd.ntmps34
  go_wp2
  go_loop [6, 7] (fun n i => ∃ (k : Nat) (N : Int), k ≤ s.size ∧ k ≤ 6 ∧ i = .int .i64 k ∧ n = .int .i64 N ∧ 0 ≤ N ∧ N ≤ bd k ∧ Hid (numFrom m (6 - k) N (s.data.toList.drop k) = R)) (fun _ i => 6 - (intOf i).toNat)
  case atStart => exact ⟨0, 0, Nat.zero_le _, by omega, rfl, rfl, by omega, by decide, HR⟩
  case round =>
    obtain ⟨k, N, hk, hk6, rfl, rfl, n0, n1, HN⟩ := hrel
    have hbl := bd_le k
    by_cases hlt : k < s.size
    · by_cases h6 : k < 6
      · have hstep := bd_step k h6
        have hdr := drop_at s k hlt
        have e6 : 6 - k = (6 - (k + 1)) + 1 := by omega
        by_cases hc : (s[k].toNat : Int) = m
        · have HF : Hid (R = (N, s.data.toList.drop (k + 1))) := by
            have := HN.out
            rw [hdr, e6, numFrom, if_pos hc] at this
            exact this.symm
          clear hdr e6 hstep
          have hk1 : (k : Int) + 1 ≤ (s.size : Int) := by omega
          go_wp2
          go_quiet (fail)
          go_wp2
          go_ret2
          rw [HF.out]
          exact ⟨ret_int_str (ext_drop s (k + 1)), below_drewN (Below.refl _ _) _⟩
        · have HF : Hid (numFrom m (6 - (k + 1)) (10 * N + ((s[k].toNat : Int) - 48) % 256) (s.data.toList.drop (k + 1)) = R) := by
            have := HN.out
            rw [hdr, e6, numFrom, if_neg hc] at this
            exact this
          clear hdr e6
          have hr0 : 0 ≤ ((s[k].toNat : Int) - 48) % 256 := Int.emod_nonneg _ (by decide)
          have hr1 : ((s[k].toNat : Int) - 48) % 256 < 256 := Int.emod_lt_of_pos _ (by decide)
          go_wp2
          go_round
          case rel =>
            exact ⟨k + 1, _, by omega, by omega, by go_num, rfl, by omega, by omega, HF⟩
          case measure => simp [intOf]; omega
      · have HF : Hid (R = (N, [])) := by
          have := HN.out
          obtain rfl : k = 6 := by omega
          simp only [Nat.sub_self, numFrom] at this
          exact this.symm
        go_wp2
        go_ret2
        rw [HF.out]
        exact ⟨rfl, Below.refl _ _⟩
    · have HF : Hid (R = (N, [])) := by
        have := HN.out
        rw [List.drop_eq_nil_of_le (by simp; omega)] at this
        rw [← this]
        cases 6 - k <;> rfl
      go_wp2
      go_ret2
      rw [HF.out]
      exact ⟨rfl, Below.refl _ _⟩
end Go.Proofs.YtgojhaicaolbaaaDoor
