/- What number, command and Read of package wire, and CmdFrom of package parcelwayref, come to. -/
import Derived.Test.YtlledongbfjkiaaWe
import Derived.Laws.BitsAllLaws
namespace Go.Proofs.Ytlledongbfjkiaa
open Go.RowKit

theorem bt_get {s : ByteArray} {k : Nat} (hk : k < s.size) : byt (bs s) k = (s[k].toNat : Int) := by
  unfold byt bs
  have hk' : k < s.data.toList.length := by rw [Array.length_toList]; exact hk
  rw [List.getD_eq_getElem?_getD, List.getElem?_map, List.getElem?_eq_getElem hk']
  rfl
/-- The number of the first k bytes. -/
def pre (xs : List Int) : Nat → Int
  | 0 => 0
  | k + 1 => 256 * pre xs k + byt xs k
theorem pre_range {xs : List Int} (h : isB xs) : (0 ≤ pre xs 0 ∧ pre xs 0 < 1) ∧ (0 ≤ pre xs 1 ∧ pre xs 1 < 256) ∧ (0 ≤ pre xs 2 ∧ pre xs 2 < 65536) ∧ (0 ≤ pre xs 3 ∧ pre xs 3 < 16777216) ∧ (0 ≤ pre xs 4 ∧ pre xs 4 < 4294967296) := by
  have b0 := isB_byt h 0
  have b1 := isB_byt h 1
  have b2 := isB_byt h 2
  have b3 := isB_byt h 3
  simp only [pre]
  omega
theorem pre_4 (xs : List Int) : pre xs 4 = val4 (byt xs 0) (byt xs 1) (byt xs 2) (byt xs 3) := by
  unfold val4
  simp only [pre]
  omega
theorem pre_lt {xs : List Int} (h : isB xs) (k : Nat) (hk : k < 4) : 0 ≤ pre xs k ∧ pre xs k < 16777216 := by
  obtain ⟨h0, h1, h2, h3, -⟩ := pre_range h
  rcases k with _ | _ | _ | _ | k
  · omega
  · simp only [Nat.zero_add]; omega
  · simp only [Nat.zero_add, Nat.reduceAdd]; omega
  · simp only [Nat.zero_add, Nat.reduceAdd]; omega
  · omega
theorem or8 {p b : Int} (hp0 : 0 ≤ p) (hp : p < 16777216) (hb0 : 0 ≤ b) (hb : b < 256) : bits .or .u32 (p * 256) b = 256 * p + b := by
  obtain ⟨x, rfl⟩ := Int.eq_ofNat_of_zero_le hp0
  obtain ⟨y, rfl⟩ := Int.eq_ofNat_of_zero_le hb0
  rw [show ((x : Int) * 256) = ((x * 256 : Nat) : Int) by omega, u32_or_nat _ _ (by omega) (by omega)]
  have h : x * 256 ||| y = x * 256 + y := by
    rw [show x * 256 = x <<< 8 by simp [Nat.shiftLeft_eq]]
    exact (Nat.shiftLeft_add_eq_or_of_lt (show y < 2 ^ 8 by omega) x).symm
  rw [h]
  omega
theorem wrap_sgn {x : Int} (h0 : 0 ≤ x) (h1 : x < 4294967296) : wrap64 (wrap32 x) = sgn x := by
  unfold wrap64 wrap32 sgn
  split <;> omega
set_option maxRecDepth 20000 in
set_option maxHeartbeats 800000 in
theorem number_any (s : ByteArray) (w : World) (hs : 4 ≤ s.size) :
    Calls Try.prog 25 #[.string s] w fun e w' => e = .returned (.int .i64 (sgn (pre (bs s) 4))) ∧ w' = w := by
  go_enter Try.func25, Try.ntmps25
  go_wp2
  go_loop [3, 5] (fun n i => ∃ k : Nat, k ≤ 4 ∧ i = .int .i64 k ∧ n = .int .u32 (pre (bs s) k)) (fun _ i => 4 - (intOf i).toNat)
  case atStart => exact ⟨0, by omega, rfl, rfl⟩
  case round =>
    obtain ⟨k, hk, rfl, rfl⟩ := hrel
    by_cases hlt : k < 4
    · have hr := pre_lt (isB_bs s) k hlt
      have hks : k < s.size := by omega
      have hlt' := hlt
      have hbt := bt_get hks
      have hb := isB_byt (isB_bs s) k
      rw [hbt] at hb
      go_wp2
      go_round
      case rel => exact ⟨k + 1, hlt', by go_num, by rw [or8 hr.1 hr.2 hb.1 (by omega), ← hbt]; rfl⟩
      case measure => simp [intOf]; omega
    · obtain rfl : k = 4 := by omega
      have hr := (pre_range (isB_bs s)).2.2.2.2
      go_wp2
      go_ret
      exact ⟨ret_int (wrap_sgn hr.1 hr.2), rfl⟩

theorem bs_extract (s : ByteArray) (a b : Nat) : bs (s.extract a b) = ((bs s).drop a).take (b - a) := by
  obtain ⟨⟨l⟩⟩ := s
  have h := ByteArray.extract_mk l a b
  unfold bs
  rw [show (ByteArray.mk (Array.mk l)).extract a b = ByteArray.mk ((l.drop a).take (b - a)).toArray from h]
  simp [List.map_take, List.map_drop]
theorem byt_cut (xs : List Int) (a n i : Nat) (h : i < n) : byt ((xs.drop a).take n) i = byt xs (a + i) := by
  unfold byt
  rw [List.getD_eq_getElem?_getD, List.getD_eq_getElem?_getD, List.getElem?_take_of_lt h, List.getElem?_drop]
theorem number_at (s : ByteArray) (k : Nat) (hs : s.size = 37) (hk : k < 9) (a b : Nat) (ha : a = 4 * k + 1) (hb : b = 37) (w : World) :
    Calls Try.prog 25 #[.string (s.extract a b)] w fun e w' => e = .returned (.int .i64 (readN (bs s) k)) ∧ w' = w := by
  subst ha hb
  have hl := bs_len (s.extract (4 * k + 1) 37)
  rw [bs_extract, List.length_take, List.length_drop, bs_len, hs] at hl
  have h := number_any (s.extract (4 * k + 1) 37) w (by omega)
  rw [pre_4, bs_extract, byt_cut _ _ _ _ (by omega), byt_cut _ _ _ _ (by omega), byt_cut _ _ _ _ (by omega), byt_cut _ _ _ _ (by omega)] at h
  exact h

set_option maxRecDepth 20000 in
set_option maxHeartbeats 800000 in
theorem command_any (c : Cm) (w : World) :
    Calls Try.prog 26 #[.int .i64 c.op, nmV c] w fun e w' => e = .returned (cmV c) ∧ Below w.heap.size w w' := by
  go_enter Try.func26, Try.ntmps26
  go_wp2
  exact bodyPost_ret (v := cmV c) (by simp [results, Try.results26, go_sem]) rfl ⟨rfl, bl2 w _ _⟩

theorem box_cells {V : World} {b : Nat} {cs : Array Value} {t : TypeId} (h : V.heap[b]? = some (.cells cs t)) : (∀ j, V.cell? ⟨b, j, none⟩ = cs[j]?) ∧ (∀ j, V.frozen? ⟨b, j, none⟩ = false) := by
  refine ⟨fun j => ?_, fun j => ?_⟩
  · simp [World.cell?, h]
  · simp [World.frozen?, h]
theorem below_drew_in {n : Nat} {V w2 : World} (hb : Below n V.drew w2) : Below n V w2 := ⟨hb.os, hb.tape, hb.output, hb.size, hb.block⟩
theorem command_at (op a b c p l mn mx us co : Int) (w : World) :
    Calls Try.prog 26 #[.int .i64 op, .agg #[.int .i64 a, .int .i64 b, .int .i64 c, .int .i64 p, .int .i64 l, .int .i64 mn, .int .i64 mx, .int .i64 us, .int .i64 co]] w fun e w' => e = .returned (.agg #[.int .i64 op, .int .i64 a, .int .i64 b, .int .i64 c, .int .i64 p, .int .i64 l, .int .i64 mn, .int .i64 mx, .int .i64 us, .int .i64 co]) ∧ Below w.heap.size w w' :=
  command_any ⟨op, a, b, c, p, l, mn, mx, us, co⟩ w
def zeroC : Cm := ⟨0, 0, 0, 0, 0, 0, 0, 0, 0, 0⟩
set_option maxRecDepth 20000 in
set_option maxHeartbeats 1600000 in
theorem read_no (s : ByteArray) (w : World) (hs : s.size ≠ 37) :
    Calls Try.prog 9 #[.string s] w fun e w' => e = .returned (.tuple #[cmV zeroC, .int .i64 1]) ∧ Below w.heap.size w w' := by
  have hb : ((s.size : Int) != 37) = true := by simp; omega
  go_enter Try.func9, Try.ntmps9
  go_wp2
  exact bodyPost_ret (v := .tuple #[cmV zeroC, .int .i64 1]) (by simp [results, Try.results9, go_sem, zeroC]) rfl ⟨rfl, bl1 w _⟩
set_option maxRecDepth 20000 in
set_option maxHeartbeats 1600000 in
theorem read_yes (s : ByteArray) (w : World) (hs : s.size = 37) :
    Calls Try.prog 9 #[.string s] w fun e w' => e = .returned (.tuple #[cmV (readC (bs s)), .int .i64 0]) ∧ Below w.heap.size w w' := by
  have hnum := number_at s
  go_enter Try.func9, Try.ntmps9
  go_wp2
  refine wp_loop_rounds 10 ?_
  rw [rounds_succ]
  go_wp2_with (go_at_call 25; refine (hnum 0 hs (by omega) _ _ rfl rfl _).mono ?_; rintro e w1 ⟨rfl, rfl⟩)
  rw [rounds_succ]
  go_wp2_with (go_at_call 25; refine (hnum 1 hs (by omega) _ _ rfl rfl _).mono ?_; rintro e w1 ⟨rfl, rfl⟩)
  rw [rounds_succ]
  go_wp2_with (go_at_call 25; refine (hnum 2 hs (by omega) _ _ rfl rfl _).mono ?_; rintro e w1 ⟨rfl, rfl⟩)
  rw [rounds_succ]
  go_wp2_with (go_at_call 25; refine (hnum 3 hs (by omega) _ _ rfl rfl _).mono ?_; rintro e w1 ⟨rfl, rfl⟩)
  rw [rounds_succ]
  go_wp2_with (go_at_call 25; refine (hnum 4 hs (by omega) _ _ rfl rfl _).mono ?_; rintro e w1 ⟨rfl, rfl⟩)
  rw [rounds_succ]
  go_wp2_with (go_at_call 25; refine (hnum 5 hs (by omega) _ _ rfl rfl _).mono ?_; rintro e w1 ⟨rfl, rfl⟩)
  rw [rounds_succ]
  go_wp2_with (go_at_call 25; refine (hnum 6 hs (by omega) _ _ rfl rfl _).mono ?_; rintro e w1 ⟨rfl, rfl⟩)
  rw [rounds_succ]
  go_wp2_with (go_at_call 25; refine (hnum 7 hs (by omega) _ _ rfl rfl _).mono ?_; rintro e w1 ⟨rfl, rfl⟩)
  rw [rounds_succ]
  go_wp2_with (go_at_call 25; refine (hnum 8 hs (by omega) _ _ rfl rfl _).mono ?_; rintro e w1 ⟨rfl, rfl⟩)
  rw [rounds_succ]
  go_wp2
  have hbt : Hid (byt (bs s) 0 = (s[0].toNat : Int)) := bt_get (s := s) (k := 0) (by omega)
  have hwr : Hid (IntKind.i64.wrap (s[0].toNat : Int) = (s[0].toNat : Int)) := by
    unfold Hid
    have := s[0].toNat_lt
    rw [IntKind.wrap_i64]
    omega
  go_region_with (go_at_call 26; refine (command_at _ _ _ _ _ _ _ _ _ _ _).mono ?_; rintro e w2 ⟨rfl, hb2⟩; obtain ⟨hc, hf⟩ := box_cells ((hb2.block w.heap.size (by simp; omega)).trans (heap_old _ (heap_new _ rfl))))
  all_goals go_wp2
  all_goals refine bodyPost_ret (v := .tuple #[.agg #[.int .i64 (IntKind.i64.wrap (s[0].toNat : Int)), .int .i64 (readN (bs s) 0), .int .i64 (readN (bs s) 1), .int .i64 (readN (bs s) 2), .int .i64 (readN (bs s) 3), .int .i64 (readN (bs s) 4), .int .i64 (readN (bs s) 5), .int .i64 (readN (bs s) 6), .int .i64 (readN (bs s) 7), .int .i64 (readN (bs s) 8)], .int .i64 0]) (by simp [results, Try.results9, go_sem, hc]) rfl ⟨?_, ?_⟩
  all_goals first | (show Ending.returned _ = Ending.returned (.tuple #[.agg #[.int .i64 (byt (bs s) 0), _, _, _, _, _, _, _, _, _], _]); rw [hwr.out, hbt.out]; rfl) | ((repeat refine Below.setCell ?_ (by simp) _); exact (bl2 w _ _).trans ((below_drew_in hb2).mono (by simp; omega)))
end Go.Proofs.Ytlledongbfjkiaa
