/- What CmdFrom of package parcelwayref comes to. -/
import Derived.Test.YtlledongbfjkiaaWd
namespace Go.Proofs.Ytlledongbfjkiaa
open Go.RowKit

def pn (xs : List Int) (i j : Nat) : Int := if j < i then readN xs j else 0
/-- The first i numbers are read. -/
def partC (xs : List Int) (i : Nat) : Cm := ⟨byt xs 0, pn xs i 0, pn xs i 1, pn xs i 2, pn xs i 3, pn xs i 4, pn xs i 5, pn xs i 6, pn xs i 7, pn xs i 8⟩
theorem partC_num (xs : List Int) (i j : Nat) (hj : j < 9) : (partC xs i).num j = pn xs i j := by
  rcases j with _ | _ | _ | _ | _ | _ | _ | _ | _ | j
  all_goals first | rfl | omega
theorem partC_9 (xs : List Int) : partC xs 9 = readC xs := by
  unfold partC readC pn
  simp
theorem At9.put {w : World} {b : Nat} {xs : List Int} {k : Nat} (h : At9 w b (partC xs k)) (hk : k < 9) : At9 (w.setCell ⟨b, k, none⟩ (.int .i64 (readN xs k))) b (partC xs (k + 1)) := by
  have h2 := heap_setCell_same w b k _ 50 (.int .i64 (readN xs k)) h
  unfold At9
  rw [h2]
  clear h h2
  rcases k with _ | _ | _ | _ | _ | _ | _ | _ | _ | k
  case succ.succ.succ.succ.succ.succ.succ.succ.succ => omega
  all_goals simp [partC, pn]
theorem At9.frozen {w : World} {b : Nat} {c : Cm} (h : At9 w b c) (j : Nat) : w.frozen? ⟨b, j, none⟩ = false := (box_cells h).2 j
theorem readN_pre (xs : List Int) (k : Nat) : readN xs k = sgn (pre (xs.drop (4 * k + 1)) 4) := by
  have e : ∀ i, byt (xs.drop (4 * k + 1)) i = byt xs (4 * k + 1 + i) := fun i => by
    unfold byt
    rw [List.getD_eq_getElem?_getD, List.getD_eq_getElem?_getD, List.getElem?_drop]
  rw [pre_4, e, e, e, e]
  rfl
theorem cell_set_ne {w : World} {b o b' o' : Nat} {v : Value} (h : b ≠ b') : (w.setCell ⟨b', o', none⟩ v).cell? ⟨b, o, none⟩ = w.cell? ⟨b, o, none⟩ := World.cell?_of_block (heap_setCell_other _ _ _ _ h)
theorem cell_drew {w : World} {p : Addr} : w.drew.cell? p = w.cell? p := rfl
theorem byt_drop (xs : List Int) (a i : Nat) : byt (xs.drop a) i = byt xs (a + i) := by
  unfold byt
  rw [List.getD_eq_getElem?_getD, List.getD_eq_getElem?_getD, List.getElem?_drop]
theorem isB_drop {xs : List Int} (h : isB xs) (k : Nat) : isB (xs.drop k) := fun x hx => h x (List.mem_of_mem_drop hx)

set_option maxRecDepth 20000 in
set_option maxHeartbeats 1600000 in
theorem cmdFrom_no (s : ByteArray) (w : World) (hs : s.size ≠ 37) :
    Calls Try.prog 10 #[.string s] w fun e w' => e = .returned (.tuple #[cmV zeroC, .bool false]) ∧ Below w.heap.size w w' := by
  have hb : ((s.size : Int) != 37) = true := by simp; omega
  go_enter Try.func10, Try.ntmps10
  go_wp2
  exact bodyPost_ret (v := .tuple #[cmV zeroC, .bool false]) (by simp [results, Try.results10, go_sem, zeroC]) rfl ⟨rfl, bl1 w _⟩

set_option maxRecDepth 20000 in
set_option maxHeartbeats 800000 in
theorem cmdFrom_yes (s : ByteArray) (w : World) (hs : s.size = 37) :
    Calls Try.prog 10 #[.string s] w fun e w' => e = .returned (.tuple #[cmV (readC (bs s)), .bool true]) ∧ Below w.heap.size w w' := by
  go_enter Try.func10, Try.ntmps10
  go_wp2
  have hB0 := bl2 w (.cells #[.int .i64 0, .int .i64 0, .int .i64 0, .int .i64 0, .int .i64 0, .int .i64 0, .int .i64 0, .int .i64 0, .int .i64 0, .int .i64 0] 27) (.cells #[.int .i64 0, .int .i64 0, .int .i64 0, .int .i64 0, .int .i64 0, .int .i64 0, .int .i64 0, .int .i64 0, .int .i64 0] 50)
  have hZ0 : ((w.alloc (.cells #[.int .i64 0, .int .i64 0, .int .i64 0, .int .i64 0, .int .i64 0, .int .i64 0, .int .i64 0, .int .i64 0, .int .i64 0, .int .i64 0] 27)).alloc (.cells #[.int .i64 0, .int .i64 0, .int .i64 0, .int .i64 0, .int .i64 0, .int .i64 0, .int .i64 0, .int .i64 0, .int .i64 0] 50)).heap[w.heap.size]? = some (.cells #[.int .i64 0, .int .i64 0, .int .i64 0, .int .i64 0, .int .i64 0, .int .i64 0, .int .i64 0, .int .i64 0, .int .i64 0, .int .i64 0] 27) := heap_old _ (heap_new _ rfl)
  have h90 : At9 ((w.alloc (.cells #[.int .i64 0, .int .i64 0, .int .i64 0, .int .i64 0, .int .i64 0, .int .i64 0, .int .i64 0, .int .i64 0, .int .i64 0, .int .i64 0] 27)).alloc (.cells #[.int .i64 0, .int .i64 0, .int .i64 0, .int .i64 0, .int .i64 0, .int .i64 0, .int .i64 0, .int .i64 0, .int .i64 0] 50)) (w.heap.size + 1) (partC (bs s) 0) := heap_new _ (by simp)
  generalize ((w.alloc (.cells #[.int .i64 0, .int .i64 0, .int .i64 0, .int .i64 0, .int .i64 0, .int .i64 0, .int .i64 0, .int .i64 0, .int .i64 0, .int .i64 0] 27)).alloc (.cells #[.int .i64 0, .int .i64 0, .int .i64 0, .int .i64 0, .int .i64 0, .int .i64 0, .int .i64 0, .int .i64 0, .int .i64 0] 50)) = w0 at hB0 hZ0 h90 ⊢
  go_loopw [5] (fun i wr => ∃ k : Nat, k ≤ 9 ∧ i = .int .i64 k ∧ At9 wr (w.heap.size + 1) (partC (bs s) k) ∧ Below w.heap.size w wr ∧ wr.heap[w.heap.size]? = some (.cells #[.int .i64 0, .int .i64 0, .int .i64 0, .int .i64 0, .int .i64 0, .int .i64 0, .int .i64 0, .int .i64 0, .int .i64 0, .int .i64 0] 27)) (fun i _ => 9 - (intOf i).toNat)
  case atStart => exact ⟨0, by omega, rfl, h90, hB0, hZ0⟩
  case round =>
    obtain ⟨k, hk, rfl, h9, hB, hZ⟩ := hrel
    by_cases hlt : k < 9
    · have hlt' := hlt
      have hc := h9.cell k hlt
      have hf := h9.frozen k
      rw [partC_num _ _ _ hlt] at hc
      have hpx : isB ((bs s).drop (4 * k + 1)) := isB_drop (isB_bs s) _
      have hdk : decide ((k : Int) < 9) = true := by simp; omega
      go_wp2
      go_loop [6, 7] (fun n i => ∃ j : Nat, j ≤ 4 ∧ i = .int .i64 (j + 1 : Nat) ∧ n = .int .i64 (pre ((bs s).drop (4 * k + 1)) j)) (fun _ i => 5 - (intOf i).toNat)
      case atStart => exact ⟨0, by omega, rfl, rfl⟩
      case round =>
        obtain ⟨j, hj, rfl, rfl⟩ := hrel
        by_cases hlt2 : j < 4
        · have hr := pre_lt hpx j hlt2
          have hks : 4 * k + (j + 1) < s.size := by omega
          have hbt := bt_get hks
          have hb := isB_byt (isB_bs s) (4 * k + (j + 1))
          rw [hbt] at hb
          have hlt3 := hlt2
          have hst : Hid (256 * pre ((bs s).drop (4 * k + 1)) j + (s[4 * k + (j + 1)].toNat : Int) = pre ((bs s).drop (4 * k + 1)) (j + 1)) := by
            unfold Hid
            rw [← hbt]
            show _ = 256 * pre ((bs s).drop (4 * k + 1)) j + byt ((bs s).drop (4 * k + 1)) j
            rw [byt_drop, show 4 * k + 1 + j = 4 * k + (j + 1) by omega]
          clear hbt
          go_wp2
          go_round
          case rel => exact ⟨j + 1, hlt3, by go_num, by rw [← hst.out]⟩
          case measure => simp [intOf]; omega
        · obtain rfl : j = 4 := by omega
          have hr := (pre_range hpx).2.2.2.2
          have hrn : Hid (readN (bs s) k = sgn (pre ((bs s).drop (4 * k + 1)) 4)) := readN_pre _ _
          have hput := h9.put hlt
          rw [hrn.out] at hput
          by_cases hbig : 2147483648 ≤ pre ((bs s).drop (4 * k + 1)) 4
          · unfold sgn at hput
            rw [if_pos hbig] at hput
            go_wp2
            go_roundw
            case rel => exact ⟨k + 1, hlt', by go_num, hput, hB.setCell (by simp) _, by rw [heap_setCell_other _ _ _ _ (by simp)]; exact hZ⟩
            case measure => simp [intOf]; omega
          · unfold sgn at hput
            rw [if_neg hbig] at hput
            go_wp2
            go_roundw
            case rel => exact ⟨k + 1, hlt', by go_num, hput, hB.setCell (by simp) _, by rw [heap_setCell_other _ _ _ _ (by simp)]; exact hZ⟩
            case measure => simp [intOf]; omega
    · obtain rfl : k = 9 := by omega
      rw [partC_9] at h9
      obtain ⟨hc, hf⟩ := box_cells h9
      obtain ⟨hc2, hf2⟩ := box_cells hZ
      have hs0 : 0 < s.size := by omega
      have hbt : Hid (byt (bs s) 0 = (s[0].toNat : Int)) := bt_get hs0
      have hwr : Hid (IntKind.i64.wrap (s[0].toNat : Int) = (s[0].toNat : Int)) := by
        unfold Hid
        have := s[0].toNat_lt
        rw [IntKind.wrap_i64]
        omega
      have k0 : wr.cell? ⟨w.heap.size + 1, 0, none⟩ = some (.int .i64 (readC (bs s)).a) := hc 0
      have k1 : wr.cell? ⟨w.heap.size + 1, 1, none⟩ = some (.int .i64 (readC (bs s)).b) := hc 1
      have k2 : wr.cell? ⟨w.heap.size + 1, 2, none⟩ = some (.int .i64 (readC (bs s)).c) := hc 2
      have k3 : wr.cell? ⟨w.heap.size + 1, 3, none⟩ = some (.int .i64 (readC (bs s)).p) := hc 3
      have k4 : wr.cell? ⟨w.heap.size + 1, 4, none⟩ = some (.int .i64 (readC (bs s)).l) := hc 4
      have k5 : wr.cell? ⟨w.heap.size + 1, 5, none⟩ = some (.int .i64 (readC (bs s)).mn) := hc 5
      have k6 : wr.cell? ⟨w.heap.size + 1, 6, none⟩ = some (.int .i64 (readC (bs s)).mx) := hc 6
      have k7 : wr.cell? ⟨w.heap.size + 1, 7, none⟩ = some (.int .i64 (readC (bs s)).us) := hc 7
      have k8 : wr.cell? ⟨w.heap.size + 1, 8, none⟩ = some (.int .i64 (readC (bs s)).co) := hc 8
      clear hc hf
      go_wp2
      go_region_held3 (fun w' => w'.cell? ⟨w.heap.size + 1, 0, none⟩ = some (.int .i64 (readC (bs s)).a) ∧ w'.cell? ⟨w.heap.size + 1, 1, none⟩ = some (.int .i64 (readC (bs s)).b) ∧ w'.cell? ⟨w.heap.size + 1, 2, none⟩ = some (.int .i64 (readC (bs s)).c) ∧ w'.cell? ⟨w.heap.size + 1, 3, none⟩ = some (.int .i64 (readC (bs s)).p) ∧ w'.cell? ⟨w.heap.size + 1, 4, none⟩ = some (.int .i64 (readC (bs s)).l) ∧ w'.cell? ⟨w.heap.size + 1, 5, none⟩ = some (.int .i64 (readC (bs s)).mn) ∧ w'.cell? ⟨w.heap.size + 1, 6, none⟩ = some (.int .i64 (readC (bs s)).mx) ∧ w'.cell? ⟨w.heap.size + 1, 7, none⟩ = some (.int .i64 (readC (bs s)).us) ∧ w'.cell? ⟨w.heap.size + 1, 8, none⟩ = some (.int .i64 (readC (bs s)).co)) (first | (go_keep; done) | (refine ⟨?_, ?_, ?_, ?_, ?_, ?_, ?_, ?_, ?_⟩ <;> (show World.cell? _ _ = _; (try rw [cell_drew]); (repeat rw [cell_set_ne (by omega)]); assumption))) (fail)
      go_wp2
      refine bodyPost_ret (v := .tuple #[.agg #[.int .i64 (IntKind.i64.wrap (s[0].toNat : Int)), .int .i64 (readC (bs s)).a, .int .i64 (readC (bs s)).b, .int .i64 (readC (bs s)).c, .int .i64 (readC (bs s)).p, .int .i64 (readC (bs s)).l, .int .i64 (readC (bs s)).mn, .int .i64 (readC (bs s)).mx, .int .i64 (readC (bs s)).us, .int .i64 (readC (bs s)).co], .bool true]) (by simp [results, Try.results10, go_sem, hc2]) rfl ⟨?_, ?_⟩
      · show Ending.returned _ = Ending.returned (.tuple #[.agg #[.int .i64 (byt (bs s) 0), _, _, _, _, _, _, _, _, _], _])
        rw [hwr.out, hbt.out]
      · refine Below.drew ?_
        (repeat refine Below.setCell ?_ (by simp) _)
        exact hB
end Go.Proofs.Ytlledongbfjkiaa
