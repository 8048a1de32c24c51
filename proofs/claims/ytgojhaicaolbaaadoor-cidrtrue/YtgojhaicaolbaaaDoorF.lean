/- What Show and Read of package cidr come to. -/
import Derived.Test.YtgojhaicaolbaaaDoorE
import Derived.Test.YtgojhaicaolbaaaDoorShelf
namespace Go.Proofs.YtgojhaicaolbaaaDoor
open Go.RowKit

/-- What the library's functions read: a table, an error, a number. -/
structure Env (w : World) : Prop where
  tab : Lib.TabIs Tryd.prog w "internal/strconv.uint64pow10" .u64 Lib.pow10Tab
  err : ∃ te pe, w.cell? ⟨2, 0, none⟩ = some (.iface te pe)
  mx : ∃ m, w.cell? ⟨0, 0, none⟩ = some (.int .i64 m)
  size : 3 ≤ w.heap.size

theorem gTab : Tryd.prog.globalNamed "internal/strconv.uint64pow10" = some 1 := by kernel_rfl

theorem Env.below {w w' : World} (h : Env w) {n : Nat} (hn : 3 ≤ n) (hb : Below n w w') : Env w' where
  tab := var?_below hb gTab (by omega) h.tab
  err := by obtain ⟨te, pe, e⟩ := h.err; exact ⟨te, pe, (hb.cell (p := ⟨2, 0, none⟩) (by show 2 < n; omega)).trans e⟩
  mx := by obtain ⟨m, e⟩ := h.mx; exact ⟨m, (hb.cell (p := ⟨0, 0, none⟩) (by show 0 < n; omega)).trans e⟩
  size := Nat.le_trans h.size hb.size

theorem itoa_any (n : Int) (w : World) (h : Env w) (h0 : 0 ≤ n) (h1 : n ≤ 65535) :
    Calls Tryd.prog 30 #[.int .i64 n] w fun e w' => e = .returned (.string ⟨(Lib.decDigits n.toNat).toArray⟩) ∧ Below w.heap.size w w' := by
  refine (Tryd.strconv_Itoa n (by omega) (by omega) w h.tab).mono ?_
  rintro e w' ⟨rfl, k, os, rfl⟩
  refine ⟨?_, rfl, rfl, rfl, ?_, fun j hj => ?_⟩
  · unfold Lib.itoa
    rw [if_neg (by omega)]
  · show w.heap.size ≤ (w.heap ++ os).size
    simp
  · show (w.heap ++ os)[j]? = w.heap[j]?
    rw [Array.getElem?_append_left hj]

theorem dd1 (n : Nat) (h : n < 10) : (Lib.decDigits n).length ≤ 1 := by rw [Lib.decDigits, dif_pos h]; simp
theorem dd2 (n : Nat) (h : n < 100) : (Lib.decDigits n).length ≤ 2 := by
  rw [Lib.decDigits]
  split
  · simp
  · have := dd1 (n / 10) (by omega)
    simp
    omega
theorem dd3 (n : Nat) (h : n < 1000) : (Lib.decDigits n).length ≤ 3 := by
  rw [Lib.decDigits]
  split
  · simp
  · have := dd2 (n / 10) (by omega)
    simp
    omega

set_option maxHeartbeats 800000 in
theorem show_bad (a l : Int) (w : World) (h : rt a l = false) :
    Calls Tryd.prog 20 #[.agg #[.int .i64 a, .int .i64 l]] w fun e w' => e = .returned (.tuple #[.string ⟨#[]⟩, .int .i64 (chk a l)]) ∧ Below w.heap.size w w' := by
  have hb2 : (chk a l != 0) = true := by simp [bne, chk_ne h]
  go_enter Tryd.func20, Tryd.ntmps20
  go_wp2_with (go_at_call 9; refine (check_any a l _).mono ?_; rintro e w1 ⟨rfl, hb1⟩)
  go_ret2
  exact ⟨rfl, (bl1 _ _).trans (hb1.mono (by simp))⟩

def showL (a l : Int) : List UInt8 := Lib.decDigits (a / 256).toNat ++ [46] ++ Lib.decDigits (a % 256).toNat ++ [47] ++ Lib.decDigits l.toNat

theorem i64_and255 (n : Int) : bits .and .i64 n 255 = n % 256 := by
  have h255 : (BitVec.ofInt 64 255).toNat = 2 ^ 8 - 1 := by decide
  have key : (BitVec.ofInt 64 n &&& BitVec.ofInt 64 255).toNat = (n % ((2 ^ 64 : Nat) : Int)).toNat % 2 ^ 8 := by
    rw [BitVec.toNat_and, BitVec.toNat_ofInt, h255, Nat.and_two_pow_sub_one_eq_mod]
  show IntKind.i64.wrap ((BitVec.ofInt 64 n &&& BitVec.ofInt 64 255).toNat : Nat) = n % 256
  rw [key, IntKind.wrap_i64]
  omega

theorem show_join (x y z : List UInt8) : (ByteArray.mk x.toArray ++ ByteArray.mk #[46] ++ ByteArray.mk y.toArray ++ ByteArray.mk #[47] ++ ByteArray.mk z.toArray) = ByteArray.mk (x ++ [46] ++ y ++ [47] ++ z).toArray := by
  have h1 : ByteArray.mk #[46] = ByteArray.mk ([46] : List UInt8).toArray := rfl
  have h2 : ByteArray.mk #[47] = ByteArray.mk ([47] : List UInt8).toArray := rfl
  rw [h1, h2]
  simp only [ByteArray.mk_append_mk]
theorem ret_str_int {a b : ByteArray} {n : Int} (h : a = b) : Ending.returned (.tuple #[.string a, .int .i64 n]) = .returned (.tuple #[.string b, .int .i64 n]) := by rw [h]

set_option maxHeartbeats 800000 in
theorem show_ok (a l : Int) (w : World) (hE : Env w) (h : rt a l = true) :
    Calls Tryd.prog 20 #[.agg #[.int .i64 a, .int .i64 l]] w fun e w' => e = .returned (.tuple #[.string ⟨(showL a l).toArray⟩, .int .i64 0]) ∧ Below w.heap.size w w' := by
  have hc0 := chk_of_rt h
  have hb2 : (chk a l != 0) = false := by simp [hc0]
  clear hc0
  obtain ⟨l0, l1, a0, a1, -⟩ := rt_range h
  have hbit := i64_and255 a
  have k1 := dd3 (a / 256).toNat (by omega)
  have k2 := dd3 (a % 256).toNat (by omega)
  have k3 := dd3 l.toNat (by omega)
  go_enter Tryd.func20, Tryd.ntmps20
  go_wp2_with (go_at_call 9; refine (check_any a l _).mono ?_; rintro e w1 ⟨rfl, hb1⟩)
  have e0 : w1.cell? ⟨w.heap.size, 0, none⟩ = some (.int .i64 a) := (hb1.cell (p := ⟨w.heap.size, 0, none⟩) (by simp)).trans (by simp)
  have e1 : w1.cell? ⟨w.heap.size, 1, none⟩ = some (.int .i64 l) := (hb1.cell (p := ⟨w.heap.size, 1, none⟩) (by simp)).trans (by simp)
  have hz := hb1.size
  simp only [World.size_alloc] at hz
  have hB : Below w.heap.size w w1 := (bl1 _ _).trans (hb1.mono (by simp))
  have hE1 : Env w1 := hE.below hE.size hB
  have d0 := Ws.cell (n := w.heap.size + 1) (w := w1) (by omega) e0
  have d1 := Ws.cell (n := w.heap.size + 1) (w := w1) (by omega) e1
  have hEu : ∀ u : Ws (w.heap.size + 1) w1, Env u.val := fun u => hE1.below (by have := hE.size; omega) u.property
  clear hb1 e0 e1
  refine wp_region_ws (w.heap.size + 1) (by kernel_rfl) (by kernel_rfl) ?_
  repeat (go_big_quiet_step ((go_at_call 30; exact Calls.in_ws (by omega) (itoa_any _ _ (hEu _) (by omega) (by omega)))))
  refine wpQuiet_nil ?_
  rintro _ ⟨u, rfl⟩
  have hu := hB.trans (u.property.mono (Nat.le_succ _))
  go_wp2
  go_ret2
  exact ⟨ret_str_int (show_join _ _ _), hu⟩

def numL (l : List UInt8) : Int := (Lib.atoi l).getD 0

set_option maxHeartbeats 800000 in
theorem number_any (s : ByteArray) (w : World) (hE : Env w) (hs : s.size ≤ 18) :
    Calls Tryd.prog 33 #[.string s] w fun e w' => e = .returned (.int .i64 (numL s.data.toList)) ∧ Below w.heap.size w w' := by
  unfold numL
  cases h : Lib.atoi s.data.toList with
  | some n =>
    go_enter Tryd.func33, Tryd.ntmps33
    go_wp2_with (go_at_call 37; refine (Tryd.strconv_Atoi s n hs h _).mono ?_; rintro e w1 ⟨rfl, t, rfl⟩)
    go_ret
    exact ⟨rfl, Lib.bytesWorld_below _ _ _⟩
  | none =>
    obtain ⟨te, pe, he⟩ := hE.err
    have H : Hid (Lib.atoi s.data.toList = none) := h
    clear h
    go_enter Tryd.func33, Tryd.ntmps33
    go_wp2_with (go_at_call 37; refine (Tryd.strconv_Atoi_err s hs H.out _ _ he (.inr ⟨_, _, rfl⟩)).mono ?_; rintro e w1 ⟨N, rfl, hN, hNc, hb⟩)
    go_ret
    exact ⟨rfl, hb⟩
end Go.Proofs.YtgojhaicaolbaaaDoor
