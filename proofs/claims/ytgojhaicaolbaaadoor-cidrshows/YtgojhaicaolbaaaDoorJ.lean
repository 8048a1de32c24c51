/- What Digits and PrefixText of package parcelwayref come to. -/
import Derived.Test.YtgojhaicaolbaaaDoorI
import Derived.Deep.DeepCutAuto
import Derived.Laws.BytesArg
namespace Go.Proofs.YtgojhaicaolbaaaDoor
open Go.RowKit

theorem conv_one (d : Int) (w : World) : (convert 56 9 (.slice (some ⟨w.heap.size, 0, none⟩) 1 1)).run Tryd.prog (w.alloc (.cells #[.int .u8 d] 5)) = .ok (.string ⟨#[UInt8.ofNat d.toNat]⟩) (w.alloc (.cells #[.int .u8 d] 5)) :=
  run_convert_bytes_arg _ 56 5 Tryd.underlying56 Tryd.underlying5 w.heap.size 0 1 1 [d] rfl (fun i hi => by
    obtain rfl : i = 0 := by omega
    simp) 9 Tryd.underlying9

def dig1 (n : Int) : ByteArray := ⟨#[UInt8.ofNat (48 + n % 10).toNat]⟩

theorem digits_lt (n : Int) (h0 : 0 ≤ n) (h1 : n < 10) : dig1 n = ⟨(Lib.decDigits n.toNat).toArray⟩ := by
  rw [Lib.decDigits_one (by omega)]
  have e : (48 + n % 10).toNat = 48 + n.toNat := by omega
  unfold dig1
  rw [e]

theorem digits_ge (n : Int) (_h0 : 0 ≤ n) (h1 : ¬ n < 10) : ByteArray.mk (Lib.decDigits (n / 10).toNat).toArray ++ dig1 n = ⟨(Lib.decDigits n.toNat).toArray⟩ := by
  have e : dig1 n = ByteArray.mk ([UInt8.ofNat (48 + n % 10).toNat] : List UInt8).toArray := rfl
  rw [e, ByteArray.mk_append_mk]
  conv => rhs; rw [Lib.decDigits, dif_neg (by omega)]
  have e1 : (n / 10).toNat = n.toNat / 10 := by omega
  have e2 : (48 + n % 10).toNat = 48 + n.toNat % 10 := by omega
  rw [e1, e2]

set_option maxRecDepth 20000 in
set_option maxHeartbeats 800000 in
theorem digits_one (n : Int) (h0 : 0 ≤ n) (h1 : n < 10) (w : World) :
    Calls Tryd.prog 31 #[.int .i64 n] w fun e w' => e = .returned (.string ⟨(Lib.decDigits n.toNat).toArray⟩) ∧ Below w.heap.size w w' := by
  rw [← digits_lt n h0 h1]
  have hcv := conv_one (48 + n % 10) w
  go_enter Tryd.func31, Tryd.ntmps31
  go_wp2
  go_ret
  exact ⟨rfl, bl1 _ _⟩

theorem ret_str {a b : ByteArray} (h : a = b) : Ending.returned (.string a) = .returned (.string b) := by rw [h]

set_option maxRecDepth 20000 in
set_option maxHeartbeats 800000 in
theorem digits_rec (n : Int) (h0 : 10 ≤ n) (h1 : n ≤ 999) (w : World)
    (IH : ∀ w : World, Calls Tryd.prog 31 #[.int .i64 (n / 10)] w fun e w' => e = .returned (.string ⟨(Lib.decDigits (n / 10).toNat).toArray⟩) ∧ Below w.heap.size w w') :
    Calls Tryd.prog 31 #[.int .i64 n] w fun e w' => e = .returned (.string ⟨(Lib.decDigits n.toNat).toArray⟩) ∧ Below w.heap.size w w' := by
  rw [← digits_ge n (by omega) (by omega)]
  have hcv := conv_one (48 + n % 10) w
  have HI : Hid (∀ w : World, Calls Tryd.prog 31 #[.int .i64 (n / 10)] w fun e w' => e = .returned (.string ⟨(Lib.decDigits (n / 10).toNat).toArray⟩) ∧ Below w.heap.size w w') := IH
  clear IH
  have k2 := dd3 (n / 10).toNat (by omega)
  go_enter Tryd.func31, Tryd.ntmps31
  go_wp2_with (go_at_call 31; refine (HI.out _).mono ?_; rintro e w2 ⟨rfl, hb2⟩)
  go_ret
  exact ⟨ret_str rfl, (bl1 _ _).trans (hb2.mono (by simp))⟩

theorem digits_any (n : Int) (h0 : 0 ≤ n) (h1 : n ≤ 999) (w : World) :
    Calls Tryd.prog 31 #[.int .i64 n] w fun e w' => e = .returned (.string ⟨(Lib.decDigits n.toNat).toArray⟩) ∧ Below w.heap.size w w' := by
  by_cases a : n < 10
  · exact digits_one n h0 a w
  · refine digits_rec n (by omega) h1 w (fun w => ?_)
    by_cases b : n / 10 < 10
    · exact digits_one _ (by omega) b w
    · refine digits_rec _ (by omega) (by omega) w (fun w => ?_)
      exact digits_one _ (by omega) (by omega) w

set_option maxRecDepth 20000 in
set_option maxHeartbeats 800000 in
theorem prefixText_any (a l : Int) (w : World) (h : rt a l = true) :
    Calls Tryd.prog 21 #[.agg #[.int .i64 a, .int .i64 l]] w fun e w' => e = .returned (.string ⟨(showL a l).toArray⟩) ∧ Below w.heap.size w w' := by
  obtain ⟨l0, l1, a0, a1, -⟩ := rt_range h
  have k1 := dd3 (a / 256).toNat (by omega)
  have k2 := dd3 (a % 256).toNat (by omega)
  have k3 := dd3 l.toNat (by omega)
  have d0 : ∀ u : Ws (w.heap.size + 1) (w.alloc (.cells #[.int .i64 a, .int .i64 l] 23)), u.val.cell? ⟨w.heap.size, 0, none⟩ = some (.int .i64 a) := Ws.cell (by omega) (by simp)
  have d1 : ∀ u : Ws (w.heap.size + 1) (w.alloc (.cells #[.int .i64 a, .int .i64 l] 23)), u.val.cell? ⟨w.heap.size, 1, none⟩ = some (.int .i64 l) := Ws.cell (by omega) (by simp)
  go_enter Tryd.func21, Tryd.ntmps21
  go_wp2
  refine wp_region_ws (w.heap.size + 1) (by kernel_rfl) (by kernel_rfl) ?_
  repeat (go_big_quiet_step ((go_at_call 31; exact Calls.in_ws (by simp) (digits_any _ (by omega) (by omega) _))))
  refine wpQuiet_nil ?_
  rintro _ ⟨u, rfl⟩
  have hu := (bl1 w _).trans (u.property.mono (Nat.le_succ _))
  go_wp2
  go_ret
  exact ⟨ret_str (show_join _ _ _), hu⟩
end Go.Proofs.YtgojhaicaolbaaaDoor
