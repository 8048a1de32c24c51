/- What PrefixFrom of package parcelwayref comes to. -/
import Derived.Test.YtgojhaicaolbaaaDoorM
namespace Go.Proofs.YtgojhaicaolbaaaDoor
open Go.RowKit

def numN (s : ByteArray) (m : Int) : Int := (numFrom m 6 0 s.data.toList).1
def numS (s : ByteArray) (m : Int) : ByteArray := ⟨(numFrom m 6 0 s.data.toList).2.toArray⟩

theorem numFrom_len (m : Int) : ∀ (k : Nat) (n : Int) (x : List UInt8), (numFrom m k n x).2.length ≤ x.length
  | 0, _, _ => by simp [numFrom]
  | _ + 1, _, [] => by simp [numFrom]
  | k + 1, n, c :: r => by
    unfold numFrom
    split
    · simp
    · have := numFrom_len m k (10 * n + ((c.toNat : Int) - 48) % 256) r
      simp
      omega

theorem numS_size (s : ByteArray) (m : Int) : (numS s m).size ≤ s.size := by
  have h := numFrom_len m 6 0 s.data.toList
  rw [size_len] at h
  show (numFrom m 6 0 s.data.toList).2.toArray.size ≤ s.size
  rw [List.size_toArray]
  exact h

theorem numR_any (s : ByteArray) (m : Int) (w : World) (hs : s.size ≤ maxLen) :
    Calls Tryd.prog 34 #[.string s, .int .u8 m] w fun e w' => e = .returned (.tuple #[.int .i64 (numN s m), .string (numS s m)]) ∧ Below w.heap.size w w' := numRef_any s m w hs

theorem rightRef_is (a l : Int) (t : Bool) (h : rt a l = t) (w : World) :
    Calls Tryd.prog 28 #[.agg #[.int .i64 a, .int .i64 l]] w fun e w' => e = .returned (.bool t) ∧ Below w.heap.size w w' := by
  subst h
  exact right_any a l w

def fromA (s : ByteArray) : Int := wrap64 (wrap64 (256 * numN s 46) + numN (numS s 46) 47)
def fromL (s : ByteArray) : Int := numN (numS (numS s 46) 47) 0

set_option maxHeartbeats 1600000 in
theorem from_bad1 (s : ByteArray) (w : World) (hs : s.size ≤ maxLen) (h : rt (fromA s) (fromL s) = false) :
    Calls Tryd.prog 23 #[.string s] w fun e w' => e = .returned (.tuple #[.agg #[.int .i64 0, .int .i64 0], .bool false]) ∧ Below w.heap.size w w' := by
  have z1 := numS_size s 46
  have z2 := numS_size (numS s 46) 47
  go_enter Tryd.func23, Tryd.ntmps23
  go_wp2_with fail
  refine (numR_any _ _ _ hs).mono ?_
  rintro e w1 ⟨rfl, hC1⟩
  go_wp2_with fail
  refine (numR_any _ _ _ (Nat.le_trans z1 hs)).mono ?_
  rintro e w2 ⟨rfl, hb2⟩
  have hC2 := hC1.trans (hb2.mono hC1.size)
  clear hC1 hb2
  go_wp2_with fail
  refine (numR_any _ _ _ (Nat.le_trans z2 (Nat.le_trans z1 hs))).mono ?_
  rintro e w3 ⟨rfl, hb3⟩
  have hC3 := hC2.trans (hb3.mono hC2.size)
  clear hC2 hb3 z1 z2
  go_wp2_with fail
  generalize hA : wrap64 (wrap64 (256 * numN s 46) + numN (numS s 46) 47) = A
  generalize hL : numN (numS (numS s 46) 47) 0 = L
  have hA' : fromA s = A := hA
  have hL' : fromL s = L := hL
  rw [hA', hL'] at h
  clear hA hL
  clear hA' hL'
  refine (rightRef_is A L _ h _).mono ?_
  rintro e w4 ⟨rfl, hb4⟩
  have hC4 := hC3.trans (((bl1 w3 _).trans (hb4.mono (by simp))).mono hC3.size)
  clear hC3 hb4
  have e0 : w4.cell? ⟨w.heap.size, 0, none⟩ = some (.int .i64 0) := (hC4.cell (p := ⟨w.heap.size, 0, none⟩) (by simp)).trans (by simp)
  have e1 : w4.cell? ⟨w.heap.size, 1, none⟩ = some (.int .i64 0) := (hC4.cell (p := ⟨w.heap.size, 1, none⟩) (by simp)).trans (by simp)
  have f0 : w4.frozen? ⟨w.heap.size, 0, none⟩ = false := (hC4.frozen (p := ⟨w.heap.size, 0, none⟩) (by simp)).trans (by simp)
  have f1 : w4.frozen? ⟨w.heap.size, 1, none⟩ = false := (hC4.frozen (p := ⟨w.heap.size, 1, none⟩) (by simp)).trans (by simp)
  have hB := (bl1 w _).trans (hC4.mono (by simp))
  clear hC4
  go_wp2
  refine bodyPost_ret (v := .tuple #[.agg #[.int .i64 0, .int .i64 0], .bool false]) (by simp [results, Tryd.results23, go_sem, e0, e1]) rfl ⟨rfl, ?_⟩
  exact (hB.setCell (by simp) _).setCell (by simp) _

set_option maxHeartbeats 1600000 in
theorem from_bad2 (s : ByteArray) (w : World) (hs : s.size ≤ maxLen) (h : rt (fromA s) (fromL s) = true) (HX : (showL (fromA s) (fromL s) == s.toList) = false) :
    Calls Tryd.prog 23 #[.string s] w fun e w' => e = .returned (.tuple #[.agg #[.int .i64 0, .int .i64 0], .bool false]) ∧ Below w.heap.size w w' := by
  have z1 := numS_size s 46
  have z2 := numS_size (numS s 46) 47
  go_enter Tryd.func23, Tryd.ntmps23
  go_wp2_with fail
  refine (numR_any _ _ _ hs).mono ?_
  rintro e w1 ⟨rfl, hC1⟩
  go_wp2_with fail
  refine (numR_any _ _ _ (Nat.le_trans z1 hs)).mono ?_
  rintro e w2 ⟨rfl, hb2⟩
  have hC2 := hC1.trans (hb2.mono hC1.size)
  clear hC1 hb2
  go_wp2_with fail
  refine (numR_any _ _ _ (Nat.le_trans z2 (Nat.le_trans z1 hs))).mono ?_
  rintro e w3 ⟨rfl, hb3⟩
  have hC3 := hC2.trans (hb3.mono hC2.size)
  clear hC2 hb3 z1 z2
  go_wp2_with fail
  generalize hA : wrap64 (wrap64 (256 * numN s 46) + numN (numS s 46) 47) = A
  generalize hL : numN (numS (numS s 46) 47) 0 = L
  have hA' : fromA s = A := hA
  have hL' : fromL s = L := hL
  rw [hA', hL'] at h HX
  clear hA hL
  clear hA' hL'
  refine (rightRef_is A L _ h _).mono ?_
  rintro e w4 ⟨rfl, hb4⟩
  have p0 : w4.cell? ⟨w3.heap.size, 0, none⟩ = some (.int .i64 A) := (hb4.cell (p := ⟨w3.heap.size, 0, none⟩) (by simp)).trans (by simp)
  have p1 : w4.cell? ⟨w3.heap.size, 1, none⟩ = some (.int .i64 L) := (hb4.cell (p := ⟨w3.heap.size, 1, none⟩) (by simp)).trans (by simp)
  have hC4 := hC3.trans (((bl1 w3 _).trans (hb4.mono (by simp))).mono hC3.size)
  have z3 := hC3.size
  simp only [World.size_alloc] at z3
  clear hC3 hb4
  go_wp2_with fail
  refine (prefixText_any A L _ h).mono ?_
  rintro e w5 ⟨rfl, hb5⟩
  have r0 := cell_later hb5 p0
  have r1 := cell_later hb5 p1
  have hC5 := hC4.trans (hb5.mono hC4.size)
  clear hC4 hb5 p0 p1
  have e0 : w5.cell? ⟨w.heap.size, 0, none⟩ = some (.int .i64 0) := (hC5.cell (p := ⟨w.heap.size, 0, none⟩) (by simp)).trans (by simp)
  have e1 : w5.cell? ⟨w.heap.size, 1, none⟩ = some (.int .i64 0) := (hC5.cell (p := ⟨w.heap.size, 1, none⟩) (by simp)).trans (by simp)
  have f0 : w5.frozen? ⟨w.heap.size, 0, none⟩ = false := (hC5.frozen (p := ⟨w.heap.size, 0, none⟩) (by simp)).trans (by simp)
  have f1 : w5.frozen? ⟨w.heap.size, 1, none⟩ = false := (hC5.frozen (p := ⟨w.heap.size, 1, none⟩) (by simp)).trans (by simp)
  have hB := (bl1 w _).trans (hC5.mono (by simp))
  clear hC5
  go_wp2
  refine bodyPost_ret (v := .tuple #[.agg #[.int .i64 0, .int .i64 0], .bool false]) (by simp [results, Tryd.results23, go_sem, e0, e1]) rfl ⟨rfl, ?_⟩
  exact (hB.setCell (by simp) _).setCell (by simp) _

set_option maxHeartbeats 1600000 in
theorem from_ok1 (s : ByteArray) (w : World) (hs : s.size ≤ maxLen) (h : rt (fromA s) (fromL s) = true) (HX : (showL (fromA s) (fromL s) == s.toList) = true) :
    Calls Tryd.prog 23 #[.string s] w fun e w' => e = .returned (.tuple #[.agg #[.int .i64 (fromA s), .int .i64 (fromL s)], .bool true]) ∧ Below w.heap.size w w' := by
  have z1 := numS_size s 46
  have z2 := numS_size (numS s 46) 47
  go_enter Tryd.func23, Tryd.ntmps23
  go_wp2_with fail
  refine (numR_any _ _ _ hs).mono ?_
  rintro e w1 ⟨rfl, hC1⟩
  go_wp2_with fail
  refine (numR_any _ _ _ (Nat.le_trans z1 hs)).mono ?_
  rintro e w2 ⟨rfl, hb2⟩
  have hC2 := hC1.trans (hb2.mono hC1.size)
  clear hC1 hb2
  go_wp2_with fail
  refine (numR_any _ _ _ (Nat.le_trans z2 (Nat.le_trans z1 hs))).mono ?_
  rintro e w3 ⟨rfl, hb3⟩
  have hC3 := hC2.trans (hb3.mono hC2.size)
  clear hC2 hb3 z1 z2
  go_wp2_with fail
  generalize hA : wrap64 (wrap64 (256 * numN s 46) + numN (numS s 46) 47) = A
  generalize hL : numN (numS (numS s 46) 47) 0 = L
  have hA' : fromA s = A := hA
  have hL' : fromL s = L := hL
  rw [hA', hL'] at h HX
  clear hA hL
  have HA : Hid (fromA s = A) := hA'
  have HL : Hid (fromL s = L) := hL'
  clear hA' hL'
  refine (rightRef_is A L _ h _).mono ?_
  rintro e w4 ⟨rfl, hb4⟩
  have p0 : w4.cell? ⟨w3.heap.size, 0, none⟩ = some (.int .i64 A) := (hb4.cell (p := ⟨w3.heap.size, 0, none⟩) (by simp)).trans (by simp)
  have p1 : w4.cell? ⟨w3.heap.size, 1, none⟩ = some (.int .i64 L) := (hb4.cell (p := ⟨w3.heap.size, 1, none⟩) (by simp)).trans (by simp)
  have hC4 := hC3.trans (((bl1 w3 _).trans (hb4.mono (by simp))).mono hC3.size)
  have z3 := hC3.size
  simp only [World.size_alloc] at z3
  clear hC3 hb4
  go_wp2_with fail
  refine (prefixText_any A L _ h).mono ?_
  rintro e w5 ⟨rfl, hb5⟩
  have r0 := cell_later hb5 p0
  have r1 := cell_later hb5 p1
  have hC5 := hC4.trans (hb5.mono hC4.size)
  clear hC4 hb5 p0 p1
  have e0 : w5.cell? ⟨w.heap.size, 0, none⟩ = some (.int .i64 0) := (hC5.cell (p := ⟨w.heap.size, 0, none⟩) (by simp)).trans (by simp)
  have e1 : w5.cell? ⟨w.heap.size, 1, none⟩ = some (.int .i64 0) := (hC5.cell (p := ⟨w.heap.size, 1, none⟩) (by simp)).trans (by simp)
  have f0 : w5.frozen? ⟨w.heap.size, 0, none⟩ = false := (hC5.frozen (p := ⟨w.heap.size, 0, none⟩) (by simp)).trans (by simp)
  have f1 : w5.frozen? ⟨w.heap.size, 1, none⟩ = false := (hC5.frozen (p := ⟨w.heap.size, 1, none⟩) (by simp)).trans (by simp)
  have hB := (bl1 w _).trans (hC5.mono (by simp))
  clear hC5
  go_wp2
  rw [HA.out, HL.out]
  refine bodyPost_ret (v := .tuple #[.agg #[.int .i64 A, .int .i64 L], .bool true]) (by simp [results, Tryd.results23, go_sem, e0, e1]) rfl ⟨rfl, ?_⟩
  exact (hB.setCell (by simp) _).setCell (by simp) _

/-- Digits up to a mark. -/
theorem numFrom_digits (m : Int) (hm : m < 48) (c : UInt8) (hc : (c.toNat : Int) = m) (r : List UInt8) : ∀ (x : List UInt8) (k : Nat) (n v : Nat), x.length < k → (∀ b ∈ x, 48 ≤ b.toNat ∧ b.toNat ≤ 57) → Lib.decFrom n x = some v →
    numFrom m k (n : Int) (x ++ c :: r) = ((v : Int), r)
  | [], k + 1, n, v, _, _, h => by
    simp only [Lib.decFrom, Option.some.injEq] at h
    subst h
    simp [numFrom, hc]
  | b :: x, k + 1, n, v, hl, hd, h => by
    have hb := hd b (by simp)
    have hdv : Lib.digitVal b = some (b.toNat - 48) := by unfold Lib.digitVal; rw [if_pos hb]
    simp only [Lib.decFrom, hdv] at h
    have hne : ¬ (b.toNat : Int) = m := by omega
    simp only [List.cons_append, numFrom, if_neg hne]
    have e : 10 * (n : Int) + ((b.toNat : Int) - 48) % 256 = ((n * 10 + (b.toNat - 48) : Nat) : Int) := by omega
    rw [e]
    exact numFrom_digits m hm c hc r x k _ v (by simpa using hl) (fun b' hb' => hd b' (by simp [hb'])) h

/-- Digits to the end. -/
theorem numFrom_end : ∀ (x : List UInt8) (k : Nat) (n v : Nat), x.length ≤ k → (∀ b ∈ x, 48 ≤ b.toNat ∧ b.toNat ≤ 57) → Lib.decFrom n x = some v →
    numFrom 0 k (n : Int) x = ((v : Int), [])
  | [], 0, n, v, _, _, h => by
    simp only [Lib.decFrom, Option.some.injEq] at h
    subst h
    rfl
  | [], k + 1, n, v, _, _, h => by
    simp only [Lib.decFrom, Option.some.injEq] at h
    subst h
    rfl
  | b :: x, k + 1, n, v, hl, hd, h => by
    have hb := hd b (by simp)
    have hdv : Lib.digitVal b = some (b.toNat - 48) := by unfold Lib.digitVal; rw [if_pos hb]
    simp only [Lib.decFrom, hdv] at h
    have hne : ¬ (b.toNat : Int) = 0 := by omega
    simp only [numFrom, if_neg hne]
    have e : 10 * (n : Int) + ((b.toNat : Int) - 48) % 256 = ((n * 10 + (b.toNat - 48) : Nat) : Int) := by omega
    rw [e]
    exact numFrom_end x k _ v (by simpa using hl) (fun b' hb' => hd b' (by simp [hb'])) h

theorem wrap_id (n : Int) (h0 : -1000000 ≤ n) (h1 : n ≤ 1000000) : wrap64 n = n := by
  unfold wrap64
  omega
theorem fin_a (a : Int) (a0 : 0 ≤ a) (a1 : a ≤ 65535) : wrap64 (wrap64 (256 * ((a / 256).toNat : Int)) + ((a % 256).toNat : Int)) = a := by
  have e1 : ((a / 256).toNat : Int) = a / 256 := Int.toNat_of_nonneg (by omega)
  have e2 : ((a % 256).toNat : Int) = a % 256 := Int.toNat_of_nonneg (by omega)
  rw [e1, e2, wrap_id (256 * (a / 256)) (by omega) (by omega), wrap_id _ (by omega) (by omega)]
  omega

theorem from_show (a l : Int) (h : rt a l = true) : fromA ⟨(showL a l).toArray⟩ = a ∧ fromL ⟨(showL a l).toArray⟩ = l := by
  obtain ⟨l0, l1, a0, a1, -⟩ := rt_range h
  have k1 := dd3 (a / 256).toNat (by omega)
  have k2 := dd3 (a % 256).toNat (by omega)
  have k3 := dd3 l.toNat (by omega)
  have e : showL a l = Lib.decDigits (a / 256).toNat ++ 46 :: (Lib.decDigits (a % 256).toNat ++ 47 :: Lib.decDigits l.toNat) := by simp [showL]
  have f1 := numFrom_digits 46 (by decide) 46 (by decide) (Lib.decDigits (a % 256).toNat ++ 47 :: Lib.decDigits l.toNat) (Lib.decDigits (a / 256).toNat) 6 0 _ (by omega) (digits_range _) (decFrom_digits _)
  have f2 := numFrom_digits 47 (by decide) 47 (by decide) (Lib.decDigits l.toNat) (Lib.decDigits (a % 256).toNat) 6 0 _ (by omega) (digits_range _) (decFrom_digits _)
  have f3 := numFrom_end (Lib.decDigits l.toNat) 6 0 _ (by omega) (digits_range _) (decFrom_digits _)
  rw [← e] at f1
  have n1 : numN ⟨(showL a l).toArray⟩ 46 = ((a / 256).toNat : Int) := by
    show (numFrom 46 6 0 (showL a l).toArray.toList).1 = _
    rw [List.toList_toArray]
    exact congrArg Prod.fst f1
  have s1 : numS ⟨(showL a l).toArray⟩ 46 = ⟨(Lib.decDigits (a % 256).toNat ++ 47 :: Lib.decDigits l.toNat).toArray⟩ := by
    show ByteArray.mk (numFrom 46 6 0 (showL a l).toArray.toList).2.toArray = _
    rw [List.toList_toArray]
    exact congrArg (fun z : Int × List UInt8 => ByteArray.mk z.2.toArray) f1
  have n2 : numN ⟨(Lib.decDigits (a % 256).toNat ++ 47 :: Lib.decDigits l.toNat).toArray⟩ 47 = ((a % 256).toNat : Int) := by
    show (numFrom 47 6 0 (Lib.decDigits (a % 256).toNat ++ 47 :: Lib.decDigits l.toNat).toArray.toList).1 = _
    rw [List.toList_toArray]
    exact congrArg Prod.fst f2
  have s2 : numS ⟨(Lib.decDigits (a % 256).toNat ++ 47 :: Lib.decDigits l.toNat).toArray⟩ 47 = ⟨(Lib.decDigits l.toNat).toArray⟩ := by
    show ByteArray.mk (numFrom 47 6 0 (Lib.decDigits (a % 256).toNat ++ 47 :: Lib.decDigits l.toNat).toArray.toList).2.toArray = _
    rw [List.toList_toArray]
    exact congrArg (fun z : Int × List UInt8 => ByteArray.mk z.2.toArray) f2
  have n3 : numN ⟨(Lib.decDigits l.toNat).toArray⟩ 0 = (l.toNat : Int) := by
    show (numFrom 0 6 0 (Lib.decDigits l.toNat).toArray.toList).1 = _
    rw [List.toList_toArray]
    exact congrArg Prod.fst f3
  constructor
  · unfold fromA
    rw [n1, s1, n2]
    exact fin_a a a0 a1
  · unfold fromL
    rw [s1, s2, n3]
    exact Int.toNat_of_nonneg l0

theorem from_s (s : ByteArray) (a l : Int) (w : World) (hs : s.size ≤ maxLen) (h : rt a l = true) (hx : s.data.toList = showL a l) :
    Calls Tryd.prog 23 #[.string s] w fun e w' => e = .returned (.tuple #[.agg #[.int .i64 a, .int .i64 l], .bool true]) ∧ Below w.heap.size w w' := by
  have e : s = ⟨(showL a l).toArray⟩ := by
    rw [← hx]
  have hr := from_show a l h
  rw [← e] at hr
  have := from_ok1 s w hs (by rw [hr.1, hr.2]; exact h) (by rw [hr.1, hr.2, Lib.toList_data, hx]; simp)
  rw [hr.1, hr.2] at this
  exact this

theorem from_no (s : ByteArray) (w : World) (hs : s.size ≤ maxLen) (h : ∀ a l, rt a l = true → s.data.toList ≠ showL a l) :
    Calls Tryd.prog 23 #[.string s] w fun e w' => e = .returned (.tuple #[.agg #[.int .i64 0, .int .i64 0], .bool false]) ∧ Below w.heap.size w w' := by
  cases hr : rt (fromA s) (fromL s)
  · exact from_bad1 s w hs hr
  · refine from_bad2 s w hs hr ?_
    rw [Lib.toList_data]
    simp only [beq_eq_false_iff_ne, ne_eq]
    exact fun e => h _ _ hr e.symm
end Go.Proofs.YtgojhaicaolbaaaDoor
