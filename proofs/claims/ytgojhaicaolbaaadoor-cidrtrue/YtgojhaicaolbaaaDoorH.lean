/- What is shown is read as it was: the plain facts on decimal digits. -/
import Derived.Test.YtgojhaicaolbaaaDoorG
namespace Go.Proofs.YtgojhaicaolbaaaDoor
open Go.RowKit

theorem dig_val (d : Nat) (h : d < 10) : Lib.digitVal (UInt8.ofNat (48 + d)) = some d := by
  unfold Lib.digitVal
  have e : (UInt8.ofNat (48 + d)).toNat = 48 + d := by simp; omega
  rw [e, if_pos (by omega)]
  simp

theorem decFrom_snoc (b : UInt8) : ∀ (x : List UInt8) (acc : Nat), Lib.decFrom acc (x ++ [b]) = (Lib.decFrom acc x).bind fun v => (Lib.digitVal b).map fun d => v * 10 + d
  | [], acc => by
    simp only [List.nil_append, Lib.decFrom]
    cases Lib.digitVal b <;> rfl
  | c :: x, acc => by
    simp only [List.cons_append, Lib.decFrom]
    cases Lib.digitVal c with
    | none => rfl
    | some d => exact decFrom_snoc b x _

theorem decFrom_digits (u : Nat) : Lib.decFrom 0 (Lib.decDigits u) = some u := by
  induction u using Nat.strongRecOn with
  | _ u ih =>
    rw [Lib.decDigits]
    split
    · rename_i h
      have := decFrom_snoc (UInt8.ofNat (48 + u)) [] 0
      rw [List.nil_append] at this
      rw [this, dig_val u h]
      simp [Lib.decFrom]
    · rename_i h
      rw [decFrom_snoc, ih (u / 10) (by omega), dig_val (u % 10) (by omega)]
      simp
      omega

theorem digits_range (u : Nat) : ∀ b ∈ Lib.decDigits u, 48 ≤ b.toNat ∧ b.toNat ≤ 57 := by
  induction u using Nat.strongRecOn with
  | _ u ih =>
    rw [Lib.decDigits]
    split
    · rename_i h
      intro b hb
      simp only [List.mem_singleton] at hb
      subst hb
      have e : (UInt8.ofNat (48 + u)).toNat = 48 + u := by simp; omega
      omega
    · rename_i h
      intro b hb
      rw [List.mem_append] at hb
      rcases hb with hb | hb
      · exact ih (u / 10) (by omega) b hb
      · simp only [List.mem_singleton] at hb
        subst hb
        have e : (UInt8.ofNat (48 + u % 10)).toNat = 48 + u % 10 := by simp; omega
        omega

theorem digits_ne (u : Nat) : Lib.decDigits u ≠ [] := by
  rw [Lib.decDigits]
  split <;> simp

theorem atoi_digits (u : Nat) : Lib.atoi (Lib.decDigits u) = some (u : Int) := by
  have h1 := decFrom_digits u
  have h2 := digits_range u
  have h3 := digits_ne u
  cases hd : Lib.decDigits u with
  | nil => exact absurd hd h3
  | cons b r =>
    rw [hd] at h1 h2
    have hb := h2 b (by simp)
    have n1 : (b == 45) = false := by
      simp only [beq_eq_false_iff_ne, ne_eq]
      intro e
      subst e
      simp at hb
    have n2 : (b == 43) = false := by
      simp only [beq_eq_false_iff_ne, ne_eq]
      intro e
      subst e
      simp at hb
    unfold Lib.atoi Lib.decNat
    simp [n1, n2, h1]

theorem index_at (c : UInt8) (y : List UInt8) : ∀ (x : List UInt8), c ∉ x → Lib.index (x ++ c :: y) [c] = (x.length : Int)
  | [], _ => by simp [Lib.index]
  | b :: x, h => by
    have hb : b ≠ c := fun e => h (by simp [e])
    have ih := index_at c y x (fun e => h (by simp [e]))
    simp only [List.cons_append, Lib.index, ih]
    have n0 : ([c] : List UInt8).isPrefixOf (b :: (x ++ c :: y)) = false := by simp [List.isPrefixOf, Ne.symm hb]
    have n1 : ((x.length : Int) == -1) = false := by simp
    rw [n0, n1]
    simp

theorem cut_at (c : UInt8) (x y : List UInt8) (h : c ∉ x) : Lib.cut (x ++ c :: y) [c] = (x, y, true) := by
  unfold Lib.cut
  rw [index_at c y x h, if_pos (by omega)]
  simp

theorem digits_not (u : Nat) (c : UInt8) (h : c.toNat < 48) : c ∉ Lib.decDigits u := fun e => by
  have := digits_range u c e
  omega

theorem numB_digits (u : Nat) : numB ⟨(Lib.decDigits u).toArray⟩ = (u : Int) := by
  show (Lib.atoi (Lib.decDigits u).toArray.toList).getD 0 = _
  rw [List.toList_toArray, atoi_digits]
  rfl

theorem showL_cut1 (a l : Int) : Lib.cut (showL a l) [47] = (Lib.decDigits (a / 256).toNat ++ 46 :: Lib.decDigits (a % 256).toNat, Lib.decDigits l.toNat, true) := by
  have e : showL a l = (Lib.decDigits (a / 256).toNat ++ 46 :: Lib.decDigits (a % 256).toNat) ++ 47 :: Lib.decDigits l.toNat := by simp [showL]
  rw [e]
  apply cut_at
  intro h
  rw [List.mem_append, List.mem_cons] at h
  rcases h with h | h | h
  · exact digits_not _ 47 (by decide) h
  · exact absurd h (by decide)
  · exact digits_not _ 47 (by decide) h

theorem showL_cut2 (a : Int) : Lib.cut (Lib.decDigits (a / 256).toNat ++ 46 :: Lib.decDigits (a % 256).toNat) [46] = (Lib.decDigits (a / 256).toNat, Lib.decDigits (a % 256).toNat, true) :=
  cut_at _ _ _ (digits_not _ 46 (by decide))

theorem read_show (a l : Int) (h : rt a l = true) : readA ⟨(showL a l).toArray⟩ = a ∧ readL ⟨(showL a l).toArray⟩ = l := by
  obtain ⟨l0, l1, a0, a1, -⟩ := rt_range h
  have c1 : cutA ⟨(showL a l).toArray⟩ ⟨#[47]⟩ = ⟨(Lib.decDigits (a / 256).toNat ++ 46 :: Lib.decDigits (a % 256).toNat).toArray⟩ := by
    show ByteArray.mk (Lib.cut (showL a l).toArray.toList [47]).1.toArray = _
    rw [List.toList_toArray, showL_cut1]
  have c2 : cutB ⟨(showL a l).toArray⟩ ⟨#[47]⟩ = ⟨(Lib.decDigits l.toNat).toArray⟩ := by
    show ByteArray.mk (Lib.cut (showL a l).toArray.toList [47]).2.1.toArray = _
    rw [List.toList_toArray, showL_cut1]
  have c3 : cutA ⟨(Lib.decDigits (a / 256).toNat ++ 46 :: Lib.decDigits (a % 256).toNat).toArray⟩ ⟨#[46]⟩ = ⟨(Lib.decDigits (a / 256).toNat).toArray⟩ := by
    show ByteArray.mk (Lib.cut (Lib.decDigits (a / 256).toNat ++ 46 :: Lib.decDigits (a % 256).toNat).toArray.toList [46]).1.toArray = _
    rw [List.toList_toArray, showL_cut2]
  have c4 : cutB ⟨(Lib.decDigits (a / 256).toNat ++ 46 :: Lib.decDigits (a % 256).toNat).toArray⟩ ⟨#[46]⟩ = ⟨(Lib.decDigits (a % 256).toNat).toArray⟩ := by
    show ByteArray.mk (Lib.cut (Lib.decDigits (a / 256).toNat ++ 46 :: Lib.decDigits (a % 256).toNat).toArray.toList [46]).2.1.toArray = _
    rw [List.toList_toArray, showL_cut2]
  constructor
  · unfold readA
    rw [c1, c3, c4, numB_digits, numB_digits]
    unfold wrap64
    omega
  · unfold readL
    rw [c2, numB_digits]
    omega

theorem showL_len (a l : Int) (h : rt a l = true) : (showL a l).length ≤ 10 := by
  obtain ⟨l0, l1, a0, a1, -⟩ := rt_range h
  have k1 := dd3 (a / 256).toNat (by omega)
  have k2 := dd3 (a % 256).toNat (by omega)
  have k3 := dd2 l.toNat (by omega)
  simp only [showL, List.length_append, List.length_cons, List.length_nil]
  omega

theorem read_ok (a l : Int) (w : World) (hE : Env w) (h : rt a l = true) :
    Calls Tryd.prog 22 #[.string ⟨(showL a l).toArray⟩] w fun e w' => e = .returned (.tuple #[.agg #[.int .i64 a, .int .i64 l], .int .i64 0]) ∧ Below w.heap.size w w' := by
  have hr := read_show a l h
  have hs : (ByteArray.mk (showL a l).toArray).size ≤ 10 := by
    have := showL_len a l h
    show (showL a l).toArray.size ≤ 10
    rw [List.size_toArray]
    exact this
  have := read_ok1 ⟨(showL a l).toArray⟩ w hE hs (by rw [hr.1, hr.2]; exact h) (by rw [hr.1, hr.2, Lib.toList_data]; simp)
  rw [hr.1, hr.2] at this
  exact this

theorem read_bad (s : ByteArray) (w : World) (hE : Env w) (hs : s.size ≤ maxLen) (h : ∀ a l, rt a l = true → s.data.toList ≠ showL a l) :
    Calls Tryd.prog 22 #[.string s] w fun e w' => e = .returned (.tuple #[.agg #[.int .i64 0, .int .i64 0], .int .i64 1]) ∧ Below w.heap.size w w' := by
  by_cases hl : 10 < s.size
  · exact read_long s w hl hs
  · cases hr : rt (readA s) (readL s)
    · exact read_bad1 s w hE (by omega) hr
    · refine read_bad2 s w hE (by omega) hr ?_
      rw [Lib.toList_data]
      simp only [beq_eq_false_iff_ne, ne_eq]
      exact fun e => h _ _ hr e.symm
end Go.Proofs.YtgojhaicaolbaaaDoor
