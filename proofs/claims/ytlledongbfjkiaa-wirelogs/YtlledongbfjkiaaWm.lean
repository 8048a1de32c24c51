/- Commands as bytes, frames, logs: mathematics alone. -/
import Derived.Laws.BytesArg
namespace Go.Proofs.Ytlledongbfjkiaa

/-- A command as numbers. -/
structure Cm where
  op : Int
  a : Int
  b : Int
  c : Int
  p : Int
  l : Int
  mn : Int
  mx : Int
  us : Int
  co : Int

def Cm.num (c : Cm) (k : Nat) : Int :=
  match k with
  | 0 => c.a | 1 => c.b | 2 => c.c | 3 => c.p | 4 => c.l | 5 => c.mn | 6 => c.mx | 7 => c.us | _ => c.co

def be4 (n : Int) : List Int := [n / 16777216 % 256, n / 65536 % 256, n / 256 % 256, n % 256]
def le4 (n : Int) : List Int := [n % 256, n / 256 % 256, n / 65536 % 256, n / 16777216 % 256]
def numsTo (c : Cm) : Nat → List Int
  | 0 => []
  | k + 1 => numsTo c k ++ be4 (c.num k)
def cmdTo (c : Cm) (k : Nat) : List Int := c.op % 256 :: numsTo c k
def cmdB (c : Cm) : List Int := cmdTo c 9
theorem cmdTo_len (c : Cm) : ∀ k, (cmdTo c k).length = 1 + 4 * k
  | 0 => rfl
  | k + 1 => by
    have := cmdTo_len c k
    simp only [cmdTo, numsTo, be4, List.length_cons, List.length_append, List.length_nil] at this ⊢
    omega
theorem cmdB_len (c : Cm) : (cmdB c).length = 37 := cmdTo_len c 9
theorem cmdTo_next (c : Cm) (k : Nat) : cmdTo c (k + 1) = cmdTo c k ++ be4 (c.num k) := rfl

def fits (n : Int) : Bool := decide (-2147483648 ≤ n) && decide (n ≤ 2147483647)
def okCm (c : Cm) : Bool := decide (0 ≤ c.op) && decide (c.op ≤ 255) && (List.range 9).all fun k => fits (c.num k)
theorem fits_iff {n : Int} : fits n = true ↔ -2147483648 ≤ n ∧ n ≤ 2147483647 := by unfold fits; simp
theorem okCm_yes {c : Cm} (h0 : 0 ≤ c.op) (h1 : c.op ≤ 255) (h : ∀ k, k < 9 → fits (c.num k) = true) : okCm c = true := by
  unfold okCm
  simp only [Bool.and_eq_true, decide_eq_true_eq, List.all_eq_true, List.mem_range]
  exact ⟨⟨h0, h1⟩, h⟩
theorem okCm_op {c : Cm} (h : okCm c = true) : 0 ≤ c.op ∧ c.op ≤ 255 := by
  unfold okCm at h
  simp only [Bool.and_eq_true, decide_eq_true_eq] at h
  exact h.1
theorem okCm_num {c : Cm} (h : okCm c = true) (k : Nat) (hk : k < 9) : fits (c.num k) = true := by
  unfold okCm at h
  simp only [Bool.and_eq_true, decide_eq_true_eq, List.all_eq_true, List.mem_range] at h
  exact h.2 k hk
theorem okCm_no {c : Cm} {k : Nat} (hk : k < 9) (h : fits (c.num k) = false) : okCm c = false := by
  cases hc : okCm c
  · rfl
  · rw [okCm_num hc k hk] at h
    cases h
theorem okCm_out {c : Cm} (h : c.op < 0 ∨ 255 < c.op) : okCm c = false := by
  cases hc : okCm c
  · rfl
  · have := okCm_op hc
    omega

def byt (xs : List Int) (i : Nat) : Int := xs.getD i 0
def sgn (v : Int) : Int := if 2147483648 ≤ v then v - 4294967296 else v
def val4 (a b c d : Int) : Int := 16777216 * a + 65536 * b + 256 * c + d
def readN (xs : List Int) (k : Nat) : Int := sgn (val4 (byt xs (4 * k + 1)) (byt xs (4 * k + 2)) (byt xs (4 * k + 3)) (byt xs (4 * k + 4)))
def readC (xs : List Int) : Cm := ⟨byt xs 0, readN xs 0, readN xs 1, readN xs 2, readN xs 3, readN xs 4, readN xs 5, readN xs 6, readN xs 7, readN xs 8⟩
theorem readC_num (xs : List Int) (k : Nat) (hk : k < 9) : (readC xs).num k = readN xs k := by
  rcases k with _ | _ | _ | _ | _ | _ | _ | _ | _ | k
  all_goals first | rfl | omega
/-- All of them are bytes. -/
def isB (xs : List Int) : Prop := ∀ x ∈ xs, 0 ≤ x ∧ x ≤ 255
theorem isB_byt {xs : List Int} (h : isB xs) (i : Nat) : 0 ≤ byt xs i ∧ byt xs i ≤ 255 := by
  unfold byt
  rw [List.getD_eq_getElem?_getD]
  by_cases hi : i < xs.length
  · rw [List.getElem?_eq_getElem hi]
    exact h _ (List.getElem_mem hi)
  · rw [List.getElem?_eq_none (by omega)]
    exact ⟨by decide, by decide⟩
theorem isB_be4 (n : Int) : isB (be4 n) := by
  intro x hx
  simp only [be4, List.mem_cons, List.not_mem_nil, or_false] at hx
  omega
theorem isB_le4 (n : Int) : isB (le4 n) := by
  intro x hx
  simp only [le4, List.mem_cons, List.not_mem_nil, or_false] at hx
  omega
theorem isB_append {xs ys : List Int} (h : isB xs) (g : isB ys) : isB (xs ++ ys) := fun x hx => by
  rcases List.mem_append.1 hx with hx | hx
  · exact h x hx
  · exact g x hx
theorem isB_cons {x : Int} {ys : List Int} (h : 0 ≤ x ∧ x ≤ 255) (g : isB ys) : isB (x :: ys) := fun y hy => by
  rcases List.mem_cons.1 hy with rfl | hy
  · exact h
  · exact g y hy
theorem isB_numsTo (c : Cm) : ∀ k, isB (numsTo c k)
  | 0 => fun x hx => by cases hx
  | k + 1 => isB_append (isB_numsTo c k) (isB_be4 _)
theorem isB_cmdTo (c : Cm) (k : Nat) : isB (cmdTo c k) := isB_cons (by omega) (isB_numsTo c k)
theorem be4_val {a b c d : Int} (ha : 0 ≤ a ∧ a ≤ 255) (hb : 0 ≤ b ∧ b ≤ 255) (hc : 0 ≤ c ∧ c ≤ 255) (hd : 0 ≤ d ∧ d ≤ 255) : be4 (sgn (val4 a b c d)) = [a, b, c, d] := by
  have hv : ∀ v : Int, be4 (sgn v) = [(sgn v) / 16777216 % 256, (sgn v) / 65536 % 256, (sgn v) / 256 % 256, (sgn v) % 256] := fun _ => rfl
  rw [hv]
  have h1 : sgn (val4 a b c d) / 16777216 % 256 = a := by unfold sgn val4; split <;> omega
  have h2 : sgn (val4 a b c d) / 65536 % 256 = b := by unfold sgn val4; split <;> omega
  have h3 : sgn (val4 a b c d) / 256 % 256 = c := by unfold sgn val4; split <;> omega
  have h4 : sgn (val4 a b c d) % 256 = d := by unfold sgn val4; split <;> omega
  rw [h1, h2, h3, h4]
theorem val_be4 {n : Int} (h : fits n = true) : sgn (val4 (n / 16777216 % 256) (n / 65536 % 256) (n / 256 % 256) (n % 256)) = n := by
  rw [fits_iff] at h
  unfold sgn val4
  split <;> omega

theorem take4 (xs : List Int) (k : Nat) (h : k + 4 ≤ xs.length) : xs.take (k + 4) = xs.take k ++ [byt xs k, byt xs (k + 1), byt xs (k + 2), byt xs (k + 3)] := by
  have one : ∀ j, j < xs.length → xs.take (j + 1) = xs.take j ++ [byt xs j] := fun j hj => by
    rw [List.take_add_one, List.getElem?_eq_getElem hj]
    simp [byt, hj]
  rw [show k + 4 = k + 3 + 1 from rfl, one (k + 3) (by omega), one (k + 2) (by omega), one (k + 1) (by omega), one k (by omega)]
  simp
theorem cmdTo_read {xs : List Int} (hl : xs.length = 37) (hb : isB xs) : ∀ k, k ≤ 9 → cmdTo (readC xs) k = xs.take (1 + 4 * k)
  | 0, _ => by
    have h0 := isB_byt hb 0
    have e : (readC xs).op % 256 = byt xs 0 := by show byt xs 0 % 256 = byt xs 0; omega
    cases xs with
    | nil => simp at hl
    | cons x xs => unfold cmdTo; rw [e]; simp [numsTo, byt]
  | k + 1, hk => by
    rw [cmdTo_next, cmdTo_read hl hb k (by omega), readC_num xs k (by omega), show 1 + 4 * (k + 1) = (1 + 4 * k) + 4 by omega, take4 xs (1 + 4 * k) (by omega)]
    unfold readN
    rw [be4_val (isB_byt hb _) (isB_byt hb _) (isB_byt hb _) (isB_byt hb _), show 4 * k + 1 = 1 + 4 * k by omega, show 4 * k + 2 = 1 + 4 * k + 1 by omega, show 4 * k + 3 = 1 + 4 * k + 2 by omega, show 4 * k + 4 = 1 + 4 * k + 3 by omega]
theorem cmdB_read {xs : List Int} (hl : xs.length = 37) (hb : isB xs) : cmdB (readC xs) = xs := by
  unfold cmdB
  rw [cmdTo_read hl hb 9 (by omega), List.take_of_length_le (by omega)]
theorem read_cmdB {c : Cm} (h : okCm c = true) : readC (cmdB c) = c := by
  have ho := okCm_op h
  have hn := okCm_num h
  obtain ⟨op, a, b, d, p, l, mn, mx, us, co⟩ := c
  have e0 := val_be4 (hn 0 (by omega))
  have e1 := val_be4 (hn 1 (by omega))
  have e2 := val_be4 (hn 2 (by omega))
  have e3 := val_be4 (hn 3 (by omega))
  have e4 := val_be4 (hn 4 (by omega))
  have e5 := val_be4 (hn 5 (by omega))
  have e6 := val_be4 (hn 6 (by omega))
  have e7 := val_be4 (hn 7 (by omega))
  have e8 := val_be4 (hn 8 (by omega))
  simp only [Cm.num] at e0 e1 e2 e3 e4 e5 e6 e7 e8
  simp only [readC, readN, cmdB, cmdTo, numsTo, be4, byt, Cm.num, List.nil_append, List.cons_append, List.getD_cons_succ, List.getD_cons_zero, Nat.mul_zero, Nat.zero_add, Nat.reduceMul, Nat.reduceAdd, e0, e1, e2, e3, e4, e5, e6, e7, e8]
  congr 1
  show op % 256 = op
  have : 0 ≤ op ∧ op ≤ 255 := ho
  omega

/-- The sum of the first k, each times its place. -/
def sumTo (xs : List Int) : Nat → Int
  | 0 => 0
  | k + 1 => sumTo xs k + ((k : Int) + 1) * byt xs k
def sumB (xs : List Int) : Int := sumTo xs xs.length
theorem sumTo_range {xs : List Int} (h : isB xs) : ∀ k, k ≤ 256 → 0 ≤ sumTo xs k ∧ sumTo xs k ≤ 65280 * k
  | 0, _ => ⟨by simp [sumTo], by simp [sumTo]⟩
  | k + 1, hk => by
    obtain ⟨i0, i1⟩ := sumTo_range h k (by omega)
    obtain ⟨b0, b1⟩ := isB_byt h k
    have m0 : 0 ≤ ((k : Int) + 1) * byt xs k := Int.mul_nonneg (by omega) b0
    have m1 : ((k : Int) + 1) * byt xs k ≤ 256 * 255 := Int.mul_le_mul (by omega) b1 b0 (by omega)
    simp only [sumTo]
    omega
/-- A frame of bytes. -/
def frameB (xs : List Int) : List Int := ((xs.length : Int) :: xs) ++ le4 (sumB ((xs.length : Int) :: xs))
theorem frameB_len (xs : List Int) : (frameB xs).length = xs.length + 5 := by
  unfold frameB le4
  simp
theorem isB_frame {xs : List Int} (h : isB xs) (hl : xs.length ≤ 255) : isB (frameB xs) := isB_append (isB_cons (by omega) h) (isB_le4 _)
theorem frame_text (xs : List Int) : ((frameB xs).drop 1).take xs.length = xs := by
  unfold frameB
  simp

/-- Does a frame of a command stand first? -/
def okF (xs : List Int) : Bool := decide (42 ≤ xs.length) && decide (frameB ((xs.drop 1).take 37) = xs.take 42)
/-- The commands that a text begins with, at most so many. -/
def rp : Nat → List Int → List Cm
  | 0, _ => []
  | f + 1, xs => if okF xs = true then readC ((xs.drop 1).take 37) :: rp f (xs.drop 42) else []
theorem rp_len : ∀ (f : Nat) (xs : List Int), (rp f xs).length ≤ f
  | 0, _ => by simp [rp]
  | f + 1, xs => by
    unfold rp
    have := rp_len f (xs.drop 42)
    split
    · simp; omega
    · simp
theorem rp_bytes : ∀ (f : Nat) (xs : List Int), 42 * (rp f xs).length ≤ xs.length
  | 0, _ => by simp [rp]
  | f + 1, xs => by
    unfold rp
    have := rp_bytes f (xs.drop 42)
    split
    · rename_i h
      unfold okF at h
      simp only [Bool.and_eq_true, decide_eq_true_eq] at h
      simp only [List.length_drop, List.length_cons] at this ⊢
      omega
    · simp

/-- The frames of commands. -/
def logB (l : List Cm) : List Int := l.flatMap fun c => frameB (cmdB c)
theorem logB_cons (c : Cm) (l : List Cm) : logB (c :: l) = frameB (cmdB c) ++ logB l := by simp [logB]
theorem logB_snoc (c : Cm) (l : List Cm) : logB (l ++ [c]) = logB l ++ frameB (cmdB c) := by simp [logB]
theorem fr_len (c : Cm) : (frameB (cmdB c)).length = 42 := by rw [frameB_len, cmdB_len]
theorem logB_len : ∀ l : List Cm, (logB l).length = 42 * l.length
  | [] => rfl
  | c :: l => by rw [logB_cons, List.length_append, fr_len, logB_len l, List.length_cons]; omega
theorem okF_frame (c : Cm) (ys : List Int) : okF (frameB (cmdB c) ++ ys) = true := by
  have hl := fr_len c
  have ht := frame_text (cmdB c)
  rw [cmdB_len] at ht
  unfold okF
  simp only [Bool.and_eq_true, decide_eq_true_eq]
  refine ⟨by rw [List.length_append]; omega, ?_⟩
  rw [List.drop_append_of_le_length (by omega), List.take_append_of_le_length (by rw [List.length_drop]; omega), ht, List.take_append_of_le_length (by omega), List.take_of_length_le (by omega)]
theorem rp_frame {c : Cm} (h : okCm c = true) (f : Nat) (ys : List Int) : rp (f + 1) (frameB (cmdB c) ++ ys) = c :: rp f ys := by
  have hl := fr_len c
  have ht := frame_text (cmdB c)
  rw [cmdB_len] at ht
  rw [show rp (f + 1) (frameB (cmdB c) ++ ys) = if okF (frameB (cmdB c) ++ ys) = true then readC (((frameB (cmdB c) ++ ys).drop 1).take 37) :: rp f ((frameB (cmdB c) ++ ys).drop 42) else [] from rfl, if_pos (okF_frame c ys)]
  rw [List.drop_append_of_le_length (by omega), List.take_append_of_le_length (by rw [List.length_drop]; omega), ht, read_cmdB h, List.drop_append_of_le_length (by omega), List.drop_of_length_le (by omega)]
  rfl
/-- A log that was cut. -/
theorem rp_cut : ∀ (l : List Cm) (f k : Nat), (∀ c ∈ l, okCm c = true) → l.length ≤ f → k ≤ 42 * l.length → rp f ((logB l).take k) = l.take (k / 42)
  | [], f, k, _, _, hk => by
    have : k = 0 := by simpa using hk
    subst this
    cases f with
    | zero => rfl
    | succ f => rfl
  | c :: l, f, k, h, hf, hk => by
    have hl := fr_len c
    cases f with
    | zero => simp at hf
    | succ f =>
      rw [logB_cons]
      by_cases h42 : 42 ≤ k
      · rw [List.take_append, List.take_of_length_le (by omega), rp_frame (h c (by simp)), hl, rp_cut l f (k - 42) (fun d hd => h d (by simp [hd])) (by simpa using hf) (by simp only [List.length_cons] at hk; omega)]
        rw [show k / 42 = (k - 42) / 42 + 1 by omega, List.take_succ_cons]
      · rw [show k / 42 = 0 by omega, List.take_zero]
        unfold rp
        rw [if_neg]
        unfold okF
        rw [Bool.and_eq_true, decide_eq_true_eq, List.length_take]
        omega
/-- A log with whatever behind it. -/
theorem rp_more : ∀ (l : List Cm) (f : Nat) (ys : List Int), (∀ c ∈ l, okCm c = true) → l.length ≤ f → rp f (logB l ++ ys) = l ++ rp (f - l.length) ys
  | [], f, ys, _, _ => by simp [logB]
  | c :: l, f, ys, h, hf => by
    cases f with
    | zero => simp at hf
    | succ f =>
      rw [logB_cons, List.append_assoc, rp_frame (h c (by simp)), rp_more l f ys (fun d hd => h d (by simp [hd])) (by simpa using hf)]
      simp
end Go.Proofs.Ytlledongbfjkiaa
