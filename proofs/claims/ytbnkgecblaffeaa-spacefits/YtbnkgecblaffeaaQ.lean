/- What holes of package space comes to: the iterator. -/
import Derived.Test.YtbnkgecblaffeaaY
import Derived.Test.YtbnkgecblaffeaaP
namespace Go.Proofs.Ytbnkgecblaffeaa
open Go.RowKit Go.Shelf
attribute [local go_sem] Oper.semAt_some

/-- The greatest free parts of a prefix, by way of its halves, some f levels down. -/
def hol (ps : List (Int × Int)) : Nat → Int → Int → List (Int × Int)
  | 0, a, l => if mtsAny a l ps then [] else [(a, l)]
  | f + 1, a, l => if mtsAny a l ps then (if insAny a l ps then [] else hol ps f a (l + 1) ++ hol ps f (a + sp (l + 1)) (l + 1)) else [(a, l)]

def TH (n₀ : Nat) (k : Nat) (o : Obj) : Prop := n₀ < k ∧ ∃ v, o = .cells #[v] 24 ∨ o = .cells #[v] 49

theorem yield_any {m m' : Nat} {P : Program} {l : Nat} {args : Array Value} {W : World} {R : Ending → World → Prop} (h : YieldAt Fence.wide m P l args W R) : YieldAt Fence.wide m' P l args W R := by
  obtain ⟨fn, tmps, assign, body, hy, hR⟩ := h
  exact ⟨fn, tmps, assign, body, hy, hR.1, fun c cs _ => hR.2 c cs (fun d h => by cases h)⟩

theorem holes_is (a l : Int) (x : Option Addr) (n c m : Nat) (w : World) :
    CallsIn Fence.wide m Try.prog 27 #[.agg #[.int .i64 a, .int .i64 l], .slice x n c] w fun e w' =>
      e = .returned (.func (.func 46) #[] #[.pointer (some ⟨w.heap.size, 0, none⟩), .pointer (some ⟨w.heap.size + 1, 0, none⟩)]) ∧ w' = (w.alloc (.cells #[.int .i64 a, .int .i64 l] 23)).alloc (.cells #[.slice x n c] 24) := by
  refine callsIn_of_wp Try.func27 rfl trivial ?_ rfl
  simp only [Try.ntmps27, List.size_toArray, List.length_cons, List.length_nil, Nat.reduceAdd, Nat.reduceSub, Array.replicate_succ, Array.replicate_zero, List.push_toArray, List.append_toArray, List.nil_append, List.cons_append]
  gi_wp2
  go_ret
  exact ⟨rfl, rfl⟩

theorem call_holes1 (args : Array Value) (W : World) : (callFunc 46 args).run Try.prog W = .ok (.enter 46 args) W := by simp [go_sem]

set_option maxRecDepth 100000 in
set_option maxHeartbeats 2000000 in
theorem holes1_free (n₀ : Nat) (x : Option Addr) (n c : Nat) (ps : List (Int × Int)) (hn : n ≤ 64) (f : Nat) (a l : Int) (hm : mtsAny a l ps = false) (m : Nat) (w : World) (pb ub : Nat)
    (p0 : w.cell? ⟨pb, 0, none⟩ = some (.int .i64 a)) (p1 : w.cell? ⟨pb, 1, none⟩ = some (.int .i64 l)) (u0 : w.cell? ⟨ub, 0, none⟩ = some (.slice x n c)) (hp : PS w x n ps) :
    SeqL (TH n₀) n₀ ub Fence.wide m Try.prog 46 #[.pointer (some ⟨pb, 0, none⟩), .pointer (some ⟨ub, 0, none⟩)] (fun x => #[enc2 x]) (fun xs => xs = hol ps f a l) (fun pre => pre <+: hol ps f a l) w := by
  have hh : hol ps f a l = [(a, l)] := by cases f <;> simp [hol, hm]
  intro yl L J Jx W hW hJ hJx hL hY h0
  rw [hh] at hY ⊢
  clear hh
  have HY : Hid (∀ W1, J [] W1 → YieldAt Fence.wide (m - 1) Try.prog yl #[enc2 (a, l)] W1 fun e W' => Kl (TH n₀) n₀ L W1 W' ∧ ((e = .returned (.bool true) ∧ J [(a, l)] W') ∨ (e = .returned (.bool false) ∧ Jx [(a, l)] W'))) := fun W1 h => hY [] (a, l) W1 (List.prefix_refl _) h
  have q0 := cell_later hW p0
  have q1 := cell_later hW p1
  have v0 := cell_later hW u0
  have hp' := hp.later hW
  clear hY p0 p1 u0 hp
  have k0 : ∀ q, (W.alloc q).cell? ⟨pb, 0, none⟩ = some (.int .i64 a) := fun q => cell_later (bl1 W q) q0
  have k1 : ∀ q, (W.alloc q).cell? ⟨pb, 1, none⟩ = some (.int .i64 l) := fun q => cell_later (bl1 W q) q1
  have k2 : ∀ q, (W.alloc q).cell? ⟨ub, 0, none⟩ = some (.slice x n c) := fun q => cell_later (bl1 W q) v0
  refine callsIn_of_wp_marks Try.func46 rfl trivial ?_ rfl
  simp only [Try.ntmps46, List.size_toArray, List.length_cons, List.length_nil, Nat.reduceAdd, Nat.reduceSub, Array.replicate_succ, Array.replicate_zero, List.push_toArray, List.append_toArray, List.nil_append, List.cons_append]
  gi_wp2_with fail
  refine ⟨trivial, (fun h => (by cases h)), ?_⟩
  refine (callsIn_wide.2 (meetsU_any a l x n c ps _ (hp'.later (bl1 W _)) hn)).mono ?_
  rintro e w1 ⟨rfl, hb1⟩
  have hB : Below W.heap.size W w1 := (bl1 W _).trans (hb1.mono (by simp))
  have y0 : w1.cell? ⟨W.heap.size, 0, none⟩ = some (.func (.yield yl) #[] #[]) := (hb1.cell (p := ⟨W.heap.size, 0, none⟩) (by simp)).trans (by simp)
  have r0 := cell_later hB q0
  have r1 := cell_later hB q1
  obtain ⟨fn, tmps, assign, body, hy, hR⟩ := HY.out w1 (OwnFrom.later hJ h0 hB)
  clear hb1 k0 k1 k2 q0 q1 v0
  simp only [enc2] at hy
  rw [hm]
  gi_wp2_with fail
  refine ⟨(fun h => (by cases h)), ?_⟩
  refine hR.mono ?_
  rintro e W2 ⟨hk, (⟨rfl, hj⟩ | ⟨rfl, hx⟩)⟩
  · gi_wp2
    refine ⟨_, results_none rfl _ _ _, ?_⟩
    exact ⟨⟨_, rfl⟩, (Kl.of_below hB).trans hk, .inl ⟨_, rfl, hj⟩⟩
  · gi_wp2
    refine ⟨_, results_none rfl _ _ _, ?_⟩
    exact ⟨⟨_, rfl⟩, (Kl.of_below hB).trans hk, .inr ⟨_, List.prefix_refl _, hx⟩⟩
end Go.Proofs.Ytbnkgecblaffeaa
