/- What the iterator of holes comes to where the prefix is inside of a used one. -/
import Derived.Test.YtbnkgecblaffeaaQ
namespace Go.Proofs.Ytbnkgecblaffeaa
open Go.RowKit Go.Shelf
attribute [local go_sem] Oper.semAt_some

set_option maxRecDepth 100000 in
set_option maxHeartbeats 2000000 in
theorem holes1_in (n₀ : Nat) (x : Option Addr) (n c : Nat) (ps : List (Int × Int)) (hn : n ≤ 64) (f : Nat) (a l : Int) (hm : mtsAny a l ps = true) (hi : insAny a l ps = true) (m : Nat) (w : World) (pb ub : Nat)
    (p0 : w.cell? ⟨pb, 0, none⟩ = some (.int .i64 a)) (p1 : w.cell? ⟨pb, 1, none⟩ = some (.int .i64 l)) (u0 : w.cell? ⟨ub, 0, none⟩ = some (.slice x n c)) (hp : PS w x n ps) :
    SeqL (TH n₀) n₀ ub Fence.wide m Try.prog 46 #[.pointer (some ⟨pb, 0, none⟩), .pointer (some ⟨ub, 0, none⟩)] (fun x => #[enc2 x]) (fun xs => xs = hol ps f a l) (fun pre => pre <+: hol ps f a l) w := by
  have hh : hol ps f a l = [] := by cases f <;> simp [hol, hm, hi]
  intro yl L J Jx W hW hJ hJx hL hY h0
  rw [hh]
  clear hh
  have q0 := cell_later hW p0
  have q1 := cell_later hW p1
  have v0 := cell_later hW u0
  have hp' := hp.later hW
  clear hY p0 p1 u0 hp
  have k0 : ∀ q, (W.alloc q).cell? ⟨pb, 0, none⟩ = some (.int .i64 a) := fun q => cell_later (bl1 W q) q0
  have k1 : ∀ q, (W.alloc q).cell? ⟨pb, 1, none⟩ = some (.int .i64 l) := fun q => cell_later (bl1 W q) q1
  have k2 : ∀ q, (W.alloc q).cell? ⟨ub, 0, none⟩ = some (.slice x n c) := fun q => cell_later (bl1 W q) v0
  refine callsIn_of_wp_marks Try.func46 rfl trivial ?_ rfl
  simp only [Try.ntmps46, List.size_toArray, List.length_cons, List.length_nil, Nat.reduceAdd, Nat.reduceSub, Array.replicate_succ, Array.replicate_zero, List.push_toArray, List.append_toArray, List.nil_append, List.cons_append]
  gi_wp2_with fail
  refine ⟨trivial, (fun h => (by cases h)), ?_⟩
  refine (callsIn_wide.2 (meetsU_any a l x n c ps _ (hp'.later (bl1 W _)) hn)).mono ?_
  rintro e w1 ⟨rfl, hb1⟩
  have hB : Below W.heap.size W w1 := (bl1 W _).trans (hb1.mono (by simp))
  have y0 : w1.cell? ⟨W.heap.size, 0, none⟩ = some (.func (.yield yl) #[] #[]) := (hb1.cell (p := ⟨W.heap.size, 0, none⟩) (by simp)).trans (by simp)
  have r0 := cell_later hB q0
  have r1 := cell_later hB q1
  have v1 := cell_later hB v0
  have hl := hp'.len
  clear hb1 k0 k1 k2 q0 q1 v0
  rw [hm]
  gi_wp2_with fail
  refine ⟨trivial, (fun h => (by cases h)), ?_⟩
  refine (callsIn_wide.2 (containsFunc_any 48 _ x n c ps _ _ (hp'.later hB) hn (inside_fn a l pb n ps _ r0 r1) call_in1)).mono ?_
  rintro e w2 ⟨rfl, hb2⟩
  have hC : Below W.heap.size W w2 := hB.trans (hb2.mono hB.size)
  have hi' : anyAt n (fun i => ins a l (at0 ps i) (at1 ps i)) = true := by rw [← hl]; exact hi
  rw [hi']
  gi_wp2
  refine ⟨_, results_none rfl _ _ _, ?_⟩
  exact ⟨⟨_, rfl⟩, Kl.of_below hC, .inl ⟨_, rfl, OwnFrom.later hJ h0 hC⟩⟩
end Go.Proofs.Ytbnkgecblaffeaa
