/- A part of the proof. -/
import Derived.Test.YtndpilfpejfloaaGreatMS05
set_option maxRecDepth 100000
set_option maxHeartbeats 3200000
namespace Go.Proofs.YtndpilfpejfloaaGreat
variable {w w' : World} {base g base' b n k i j rn sn : Nat} {v : Value} {es rs : List Rg} {cs : Array Value} {t : TypeId} {fr : Nat × Nat} {ad : Addr} {x : Option Addr} {ps L ns : List Int} {l a : Int} {ss : List Sb} {f : Nat → Bool} {fs : List Fc}
open Go.RowKit
def oG (g : Nat) (cap : Array Value) (n : Nat) (ps : List Sb) (f : Nat → Bool) (w : World) : Prop :=
 ∀ i, i < n → ∀ W, Below w.heap.size w W → Calls Tryz.prog g (#[.agg #[.int .i64 (sbAt ps i).id, .int .i64 (sbAt ps i).a, .int .i64 (sbAt ps i).l, .slice (sbAt ps i).x (sbAt ps i).n (sbAt ps i).c]] ++ cap) W fun e W' => e = .returned (.bool (f i)) ∧ Below W.heap.size W W'
theorem iW (g : Nat) (cap : Array Value) (x : Option Addr) (n c : Nat) (ps : List Sb) (f : Nat → Bool) (w : World) (hp : SS w x n ps) (hn : n ≤ 1048576) (hF : oG g cap n ps f w)
  (hg : ∀ args W, (callFunc g args).run Tryz.prog W = .ok (.enter g args) W) :
  Calls Tryz.prog 180 #[.slice x n c, .func (.func g) #[] cap] w fun e w' => (∃ r : Int, e = .returned (.int .i64 r) ∧ ((∃ i : Nat, i < n ∧ f i = true ∧ (∀ j, j < i → f j = false) ∧ r = i) ∨ ((∀ j, j < n → f j = false) ∧ r = -1))) ∧ Below w.heap.size w w' := by
 have HF : Hid (oG g cap n ps f w) := hF
 clear hF
 go_enter Tryz.func180, Tryz.ntmps180
 go_wp2
 go_loopw [8] (fun i wr => ∃ k : Nat, k ≤ n ∧ i = .int .i64 k ∧ Below w.heap.size w wr ∧ (∀ j, j < k → f j = false)) (fun i _ => n - (intOf i).toNat)
 case atStart => exact ⟨0, by omega, rfl, Below.refl _ _, fun j hj => by omega⟩
 case round =>
  obtain ⟨k, hk, rfl, hB, hno⟩ := hrel
  by_cases hlt : k < n
  ·obtain ⟨b, o, rfl, c0, c1, c2, c3⟩ := hp.cells k hlt
   have d0 := cell_later hB c0
   have d1 := cell_later hB c1
   have d2 := cell_later hB c2
   have d3 := cell_later hB c3
   go_wp2_with fail
   refine (HF.out k hlt _ hB).mono ?_
   rintro e w1 ⟨rfl, hb1⟩
   have hC := hB.trans (hb1.mono hB.size)
   cases hf : f k
   ·go_wp2
    go_roundw
    case rel => exact ⟨k + 1, hlt, by go_num, hC, fun j hj => by
     by_cases hj2 : j < k
     ·exact hno j hj2
     ·obtain rfl : j = k := by omega
      exact hf⟩
    case measure => simp [intOf]; omega
   ·go_wp2
    go_ret
    exact ⟨⟨_, rfl, .inl ⟨k, hlt, hf, hno, rfl⟩⟩, hC⟩
  ·go_wp2
   go_ret
   exact ⟨⟨_, rfl, .inr ⟨fun j hj => hno j (by omega), rfl⟩⟩, hB⟩
theorem fE (g : Nat) (cap : Array Value) (x : Option Addr) (n c : Nat) (ps : List Sb) (f : Nat → Bool) (w : World) (hp : SS w x n ps) (hn : n ≤ 1048576) (hF : oG g cap n ps f w)
  (hg : ∀ args W, (callFunc g args).run Tryz.prog W = .ok (.enter g args) W) :
  Calls Tryz.prog 140 #[.slice x n c, .func (.func g) #[] cap] w fun e w' => e = .returned (.bool (aK n f)) ∧ Below w.heap.size w w' := by
 have H := iW g cap x n c ps f w hp hn hF hg
 have H' : Hid (Calls Tryz.prog 180 #[.slice x n c, .func (.func g) #[] cap] w fun e w' => (∃ r : Int, e = .returned (.int .i64 r) ∧ decide (r ≥ 0) = aK n f) ∧ Below w.heap.size w w') := (H.mono fun e w' h => by
  obtain ⟨⟨r, rfl, hr⟩, hb⟩ := h
  refine ⟨⟨r, rfl, ?_⟩, hb⟩
  rcases hr with ⟨i, hi, hfi, _, rfl⟩ | ⟨hno, rfl⟩
  ·rw [aT hi hfi]; simp
  ·rw [cY hno]; rfl)
 clear hF H
 go_enter Tryz.func140, Tryz.ntmps140
 go_wp2_with fail
 refine H'.out.mono ?_
 rintro e w1 ⟨⟨r, rfl, hr⟩, hb1⟩
 go_wp2
 go_ret
 exact ⟨rfl, hb1⟩
def CF (g : Nat) (cap : Array Value) (n : Nat) (ps : List Fc) (f : Nat → Bool) (w : World) : Prop :=
 ∀ i, i < n → ∀ W, Below w.heap.size w W → Calls Tryz.prog g (#[.agg #[.int .i64 (fcAt ps i).id, .slice (fcAt ps i).x (fcAt ps i).n (fcAt ps i).c]] ++ cap) W fun e W' => e = .returned (.bool (f i)) ∧ Below W.heap.size W W'
theorem iX (g : Nat) (cap : Array Value) (x : Option Addr) (n c : Nat) (ps : List Fc) (f : Nat → Bool) (w : World) (hp : uX w x n ps) (hn : n ≤ 1048576) (hF : CF g cap n ps f w)
  (hg : ∀ args W, (callFunc g args).run Tryz.prog W = .ok (.enter g args) W) :
  Calls Tryz.prog 188 #[.slice x n c, .func (.func g) #[] cap] w fun e w' => (∃ r : Int, e = .returned (.int .i64 r) ∧ ((∃ i : Nat, i < n ∧ f i = true ∧ (∀ j, j < i → f j = false) ∧ r = i) ∨ ((∀ j, j < n → f j = false) ∧ r = -1))) ∧ Below w.heap.size w w' := by
 have HF : Hid (CF g cap n ps f w) := hF
 clear hF
 go_enter Tryz.func188, Tryz.ntmps188
 go_wp2
 go_loopw [8] (fun i wr => ∃ k : Nat, k ≤ n ∧ i = .int .i64 k ∧ Below w.heap.size w wr ∧ (∀ j, j < k → f j = false)) (fun i _ => n - (intOf i).toNat)
 case atStart => exact ⟨0, by omega, rfl, Below.refl _ _, fun j hj => by omega⟩
 case round =>
  obtain ⟨k, hk, rfl, hB, hno⟩ := hrel
  by_cases hlt : k < n
  ·obtain ⟨b, o, rfl, c0, c1⟩ := hp.cells k hlt
   have d0 := cell_later hB c0
   have d1 := cell_later hB c1
   go_wp2_with fail
   refine (HF.out k hlt _ hB).mono ?_
   rintro e w1 ⟨rfl, hb1⟩
   have hC := hB.trans (hb1.mono hB.size)
   cases hf : f k
   ·go_wp2
    go_roundw
    case rel => exact ⟨k + 1, hlt, by go_num, hC, fun j hj => by
     by_cases hj2 : j < k
     ·exact hno j hj2
     ·obtain rfl : j = k := by omega
      exact hf⟩
    case measure => simp [intOf]; omega
   ·go_wp2
    go_ret
    exact ⟨⟨_, rfl, .inl ⟨k, hlt, hf, hno, rfl⟩⟩, hC⟩
  ·go_wp2
   go_ret
   exact ⟨⟨_, rfl, .inr ⟨fun j hj => hno j (by omega), rfl⟩⟩, hB⟩
theorem rD (g : Nat) (cap : Array Value) (x : Option Addr) (n c : Nat) (ps : List Fc) (f : Nat → Bool) (w : World) (hp : uX w x n ps) (hn : n ≤ 1048576) (hF : CF g cap n ps f w)
  (hg : ∀ args W, (callFunc g args).run Tryz.prog W = .ok (.enter g args) W) :
  Calls Tryz.prog 199 #[.slice x n c, .func (.func g) #[] cap] w fun e w' => e = .returned (.bool (aK n f)) ∧ Below w.heap.size w w' := by
 have H := iX g cap x n c ps f w hp hn hF hg
 have H' : Hid (Calls Tryz.prog 188 #[.slice x n c, .func (.func g) #[] cap] w fun e w' => (∃ r : Int, e = .returned (.int .i64 r) ∧ decide (r ≥ 0) = aK n f) ∧ Below w.heap.size w w') := (H.mono fun e w' h => by
  obtain ⟨⟨r, rfl, hr⟩, hb⟩ := h
  refine ⟨⟨r, rfl, ?_⟩, hb⟩
  rcases hr with ⟨i, hi, hfi, _, rfl⟩ | ⟨hno, rfl⟩
  ·rw [aT hi hfi]; simp
  ·rw [cY hno]; rfl)
 clear hF H
 go_enter Tryz.func199, Tryz.ntmps199
 go_wp2_with fail
 refine H'.out.mono ?_
 rintro e w1 ⟨⟨r, rfl, hr⟩, hb1⟩
 go_wp2
 go_ret
 exact ⟨rfl, hb1⟩
def rE (g : Nat) (cap : Array Value) (n : Nat) (ps : List Rg) (f : Nat → Bool) (w : World) : Prop :=
 ∀ i, i < n → ∀ W, Below w.heap.size w W → Calls Tryz.prog g (#[.agg #[.int .i64 (aL ps i).a, .int .i64 (aL ps i).l, .int .i64 (aL ps i).p]] ++ cap) W fun e W' => e = .returned (.bool (f i)) ∧ Below W.heap.size W W'
theorem mV (g : Nat) (cap : Array Value) (x : Option Addr) (n c : Nat) (ps : List Rg) (f : Nat → Bool) (w : World) (hp : RS w x n ps) (hn : n ≤ 1048576) (hF : rE g cap n ps f w)
  (hg : ∀ args W, (callFunc g args).run Tryz.prog W = .ok (.enter g args) W) :
  Calls Tryz.prog 138 #[.slice x n c, .func (.func g) #[] cap] w fun e w' => (∃ r : Int, e = .returned (.int .i64 r) ∧ ((∃ i : Nat, i < n ∧ f i = true ∧ (∀ j, j < i → f j = false) ∧ r = i) ∨ ((∀ j, j < n → f j = false) ∧ r = -1))) ∧ Below w.heap.size w w' := by
 have HF : Hid (rE g cap n ps f w) := hF
 clear hF
 go_enter Tryz.func138, Tryz.ntmps138
 go_wp2
 go_loopw [8] (fun i wr => ∃ k : Nat, k ≤ n ∧ i = .int .i64 k ∧ Below w.heap.size w wr ∧ (∀ j, j < k → f j = false)) (fun i _ => n - (intOf i).toNat)
 case atStart => exact ⟨0, by omega, rfl, Below.refl _ _, fun j hj => by omega⟩
 case round =>
  obtain ⟨k, hk, rfl, hB, hno⟩ := hrel
  by_cases hlt : k < n
  ·obtain ⟨b, o, rfl, c0, c1, c2⟩ := hp.cells k hlt
   have d0 := cell_later hB c0
   have d1 := cell_later hB c1
   have d2 := cell_later hB c2
   go_wp2_with fail
   refine (HF.out k hlt _ hB).mono ?_
   rintro e w1 ⟨rfl, hb1⟩
   have hC := hB.trans (hb1.mono hB.size)
   cases hf : f k
   ·go_wp2
    go_roundw
    case rel => exact ⟨k + 1, hlt, by go_num, hC, fun j hj => by
     by_cases hj2 : j < k
     ·exact hno j hj2
     ·obtain rfl : j = k := by omega
      exact hf⟩
    case measure => simp [intOf]; omega
   ·go_wp2
    go_ret
    exact ⟨⟨_, rfl, .inl ⟨k, hlt, hf, hno, rfl⟩⟩, hC⟩
  ·go_wp2
   go_ret
   exact ⟨⟨_, rfl, .inr ⟨fun j hj => hno j (by omega), rfl⟩⟩, hB⟩
theorem dR (g : Nat) (cap : Array Value) (x : Option Addr) (n c : Nat) (ps : List Rg) (f : Nat → Bool) (w : World) (hp : RS w x n ps) (hn : n ≤ 1048576) (hF : rE g cap n ps f w)
  (hg : ∀ args W, (callFunc g args).run Tryz.prog W = .ok (.enter g args) W) :
  Calls Tryz.prog 116 #[.slice x n c, .func (.func g) #[] cap] w fun e w' => e = .returned (.bool (aK n f)) ∧ Below w.heap.size w w' := by
 have H := mV g cap x n c ps f w hp hn hF hg
 have H' : Hid (Calls Tryz.prog 138 #[.slice x n c, .func (.func g) #[] cap] w fun e w' => (∃ r : Int, e = .returned (.int .i64 r) ∧ decide (r ≥ 0) = aK n f) ∧ Below w.heap.size w w') := (H.mono fun e w' h => by
  obtain ⟨⟨r, rfl, hr⟩, hb⟩ := h
  refine ⟨⟨r, rfl, ?_⟩, hb⟩
  rcases hr with ⟨i, hi, hfi, _, rfl⟩ | ⟨hno, rfl⟩
  ·rw [aT hi hfi]; simp
  ·rw [cY hno]; rfl)
 clear hF H
 go_enter Tryz.func116, Tryz.ntmps116
 go_wp2_with fail
 refine H'.out.mono ?_
 rintro e w1 ⟨⟨r, rfl, hr⟩, hb1⟩
 go_wp2
 go_ret
 exact ⟨rfl, hb1⟩
def CG (g : Nat) (cap : Array Value) (n : Nat) (ps : List Int) (f : Nat → Bool) (w : World) : Prop :=
 ∀ i, i < n → ∀ W, Below w.heap.size w W → Calls Tryz.prog g (#[.int .i64 (bA ps i)] ++ cap) W fun e W' => e = .returned (.bool (f i)) ∧ Below W.heap.size W W'
theorem mW (g : Nat) (cap : Array Value) (x : Option Addr) (n c : Nat) (ps : List Int) (f : Nat → Bool) (w : World) (hp : IS w x n ps) (hn : n ≤ 1048576) (hF : CG g cap n ps f w)
  (hg : ∀ args W, (callFunc g args).run Tryz.prog W = .ok (.enter g args) W) :
  Calls Tryz.prog 193 #[.slice x n c, .func (.func g) #[] cap] w fun e w' => (∃ r : Int, e = .returned (.int .i64 r) ∧ ((∃ i : Nat, i < n ∧ f i = true ∧ (∀ j, j < i → f j = false) ∧ r = i) ∨ ((∀ j, j < n → f j = false) ∧ r = -1))) ∧ Below w.heap.size w w' := by
 have HF : Hid (CG g cap n ps f w) := hF
 clear hF
 go_enter Tryz.func193, Tryz.ntmps193
 go_wp2
 go_loopw [8] (fun i wr => ∃ k : Nat, k ≤ n ∧ i = .int .i64 k ∧ Below w.heap.size w wr ∧ (∀ j, j < k → f j = false)) (fun i _ => n - (intOf i).toNat)
 case atStart => exact ⟨0, by omega, rfl, Below.refl _ _, fun j hj => by omega⟩
 case round =>
  obtain ⟨k, hk, rfl, hB, hno⟩ := hrel
  by_cases hlt : k < n
  ·obtain ⟨b, o, rfl, c0⟩ := hp.cells k hlt
   have d0 := cell_later hB c0
   go_wp2_with fail
   refine (HF.out k hlt _ hB).mono ?_
   rintro e w1 ⟨rfl, hb1⟩
   have hC := hB.trans (hb1.mono hB.size)
   cases hf : f k
   ·go_wp2
    go_roundw
    case rel => exact ⟨k + 1, hlt, by go_num, hC, fun j hj => by
     by_cases hj2 : j < k
     ·exact hno j hj2
     ·obtain rfl : j = k := by omega
      exact hf⟩
    case measure => simp [intOf]; omega
   ·go_wp2
    go_ret
    exact ⟨⟨_, rfl, .inl ⟨k, hlt, hf, hno, rfl⟩⟩, hC⟩
  ·go_wp2
   go_ret
   exact ⟨⟨_, rfl, .inr ⟨fun j hj => hno j (by omega), rfl⟩⟩, hB⟩
theorem rF (g : Nat) (cap : Array Value) (x : Option Addr) (n c : Nat) (ps : List Int) (f : Nat → Bool) (w : World) (hp : IS w x n ps) (hn : n ≤ 1048576) (hF : CG g cap n ps f w)
  (hg : ∀ args W, (callFunc g args).run Tryz.prog W = .ok (.enter g args) W) :
  Calls Tryz.prog 221 #[.slice x n c, .func (.func g) #[] cap] w fun e w' => e = .returned (.bool (aK n f)) ∧ Below w.heap.size w w' := by
 have H := mW g cap x n c ps f w hp hn hF hg
 have H' : Hid (Calls Tryz.prog 193 #[.slice x n c, .func (.func g) #[] cap] w fun e w' => (∃ r : Int, e = .returned (.int .i64 r) ∧ decide (r ≥ 0) = aK n f) ∧ Below w.heap.size w w') := (H.mono fun e w' h => by
  obtain ⟨⟨r, rfl, hr⟩, hb⟩ := h
  refine ⟨⟨r, rfl, ?_⟩, hb⟩
  rcases hr with ⟨i, hi, hfi, _, rfl⟩ | ⟨hno, rfl⟩
  ·rw [aT hi hfi]; simp
  ·rw [cY hno]; rfl)
 clear hF H
 go_enter Tryz.func221, Tryz.ntmps221
 go_wp2_with fail
 refine H'.out.mono ?_
 rintro e w1 ⟨⟨r, rfl, hr⟩, hb1⟩
 go_wp2
 go_ret
 exact ⟨rfl, hb1⟩
open Go.RowKit Go.Shelf
def cR (e : Rg) : List Value := [.int .i64 e.a, .int .i64 e.l, .int .i64 e.p]
def flatR (es : List Rg) : List Value := es.flatMap cR
theorem GY (e : Rg) : (cR e).length = 3 := rfl
theorem uA : ∀ es : List Rg, (flatR es).length = es.length * 3 := mH GY
theorem AY (es fs : List Rg) : flatR (es ++ fs) = flatR es ++ flatR fs := by simp [flatR]
theorem NP : ∀ (es : List Rg) (i j : Nat), i < es.length → j < 3 → (flatR es)[i * 3 + j]? = (cR (aL es i))[j]? := rT GY VQ
theorem pN (es : List Rg) : ∀ u ∈ flatR es, u.oneCell' = true := fun u hu => by
 obtain ⟨e, -, hu⟩ := List.mem_flatMap.1 hu
 simp only [cR, List.mem_cons, List.not_mem_nil, or_false] at hu
 rcases hu with rfl | rfl | rfl <;> rfl
def bN (w : World) (base : Nat) (v : Value) (es : List Rg) : Prop := w.ownsRow base 51 3 v es.length (flatR es)
theorem bN.later (h : bN w base v es) (hb : Below w.heap.size w w') : bN w' base v es := jH h hb
theorem bN.kept (h : bN w base v es) (hg : w.grownBy w' (some g)) (hne : ∀ k, v.ownBlock = some k → k ≠ g) : bN w' base v es := iK h hg hne
theorem bN.low (h : bN w base v es) (hb : base' ≤ base) : bN w base' v es := jI h hb
theorem bN.lt (h : bN w base v es) : ∀ k, v.ownBlock = some k → base ≤ k ∧ k < w.heap.size := World.ownsRow.lt h
theorem bN.ne (h : bN w base v es) (hb : w.heap[b]? = some (.cells cs t fr)) (ht : t ≠ 51) : v.ownBlock ≠ some b := nU h hb ht
theorem SZ : Ty 51 38 3 (.agg #[.int .i64 0, .int .i64 0, .int .i64 0]) 24 := uY (by kernel_rfl) (by kernel_rfl) rfl (pN [VQ]) (by decide) (by decide)
theorem RS.flat_cells (h : RS w (some ad) n es) : ∀ j u, (flatR es)[j]? = some u → w.cell? (ad.add j) = some u :=
 jU (by decide) GY VQ h.len fun i hi => by
  obtain ⟨b, o, hx, d0, d1, d2⟩ := h.cells i hi
  exact ⟨b, o, hx, by rintro (_ | _ | _ | q) u hu <;> first | (cases hu; assumption) | simp [cR] at hu⟩
theorem RS.rw (h : RS w x n es) : Rw w x n 3 (flatR es) :=
 ⟨by rw [uA, h.len], fun h0 e => (by obtain ⟨b, o, hx, -⟩ := h.cells 0 h0; rw [e] at hx; cases hx), pN es, fun ad hx => by subst hx; exact h.flat_cells⟩
theorem bN.mem (h : bN w base v es) : ∃ x c, v = .slice x es.length c ∧ es.length ≤ c ∧ c ≤ 9223372036854775807 ∧ (x = none → es.length = 0 ∧ c = 0) ∧ ∀ i, i < es.length → ∃ b o, x = some ⟨b, o, none⟩ ∧ w.cell? ⟨b, o + i * 3, none⟩ = some (.int .i64 (aL es i).a) ∧ w.cell? ⟨b, o + i * 3 + 1, none⟩ = some (.int .i64 (aL es i).l) ∧ w.cell? ⟨b, o + i * 3 + 2, none⟩ = some (.int .i64 (aL es i).p) := by
 obtain ⟨x, c, hv, h1, h2, h3, h4⟩ := mI h
 refine ⟨x, c, hv, h1, h2, h3, fun i hi => ?_⟩
 obtain ⟨b, o, hx, e⟩ := h4 i hi
 have e := fun j u hj hu => e j u hj ((NP es i j hi hj).trans hu)
 exact ⟨b, o, hx, e 0 _ (by decide) rfl, e 1 _ (by decide) rfl, e 2 _ (by decide) rfl⟩
def cS (e : Sb) : List Value := [.int .i64 e.id, .int .i64 e.a, .int .i64 e.l, .slice e.x e.n e.c]
def flatS (es : List Sb) : List Value := es.flatMap cS
theorem GZ (e : Sb) : (cS e).length = 4 := rfl
theorem fK : ∀ es : List Sb, (flatS es).length = es.length * 4 := mH GZ
theorem AZ (es fs : List Sb) : flatS (es ++ fs) = flatS es ++ flatS fs := by simp [flatS]
theorem oH : ∀ (es : List Sb) (i j : Nat), i < es.length → j < 4 → (flatS es)[i * 4 + j]? = (cS (sbAt es i))[j]? := rT GZ VP
theorem pO (es : List Sb) : ∀ u ∈ flatS es, u.oneCell' = true := fun u hu => by
 obtain ⟨e, -, hu⟩ := List.mem_flatMap.1 hu
 simp only [cS, List.mem_cons, List.not_mem_nil, or_false] at hu
 rcases hu with rfl | rfl | rfl | rfl <;> rfl
def bY (w : World) (base : Nat) (v : Value) (es : List Sb) : Prop := w.ownsRow base 78 4 v es.length (flatS es)
theorem bY.later {es : List Sb} (h : bY w base v es) (hb : Below w.heap.size w w') : bY w' base v es := jH h hb
theorem bY.kept {es : List Sb} (h : bY w base v es) (hg : w.grownBy w' (some g)) (hne : ∀ k, v.ownBlock = some k → k ≠ g) : bY w' base v es := iK h hg hne
theorem bY.low {es : List Sb} (h : bY w base v es) (hb : base' ≤ base) : bY w base' v es := jI h hb
theorem bY.lt {es : List Sb} (h : bY w base v es) : ∀ k, v.ownBlock = some k → base ≤ k ∧ k < w.heap.size := World.ownsRow.lt h
theorem bY.ne {es : List Sb} (h : bY w base v es) (hb : w.heap[b]? = some (.cells cs t fr)) (ht : t ≠ 78) : v.ownBlock ≠ some b := nU h hb ht
theorem S0 : Ty 78 39 4 (.agg #[.int .i64 0, .int .i64 0, .int .i64 0, .slice none 0 0]) 48 := uY (by kernel_rfl) (by kernel_rfl) rfl (pO [VP]) (by decide) (by decide)
theorem SS.flat_cells {es : List Sb} (h : SS w (some ad) n es) : ∀ j u, (flatS es)[j]? = some u → w.cell? (ad.add j) = some u :=
 jU (by decide) GZ VP h.len fun i hi => by
  obtain ⟨b, o, hx, d0, d1, d2, d3⟩ := h.cells i hi
  exact ⟨b, o, hx, by rintro (_ | _ | _ | _ | q) u hu <;> first | (cases hu; assumption) | simp [cS] at hu⟩
theorem SS.rw {es : List Sb} (h : SS w x n es) : Rw w x n 4 (flatS es) :=
 ⟨by rw [fK, h.len], fun h0 e => (by obtain ⟨b, o, hx, -⟩ := h.cells 0 h0; rw [e] at hx; cases hx), pO es, fun ad hx => by subst hx; exact h.flat_cells⟩
theorem bY.mem {es : List Sb} (h : bY w base v es) : ∃ x c, v = .slice x es.length c ∧ es.length ≤ c ∧ c ≤ 9223372036854775807 ∧ (x = none → es.length = 0 ∧ c = 0) ∧ ∀ i, i < es.length → ∃ b o, x = some ⟨b, o, none⟩ ∧ w.cell? ⟨b, o + i * 4, none⟩ = some (.int .i64 (sbAt es i).id) ∧ w.cell? ⟨b, o + i * 4 + 1, none⟩ = some (.int .i64 (sbAt es i).a) ∧ w.cell? ⟨b, o + i * 4 + 2, none⟩ = some (.int .i64 (sbAt es i).l) ∧ w.cell? ⟨b, o + i * 4 + 3, none⟩ = some (.slice (sbAt es i).x (sbAt es i).n (sbAt es i).c) := by
 obtain ⟨x, c, hv, h1, h2, h3, h4⟩ := mI h
 refine ⟨x, c, hv, h1, h2, h3, fun i hi => ?_⟩
 obtain ⟨b, o, hx, e⟩ := h4 i hi
 have e := fun j u hj hu => e j u hj ((oH es i j hi hj).trans hu)
 exact ⟨b, o, hx, e 0 _ (by decide) rfl, e 1 _ (by decide) rfl, e 2 _ (by decide) rfl, e 3 _ (by decide) rfl⟩
def cF (e : Fc) : List Value := [.int .i64 e.id, .slice e.x e.n e.c]
def flatF (es : List Fc) : List Value := es.flatMap cF
theorem G0 (e : Fc) : (cF e).length = 2 := rfl
theorem gV : ∀ es : List Fc, (flatF es).length = es.length * 2 := mH G0
theorem A0 (es fs : List Fc) : flatF (es ++ fs) = flatF es ++ flatF fs := by simp [flatF]
theorem sJ : ∀ (es : List Fc) (i j : Nat), i < es.length → j < 2 → (flatF es)[i * 2 + j]? = (cF (fcAt es i))[j]? := rT G0 VO
theorem pP (es : List Fc) : ∀ u ∈ flatF es, u.oneCell' = true := fun u hu => by
 obtain ⟨e, -, hu⟩ := List.mem_flatMap.1 hu
 simp only [cF, List.mem_cons, List.not_mem_nil, or_false] at hu
 rcases hu with rfl | rfl <;> rfl
def dX (w : World) (base : Nat) (v : Value) (es : List Fc) : Prop := w.ownsRow base 80 2 v es.length (flatF es)
theorem dX.later {es : List Fc} (h : dX w base v es) (hb : Below w.heap.size w w') : dX w' base v es := jH h hb
theorem dX.kept {es : List Fc} (h : dX w base v es) (hg : w.grownBy w' (some g)) (hne : ∀ k, v.ownBlock = some k → k ≠ g) : dX w' base v es := iK h hg hne
theorem dX.low {es : List Fc} (h : dX w base v es) (hb : base' ≤ base) : dX w base' v es := jI h hb
theorem dX.lt {es : List Fc} (h : dX w base v es) : ∀ k, v.ownBlock = some k → base ≤ k ∧ k < w.heap.size := World.ownsRow.lt h
theorem dX.ne {es : List Fc} (h : dX w base v es) (hb : w.heap[b]? = some (.cells cs t fr)) (ht : t ≠ 80) : v.ownBlock ≠ some b := nU h hb ht
theorem S1 : Ty 80 76 2 (.agg #[.int .i64 0, .slice none 0 0]) 32 := uY (by kernel_rfl) (by kernel_rfl) rfl (pP [VO]) (by decide) (by decide)
theorem uX.flat_cells {es : List Fc} (h : uX w (some ad) n es) : ∀ j u, (flatF es)[j]? = some u → w.cell? (ad.add j) = some u :=
 jU (by decide) G0 VO h.len fun i hi => by
  obtain ⟨b, o, hx, d0, d1⟩ := h.cells i hi
  exact ⟨b, o, hx, by rintro (_ | _ | q) u hu <;> first | (cases hu; assumption) | simp [cF] at hu⟩
theorem uX.rw {es : List Fc} (h : uX w x n es) : Rw w x n 2 (flatF es) :=
 ⟨by rw [gV, h.len], fun h0 e => (by obtain ⟨b, o, hx, -⟩ := h.cells 0 h0; rw [e] at hx; cases hx), pP es, fun ad hx => by subst hx; exact h.flat_cells⟩
theorem dX.mem {es : List Fc} (h : dX w base v es) : ∃ x c, v = .slice x es.length c ∧ es.length ≤ c ∧ c ≤ 9223372036854775807 ∧ (x = none → es.length = 0 ∧ c = 0) ∧ ∀ i, i < es.length → ∃ b o, x = some ⟨b, o, none⟩ ∧ w.cell? ⟨b, o + i * 2, none⟩ = some (.int .i64 (fcAt es i).id) ∧ w.cell? ⟨b, o + i * 2 + 1, none⟩ = some (.slice (fcAt es i).x (fcAt es i).n (fcAt es i).c) := by
 obtain ⟨x, c, hv, h1, h2, h3, h4⟩ := mI h
 refine ⟨x, c, hv, h1, h2, h3, fun i hi => ?_⟩
 obtain ⟨b, o, hx, e⟩ := h4 i hi
 have e := fun j u hj hu => e j u hj ((sJ es i j hi hj).trans hu)
 exact ⟨b, o, hx, e 0 _ (by decide) rfl, e 1 _ (by decide) rfl⟩
theorem G1 (x : Option Addr) (n c : Nat) (es : List Rg) (w : World) (hl : RS w x n es) (hn : n ≤ 1048576) :
  Calls Tryz.prog 123 #[.slice x n c] w fun e w' => ∃ v, e = .returned v ∧ bN w' w.heap.size v es ∧ Below w.heap.size w w' := by
 obtain rfl := hl.len
 exact nW.2.2.1 _ _ SZ x _ c _ w hl.rw hn
theorem G2 (x : Option Addr) (n c : Nat) (es : List Sb) (w : World) (hl : SS w x n es) (hn : n ≤ 1048576) :
  Calls Tryz.prog 124 #[.slice x n c] w fun e w' => ∃ v, e = .returned v ∧ bY w' w.heap.size v es ∧ Below w.heap.size w w' := by
 obtain rfl := hl.len
 exact nW.2.2.2.1 _ _ S0 x _ c _ w hl.rw hn
theorem G3 (x : Option Addr) (n c : Nat) (es : List Fc) (w : World) (hl : uX w x n es) (hn : n ≤ 1048576) :
  Calls Tryz.prog 169 #[.slice x n c] w fun e w' => ∃ v, e = .returned v ∧ dX w' w.heap.size v es ∧ Below w.heap.size w w' := by
 obtain rfl := hl.len
 exact nW.2.2.2.2.1 _ _ S1 x _ c _ w hl.rw hn
theorem vD (p r : Rg) (v : Int) (hv : zM p.a r.a v) (bb kk : Nat) (w : World) (hby : w.cell? ⟨bb, 0, none⟩ = some (.func (.func 164) #[] #[])) :
  Calls Tryz.prog 202 #[.agg #[.int .i64 p.a, .int .i64 p.l, .int .i64 p.p], .agg #[.int .i64 r.a, .int .i64 r.l, .int .i64 r.p], .slice (some ⟨bb, 0, none⟩) 1 kk] w fun e w' => e = .returned (.int .i64 v) ∧ Below w.heap.size w w' := JQ.2.2.1 UP.2.2.1 p r v hv bb kk w hby
def NQ (e : Rg) (n : Nat) (ps : List Rg) (w : World) (r : Ending) (w' : World) : Prop :=
 ∃ v, r = .returned v ∧ Below w.heap.size w w' ∧ ∃ i, i ≤ n ∧ (∀ j, j < i → ¬ e.a < (aL ps j).a) ∧ (i < n → e.a < (aL ps i).a) ∧ bN w' w.heap.size v (ps.take i ++ [e] ++ ps.drop i)
theorem NR (e : Rg) (x : Option Addr) (n c : Nat) (ps : List Rg) (bf k : Nat) (w : World) (hp : RS w x n ps) (hn : n ≤ 32) (hnc : n ≤ c) (hc63 : c ≤ 9223372036854775807) (hx : (x = none ∧ c = 0) ∨ ∃ b o, x = some ⟨b, o, none⟩)
  (hby : w.cell? ⟨bf, 0, none⟩ = some (.func (.func 164) #[] #[])) :
  Calls Tryz.prog 179 #[.slice x n c, .agg #[.int .i64 e.a, .int .i64 e.l, .int .i64 e.p], .slice (some ⟨bf, 0, none⟩) 1 k] w (NQ e n ps w) := by
 have hB2 := cB w (.cells #[.int .i64 e.a, .int .i64 e.l, .int .i64 e.p] 51) (.cells #[.slice (some ⟨bf, 0, none⟩) 1 k] 250)
 refine (DQ.2.2.1 _ _ SZ e x n c bf 1 k (flatR ps) (fun i => decide (e.a < (aL ps i).a)) w hp.rw (pN [e]) hn hnc hc63 hx (mV _ _ x n c ps _ _ (hp.later hB2) (by omega) (fun i hi W hW => ?_) jA.2.2.1.2)).mono ?_
 ·obtain ⟨v, hv, hd⟩ := qW e.a (aL ps i).a
  exact (jA.2.2.1.1 e (aL ps i) v w.heap.size (w.heap.size + 1) bf 1 k W (fun i => (hW.cell (p := ⟨w.heap.size, i, none⟩) (by show w.heap.size < _; simp; omega)).trans (by simp)) (cell_later hW (by simp)) fun W9 h9 => vD e _ v hv bf k W9 (cell_later h9 (cell_later hW (cell_later hB2 hby)))).mono fun _ _ h => ⟨h.1.trans (congrArg (fun t => Ending.returned (.bool t)) hd.symm), h.2⟩
 ·rintro r w1 ⟨v, rfl, hb, i, hi, hlow, hup, ho⟩
  exact ⟨v, rfl, hb, i, hi, fun j hj => of_decide_eq_false (hlow j hj), fun h => of_decide_eq_true (hup h), kQ flatR uA AY hp.len hi ho⟩
theorem vE (p r : Sb) (v : Int) (hv : zM p.id r.id v) (bb kk : Nat) (w : World) (hby : w.cell? ⟨bb, 0, none⟩ = some (.func (.func 147) #[] #[])) :
  Calls Tryz.prog 185 #[.agg #[.int .i64 p.id, .int .i64 p.a, .int .i64 p.l, .slice p.x p.n p.c], .agg #[.int .i64 r.id, .int .i64 r.a, .int .i64 r.l, .slice r.x r.n r.c], .slice (some ⟨bb, 0, none⟩) 1 kk] w fun e w' => e = .returned (.int .i64 v) ∧ Below w.heap.size w w' := JQ.2.2.2.1 UP.2.2.2.1 p r v hv bb kk w hby
def NS (e : Sb) (n : Nat) (ps : List Sb) (w : World) (r : Ending) (w' : World) : Prop :=
 ∃ v, r = .returned v ∧ Below w.heap.size w w' ∧ ∃ i, i ≤ n ∧ (∀ j, j < i → ¬ e.id < (sbAt ps j).id) ∧ (i < n → e.id < (sbAt ps i).id) ∧ bY w' w.heap.size v (ps.take i ++ [e] ++ ps.drop i)
theorem NT (e : Sb) (x : Option Addr) (n c : Nat) (ps : List Sb) (bf k : Nat) (w : World) (hp : SS w x n ps) (hn : n ≤ 32) (hnc : n ≤ c) (hc63 : c ≤ 9223372036854775807) (hx : (x = none ∧ c = 0) ∨ ∃ b o, x = some ⟨b, o, none⟩)
  (hby : w.cell? ⟨bf, 0, none⟩ = some (.func (.func 147) #[] #[])) :
  Calls Tryz.prog 146 #[.slice x n c, .agg #[.int .i64 e.id, .int .i64 e.a, .int .i64 e.l, .slice e.x e.n e.c], .slice (some ⟨bf, 0, none⟩) 1 k] w (NS e n ps w) := by
 have hB2 := cB w (.cells #[.int .i64 e.id, .int .i64 e.a, .int .i64 e.l, .slice e.x e.n e.c] 78) (.cells #[.slice (some ⟨bf, 0, none⟩) 1 k] 232)
 refine (DQ.2.2.2.1 _ _ S0 e x n c bf 1 k (flatS ps) (fun i => decide (e.id < (sbAt ps i).id)) w hp.rw (pO [e]) hn hnc hc63 hx (iW _ _ x n c ps _ _ (hp.later hB2) (by omega) (fun i hi W hW => ?_) jA.2.2.2.1.2)).mono ?_
 ·obtain ⟨v, hv, hd⟩ := qW e.id (sbAt ps i).id
  exact (jA.2.2.2.1.1 e (sbAt ps i) v w.heap.size (w.heap.size + 1) bf 1 k W (fun i => (hW.cell (p := ⟨w.heap.size, i, none⟩) (by show w.heap.size < _; simp; omega)).trans (by simp)) (cell_later hW (by simp)) fun W9 h9 => vE e _ v hv bf k W9 (cell_later h9 (cell_later hW (cell_later hB2 hby)))).mono fun _ _ h => ⟨h.1.trans (congrArg (fun t => Ending.returned (.bool t)) hd.symm), h.2⟩
 ·rintro r w1 ⟨v, rfl, hb, i, hi, hlow, hup, ho⟩
  exact ⟨v, rfl, hb, i, hi, fun j hj => of_decide_eq_false (hlow j hj), fun h => of_decide_eq_true (hup h), kQ flatS fK AZ hp.len hi ho⟩
theorem vF (p r : Fc) (v : Int) (hv : zM p.id r.id v) (bb kk : Nat) (w : World) (hby : w.cell? ⟨bb, 0, none⟩ = some (.func (.func 151) #[] #[])) :
  Calls Tryz.prog 190 #[.agg #[.int .i64 p.id, .slice p.x p.n p.c], .agg #[.int .i64 r.id, .slice r.x r.n r.c], .slice (some ⟨bb, 0, none⟩) 1 kk] w fun e w' => e = .returned (.int .i64 v) ∧ Below w.heap.size w w' := JQ.2.2.2.2.1 UP.2.2.2.2.1 p r v hv bb kk w hby
def NU (e : Fc) (n : Nat) (ps : List Fc) (w : World) (r : Ending) (w' : World) : Prop :=
 ∃ v, r = .returned v ∧ Below w.heap.size w w' ∧ ∃ i, i ≤ n ∧ (∀ j, j < i → ¬ e.id < (fcAt ps j).id) ∧ (i < n → e.id < (fcAt ps i).id) ∧ dX w' w.heap.size v (ps.take i ++ [e] ++ ps.drop i)
theorem NV (e : Fc) (x : Option Addr) (n c : Nat) (ps : List Fc) (bf k : Nat) (w : World) (hp : uX w x n ps) (hn : n ≤ 32) (hnc : n ≤ c) (hc63 : c ≤ 9223372036854775807) (hx : (x = none ∧ c = 0) ∨ ∃ b o, x = some ⟨b, o, none⟩)
  (hby : w.cell? ⟨bf, 0, none⟩ = some (.func (.func 151) #[] #[])) :
  Calls Tryz.prog 150 #[.slice x n c, .agg #[.int .i64 e.id, .slice e.x e.n e.c], .slice (some ⟨bf, 0, none⟩) 1 k] w (NU e n ps w) := by
 have hB2 := cB w (.cells #[.int .i64 e.id, .slice e.x e.n e.c] 80) (.cells #[.slice (some ⟨bf, 0, none⟩) 1 k] 236)
 refine (DQ.2.2.2.2.1 _ _ S1 e x n c bf 1 k (flatF ps) (fun i => decide (e.id < (fcAt ps i).id)) w hp.rw (pP [e]) hn hnc hc63 hx (iX _ _ x n c ps _ _ (hp.later hB2) (by omega) (fun i hi W hW => ?_) jA.2.2.2.2.1.2)).mono ?_
 ·obtain ⟨v, hv, hd⟩ := qW e.id (fcAt ps i).id
  exact (jA.2.2.2.2.1.1 e (fcAt ps i) v w.heap.size (w.heap.size + 1) bf 1 k W (fun i => (hW.cell (p := ⟨w.heap.size, i, none⟩) (by show w.heap.size < _; simp; omega)).trans (by simp)) (cell_later hW (by simp)) fun W9 h9 => vF e _ v hv bf k W9 (cell_later h9 (cell_later hW (cell_later hB2 hby)))).mono fun _ _ h => ⟨h.1.trans (congrArg (fun t => Ending.returned (.bool t)) hd.symm), h.2⟩
 ·rintro r w1 ⟨v, rfl, hb, i, hi, hlow, hup, ho⟩
  exact ⟨v, rfl, hb, i, hi, fun j hj => of_decide_eq_false (hlow j hj), fun h => of_decide_eq_true (hup h), kQ flatF gV A0 hp.len hi ho⟩
theorem bN.drew (h : bN w base v es) : bN w.drew base v es := h.later (Below.refl _ _).drew
theorem EP (base g k cap i j : Nat) (es : List Rg) (w : World) (hO : bN w base (.slice (some ⟨g, 0, none⟩) (k + 1) cap) es) (hn : es.length = k + 1) (hi : i ≤ k) (hj : j = i + 1) (hn64 : k ≤ 64) (hnc : k + 1 ≤ cap) (hcm : cap ≤ 9223372036854775807) :
  Calls Tryz.prog 142 #[.slice (some ⟨g, 0, none⟩) (k + 1) cap, .int .i64 i, .int .i64 j] w fun e w' => e = .returned (.slice (some ⟨g, 0, none⟩) k cap) ∧ bN w' base (.slice (some ⟨g, 0, none⟩) k cap) (es.take i ++ es.drop j) ∧ w.grownBy w' (some g) :=
 (pF.2.2.1 _ _ SZ base g k cap i j (flatR es) w (by unfold bN at hO; rw [hn] at hO; exact hO) (pN es) hi hj hn64 hnc hcm).mono fun e w1 h => ⟨h.1, pC flatR uA AY hn (by omega) hj h.2.1, h.2.2⟩
theorem EQ (base g k cap i j : Nat) (es : List Sb) (w : World) (hO : bY w base (.slice (some ⟨g, 0, none⟩) (k + 1) cap) es) (hn : es.length = k + 1) (hi : i ≤ k) (hj : j = i + 1) (hn64 : k ≤ 64) (hnc : k + 1 ≤ cap) (hcm : cap ≤ 9223372036854775807) :
  Calls Tryz.prog 148 #[.slice (some ⟨g, 0, none⟩) (k + 1) cap, .int .i64 i, .int .i64 j] w fun e w' => e = .returned (.slice (some ⟨g, 0, none⟩) k cap) ∧ bY w' base (.slice (some ⟨g, 0, none⟩) k cap) (es.take i ++ es.drop j) ∧ w.grownBy w' (some g) :=
 (pF.2.2.2.1 _ _ S0 base g k cap i j (flatS es) w (by unfold bY at hO; rw [hn] at hO; exact hO) (pO es) hi hj hn64 hnc hcm).mono fun e w1 h => ⟨h.1, pC flatS fK AZ hn (by omega) hj h.2.1, h.2.2⟩
theorem dX.drew {es : List Fc} (h : dX w base v es) : dX w.drew base v es := h.later (Below.refl _ _).drew
theorem ER (base g k cap i j : Nat) (es : List Fc) (w : World) (hO : dX w base (.slice (some ⟨g, 0, none⟩) (k + 1) cap) es) (hn : es.length = k + 1) (hi : i ≤ k) (hj : j = i + 1) (hn64 : k ≤ 64) (hnc : k + 1 ≤ cap) (hcm : cap ≤ 9223372036854775807) :
  Calls Tryz.prog 156 #[.slice (some ⟨g, 0, none⟩) (k + 1) cap, .int .i64 i, .int .i64 j] w fun e w' => e = .returned (.slice (some ⟨g, 0, none⟩) k cap) ∧ dX w' base (.slice (some ⟨g, 0, none⟩) k cap) (es.take i ++ es.drop j) ∧ w.grownBy w' (some g) :=
 (pF.2.2.2.2.1 _ _ S1 base g k cap i j (flatF es) w (by unfold dX at hO; rw [hn] at hO; exact hO) (pP es) hi hj hn64 hnc hcm).mono fun e w1 h => ⟨h.1, pC flatF gV A0 hn (by omega) hj h.2.1, h.2.2⟩
def iG (ps : List Rg) (i : Nat) : Bool := i == 0 || decide ((aL ps (i - 1)).a < (aL ps i).a)
def kA (ps : List Rg) : Bool := (List.range ps.length).all (iG ps)
theorem NW {ps : List Rg} (hk : k < ps.length) (h : iG ps k = false) : kA ps = false := by
 unfold kA
 rw [List.all_eq_false]
 exact ⟨k, by simpa using hk, by simp [h]⟩
theorem J5 {ps : List Rg} (h : ∀ j, j < ps.length → iG ps j = true) : kA ps = true := by
 unfold kA
 rw [List.all_eq_true]
 intro j hj
 exact h j (by simpa using hj)
theorem J6 (x : Option Addr) (n c : Nat) (ps : List Rg) (bb kk : Nat) (w : World) (hp : RS w x n ps) (hn : n ≤ 64) (hby : w.cell? ⟨bb, 0, none⟩ = some (.func (.func 164) #[] #[])) :
  Calls Tryz.prog 163 #[.slice x n c, .slice (some ⟨bb, 0, none⟩) 1 kk] w fun e w' => e = .returned (.bool (kA ps)) ∧ Below w.heap.size w w' := by
 go_enter Tryz.func163, Tryz.ntmps163
 go_wp2
 go_loopw [5] (fun i wr => ∃ j : Nat, 1 ≤ j ∧ j ≤ n + 1 ∧ i = .int .i64 j ∧ Below w.heap.size w wr ∧ (∀ i, i < j → i < n → iG ps i = true)) (fun i _ => n + 1 - (intOf i).toNat)
 case atStart => exact ⟨1, by omega, by omega, rfl, Below.refl _ _, fun i hi _ => by
  obtain rfl : i = 0 := by omega
  rfl⟩
 case round =>
  obtain ⟨j, hj1, hjn, rfl, hB, hok⟩ := hrel
  have hz := hB.size
  have hpl := hp.len
  by_cases hlt : j < n
  ·obtain ⟨i, rfl⟩ : ∃ i, j = i + 1 := ⟨j - 1, by omega⟩
   have hp2 := hp.later hB
   obtain ⟨b, o, rfl, c0, c1, c2⟩ := hp2.cells i (by omega)
   obtain ⟨b2, o2, hbo, d0, d1, d2⟩ := hp2.cells (i + 1) (by omega)
   simp only [Option.some.injEq, Addr.mk.injEq, and_true] at hbo
   obtain ⟨rfl, rfl⟩ := hbo
   have hby' := cell_later hB hby
   have hlt' := hlt
   have g0 := Ws.here c0
   have k0 := Ws.here d0
   have g1 := Ws.here c1
   have k1 := Ws.here d1
   have g2 := Ws.here c2
   have k2 := Ws.here d2
   have g9 := Ws.here hby'
   have hv : ∃ v, zM ((aL ps i).a) ((aL ps (i + 1)).a) v ∧ (decide ((aL ps i).a < (aL ps (i + 1)).a) = !(decide (0 ≤ v))) := by
    rcases Int.lt_trichotomy ((aL ps i).a) ((aL ps (i + 1)).a) with h | h | h
    ·exact ⟨-1, .inl ⟨h, rfl⟩, by simp [h]⟩
    ·exact ⟨0, .inr (.inl ⟨h, rfl⟩), by simp [h]⟩
    ·exact ⟨1, .inr (.inr ⟨h, rfl⟩), by simp; omega⟩
   obtain ⟨v, hv, hd⟩ := hv
   go_upto_region 4 with fail
   clear c0 d0 c1 d1 c2 d2
   first | refine aI wr.heap.size (by kernel_rfl) (by kernel_rfl) ?_ | refine fP wr.heap.size ?_
   cases hg : decide (0 ≤ v)
   all_goals rw [hg] at hd
   all_goals have hge : decide (v ≥ 0) = _ := hg
   all_goals repeat (go_big_quiet_step ((go_at_call 202; exact Calls.in_ws (Nat.le_refl _) (vD (aL ps i) (aL ps (i + 1)) _ hv _ _ _ (g9 _)))))
   all_goals refine wpQuiet_nil ?_
   all_goals rintro _ ⟨u, rfl⟩
   all_goals have hu := hB.trans (u.property.mono hz)
   all_goals generalize u.val = wu at hu ⊢
   all_goals clear u g9 g0 k0 g1 k1 g2 k2
   all_goals go_wp2
   ·go_roundw
    case rel => exact ⟨i + 1 + 1, by omega, by omega, by go_num, hu, fun q hq hqn => by
     by_cases hq2 : q < i + 1
     ·exact hok q hq2 hqn
     ·obtain rfl : q = i + 1 := by omega
      simp only [iG, Nat.add_sub_cancel, hd]
      simp⟩
    case measure => simp [intOf]; omega
   ·go_ret
    exact ⟨aH (NW (k := i + 1) (by omega) (by simp only [iG, Nat.add_sub_cancel, hd]; simp)).symm, hu⟩
  ·go_wp2
   go_ret
   exact ⟨aH (J5 (fun i hi => hok i (by omega) (by omega))).symm, hB⟩
def iH (ps : List Sb) (i : Nat) : Bool := i == 0 || decide ((sbAt ps (i - 1)).id < (sbAt ps i).id)
def gW (ps : List Sb) : Bool := (List.range ps.length).all (iH ps)
theorem NX {ps : List Sb} (hk : k < ps.length) (h : iH ps k = false) : gW ps = false := by
 unfold gW
 rw [List.all_eq_false]
 exact ⟨k, by simpa using hk, by simp [h]⟩
theorem J7 {ps : List Sb} (h : ∀ j, j < ps.length → iH ps j = true) : gW ps = true := by
 unfold gW
 rw [List.all_eq_true]
 intro j hj
 exact h j (by simpa using hj)
theorem J8 (x : Option Addr) (n c : Nat) (ps : List Sb) (bb kk : Nat) (w : World) (hp : SS w x n ps) (hn : n ≤ 64) (hby : w.cell? ⟨bb, 0, none⟩ = some (.func (.func 147) #[] #[])) :
  Calls Tryz.prog 166 #[.slice x n c, .slice (some ⟨bb, 0, none⟩) 1 kk] w fun e w' => e = .returned (.bool (gW ps)) ∧ Below w.heap.size w w' := by
 go_enter Tryz.func166, Tryz.ntmps166
 go_wp2
 go_loopw [5] (fun i wr => ∃ j : Nat, 1 ≤ j ∧ j ≤ n + 1 ∧ i = .int .i64 j ∧ Below w.heap.size w wr ∧ (∀ i, i < j → i < n → iH ps i = true)) (fun i _ => n + 1 - (intOf i).toNat)
 case atStart => exact ⟨1, by omega, by omega, rfl, Below.refl _ _, fun i hi _ => by
  obtain rfl : i = 0 := by omega
  rfl⟩
 case round =>
  obtain ⟨j, hj1, hjn, rfl, hB, hok⟩ := hrel
  have hz := hB.size
  have hpl := hp.len
  by_cases hlt : j < n
  ·obtain ⟨i, rfl⟩ : ∃ i, j = i + 1 := ⟨j - 1, by omega⟩
   have hp2 := hp.later hB
   obtain ⟨b, o, rfl, c0, c1, c2, c3⟩ := hp2.cells i (by omega)
   obtain ⟨b2, o2, hbo, d0, d1, d2, d3⟩ := hp2.cells (i + 1) (by omega)
   simp only [Option.some.injEq, Addr.mk.injEq, and_true] at hbo
   obtain ⟨rfl, rfl⟩ := hbo
   have hby' := cell_later hB hby
   have hlt' := hlt
   have g0 := Ws.here c0
   have k0 := Ws.here d0
   have g1 := Ws.here c1
   have k1 := Ws.here d1
   have g2 := Ws.here c2
   have k2 := Ws.here d2
   have g3 := Ws.here c3
   have k3 := Ws.here d3
   have g9 := Ws.here hby'
   have hv : ∃ v, zM ((sbAt ps i).id) ((sbAt ps (i + 1)).id) v ∧ (decide ((sbAt ps i).id < (sbAt ps (i + 1)).id) = !(decide (0 ≤ v))) := by
    rcases Int.lt_trichotomy ((sbAt ps i).id) ((sbAt ps (i + 1)).id) with h | h | h
    ·exact ⟨-1, .inl ⟨h, rfl⟩, by simp [h]⟩
    ·exact ⟨0, .inr (.inl ⟨h, rfl⟩), by simp [h]⟩
    ·exact ⟨1, .inr (.inr ⟨h, rfl⟩), by simp; omega⟩
   obtain ⟨v, hv, hd⟩ := hv
   go_upto_region 4 with fail
   clear c0 d0 c1 d1 c2 d2 c3 d3
   first | refine aI wr.heap.size (by kernel_rfl) (by kernel_rfl) ?_ | refine fP wr.heap.size ?_
   cases hg : decide (0 ≤ v)
   all_goals rw [hg] at hd
   all_goals have hge : decide (v ≥ 0) = _ := hg
   all_goals repeat (go_big_quiet_step ((go_at_call 185; exact Calls.in_ws (Nat.le_refl _) (vE (sbAt ps i) (sbAt ps (i + 1)) _ hv _ _ _ (g9 _)))))
   all_goals refine wpQuiet_nil ?_
   all_goals rintro _ ⟨u, rfl⟩
   all_goals have hu := hB.trans (u.property.mono hz)
   all_goals generalize u.val = wu at hu ⊢
   all_goals clear u g9 g0 k0 g1 k1 g2 k2 g3 k3
   all_goals go_wp2
   ·go_roundw
    case rel => exact ⟨i + 1 + 1, by omega, by omega, by go_num, hu, fun q hq hqn => by
     by_cases hq2 : q < i + 1
     ·exact hok q hq2 hqn
     ·obtain rfl : q = i + 1 := by omega
      simp only [iH, Nat.add_sub_cancel, hd]
      simp⟩
    case measure => simp [intOf]; omega
   ·go_ret
    exact ⟨aH (NX (k := i + 1) (by omega) (by simp only [iH, Nat.add_sub_cancel, hd]; simp)).symm, hu⟩
  ·go_wp2
   go_ret
   exact ⟨aH (J7 (fun i hi => hok i (by omega) (by omega))).symm, hB⟩
def eG (ps : List Fc) (i : Nat) : Bool := i == 0 || decide ((fcAt ps (i - 1)).id < (fcAt ps i).id)
def dM (ps : List Fc) : Bool := (List.range ps.length).all (eG ps)
theorem NY {ps : List Fc} (hk : k < ps.length) (h : eG ps k = false) : dM ps = false := by
 unfold dM
 rw [List.all_eq_false]
 exact ⟨k, by simpa using hk, by simp [h]⟩
theorem A1 {ps : List Fc} (h : ∀ j, j < ps.length → eG ps j = true) : dM ps = true := by
 unfold dM
 rw [List.all_eq_true]
 intro j hj
 exact h j (by simpa using hj)
theorem J9 (x : Option Addr) (n c : Nat) (ps : List Fc) (bb kk : Nat) (w : World) (hp : uX w x n ps) (hn : n ≤ 64) (hby : w.cell? ⟨bb, 0, none⟩ = some (.func (.func 151) #[] #[])) :
  Calls Tryz.prog 204 #[.slice x n c, .slice (some ⟨bb, 0, none⟩) 1 kk] w fun e w' => e = .returned (.bool (dM ps)) ∧ Below w.heap.size w w' := by
 go_enter Tryz.func204, Tryz.ntmps204
 go_wp2
 go_loopw [5] (fun i wr => ∃ j : Nat, 1 ≤ j ∧ j ≤ n + 1 ∧ i = .int .i64 j ∧ Below w.heap.size w wr ∧ (∀ i, i < j → i < n → eG ps i = true)) (fun i _ => n + 1 - (intOf i).toNat)
 case atStart => exact ⟨1, by omega, by omega, rfl, Below.refl _ _, fun i hi _ => by
  obtain rfl : i = 0 := by omega
  rfl⟩
 case round =>
  obtain ⟨j, hj1, hjn, rfl, hB, hok⟩ := hrel
  have hz := hB.size
  have hpl := hp.len
  by_cases hlt : j < n
  ·obtain ⟨i, rfl⟩ : ∃ i, j = i + 1 := ⟨j - 1, by omega⟩
   have hp2 := hp.later hB
   obtain ⟨b, o, rfl, c0, c1⟩ := hp2.cells i (by omega)
   obtain ⟨b2, o2, hbo, d0, d1⟩ := hp2.cells (i + 1) (by omega)
   simp only [Option.some.injEq, Addr.mk.injEq, and_true] at hbo
   obtain ⟨rfl, rfl⟩ := hbo
   have hby' := cell_later hB hby
   have hlt' := hlt
   have g0 := Ws.here c0
   have k0 := Ws.here d0
   have g1 := Ws.here c1
   have k1 := Ws.here d1
   have g9 := Ws.here hby'
   have hv : ∃ v, zM ((fcAt ps i).id) ((fcAt ps (i + 1)).id) v ∧ (decide ((fcAt ps i).id < (fcAt ps (i + 1)).id) = !(decide (0 ≤ v))) := by
    rcases Int.lt_trichotomy ((fcAt ps i).id) ((fcAt ps (i + 1)).id) with h | h | h
    ·exact ⟨-1, .inl ⟨h, rfl⟩, by simp [h]⟩
    ·exact ⟨0, .inr (.inl ⟨h, rfl⟩), by simp [h]⟩
    ·exact ⟨1, .inr (.inr ⟨h, rfl⟩), by simp; omega⟩
   obtain ⟨v, hv, hd⟩ := hv
   go_upto_region 4 with fail
   clear c0 d0 c1 d1
   first | refine aI wr.heap.size (by kernel_rfl) (by kernel_rfl) ?_ | refine fP wr.heap.size ?_
   cases hg : decide (0 ≤ v)
   all_goals rw [hg] at hd
   all_goals have hge : decide (v ≥ 0) = _ := hg
   all_goals repeat (go_big_quiet_step ((go_at_call 190; exact Calls.in_ws (Nat.le_refl _) (vF (fcAt ps i) (fcAt ps (i + 1)) _ hv _ _ _ (g9 _)))))
   all_goals refine wpQuiet_nil ?_
   all_goals rintro _ ⟨u, rfl⟩
   all_goals have hu := hB.trans (u.property.mono hz)
   all_goals generalize u.val = wu at hu ⊢
   all_goals clear u g9 g0 k0 g1 k1
   all_goals go_wp2
   ·go_roundw
    case rel => exact ⟨i + 1 + 1, by omega, by omega, by go_num, hu, fun q hq hqn => by
     by_cases hq2 : q < i + 1
     ·exact hok q hq2 hqn
     ·obtain rfl : q = i + 1 := by omega
      simp only [eG, Nat.add_sub_cancel, hd]
      simp⟩
    case measure => simp [intOf]; omega
   ·go_ret
    exact ⟨aH (NY (k := i + 1) (by omega) (by simp only [eG, Nat.add_sub_cancel, hd]; simp)).symm, hu⟩
  ·go_wp2
   go_ret
   exact ⟨aH (A1 (fun i hi => hok i (by omega) (by omega))).symm, hB⟩
theorem G4 (a : Int) (w : World) :
  Calls Tryz.prog 155 #[.int .i64 a] w fun e w' => e = .returned (.int .i64 a) ∧ Below w.heap.size w w' := by
 go_enter Tryz.func155, Tryz.ntmps155
 go_wp2
 go_ret
 exact ⟨rfl, Below.refl _ _⟩
theorem ES (args : Array Value) (W : World) : (callFunc 155 args).run Tryz.prog W = .ok (.enter 155 args) W := by simp [go_sem]
theorem vG (p r v : Int) (hv : zM p r v) (bb kk : Nat) (w : World) (hby : w.cell? ⟨bb, 0, none⟩ = some (.func (.func 155) #[] #[])) :
  Calls Tryz.prog 195 #[.int .i64 p, .int .i64 r, .slice (some ⟨bb, 0, none⟩) 1 kk] w fun e w' => e = .returned (.int .i64 v) ∧ Below w.heap.size w w' := by
 have hcall := ES
 go_enter Tryz.func195, Tryz.ntmps195
 go_wp2
 go_loopw [12] (fun i wr => ∃ j : Nat, (j = 0 ∨ (j = 1 ∧ v = 0)) ∧ i = .int .i64 j ∧ Below w.heap.size w wr) (fun i _ => 1 - (intOf i).toNat)
 case atStart => exact ⟨0, .inl rfl, rfl, Below.refl _ _⟩
 case round =>
  obtain ⟨j, hj, rfl, hB⟩ := hrel
  rcases hj with rfl | ⟨rfl, hv0⟩
  ·have hz := hB.size
   have e9 : wr.cell? ⟨bb, 0, none⟩ = some (.func (.func 155) #[] #[]) := cell_later hB hby
   go_upto_region 4 with fail
   clear e9
   first | refine aI wr.heap.size (by kernel_rfl) (by kernel_rfl) ?_ | refine fP wr.heap.size ?_
   repeat (go_big_quiet_step (first | (go_at_call 155; exact Calls.in_ws (Nat.le_refl _) (G4 _ _)) | (go_at_call 159; exact Calls.in_ws_same (xC _ _ _ hv _))))
   refine wpQuiet_nil ?_
   rintro _ ⟨u, rfl⟩
   have hu := hB.trans (u.property.mono hz)
   generalize u.val = wu at hu ⊢
   clear u
   rcases hv with ⟨h, rfl⟩ | ⟨h, rfl⟩ | ⟨h, rfl⟩
   ·go_wp2
    go_ret
    exact ⟨rfl, hu⟩
   ·go_wp2
    go_roundw
    case rel => exact ⟨1, .inr ⟨rfl, trivial⟩, by go_num, hu⟩
    case measure => simp [intOf]
   ·go_wp2
    go_ret
    exact ⟨rfl, hu⟩
  ·subst hv0
   go_wp2
   go_ret
   exact ⟨rfl, hB⟩
def jK (ps : List Int) (i : Nat) : Bool := i == 0 || decide ((bA ps (i - 1)) < (bA ps i))
def fX (ps : List Int) : Bool := (List.range ps.length).all (jK ps)
theorem NZ (hk : k < ps.length) (h : jK ps k = false) : fX ps = false := by
 unfold fX
 rw [List.all_eq_false]
 exact ⟨k, by simpa using hk, by simp [h]⟩
theorem KA (h : ∀ j, j < ps.length → jK ps j = true) : fX ps = true := by
 unfold fX
 rw [List.all_eq_true]
 intro j hj
 exact h j (by simpa using hj)
theorem KB (x : Option Addr) (n c : Nat) (ps : List Int) (bb kk : Nat) (w : World) (hp : IS w x n ps) (hn : n ≤ 64) (hby : w.cell? ⟨bb, 0, none⟩ = some (.func (.func 155) #[] #[])) :
  Calls Tryz.prog 220 #[.slice x n c, .slice (some ⟨bb, 0, none⟩) 1 kk] w fun e w' => e = .returned (.bool (fX ps)) ∧ Below w.heap.size w w' := by
 go_enter Tryz.func220, Tryz.ntmps220
 go_wp2
 go_loopw [5] (fun i wr => ∃ j : Nat, 1 ≤ j ∧ j ≤ n + 1 ∧ i = .int .i64 j ∧ Below w.heap.size w wr ∧ (∀ i, i < j → i < n → jK ps i = true)) (fun i _ => n + 1 - (intOf i).toNat)
 case atStart => exact ⟨1, by omega, by omega, rfl, Below.refl _ _, fun i hi _ => by
  obtain rfl : i = 0 := by omega
  rfl⟩
 case round =>
  obtain ⟨j, hj1, hjn, rfl, hB, hok⟩ := hrel
  have hz := hB.size
  have hpl := hp.len
  by_cases hlt : j < n
  ·obtain ⟨i, rfl⟩ : ∃ i, j = i + 1 := ⟨j - 1, by omega⟩
   have hp2 := hp.later hB
   obtain ⟨b, o, rfl, c0⟩ := hp2.cells i (by omega)
   obtain ⟨b2, o2, hbo, d0⟩ := hp2.cells (i + 1) (by omega)
   simp only [Option.some.injEq, Addr.mk.injEq, and_true] at hbo
   obtain ⟨rfl, rfl⟩ := hbo
   have hby' := cell_later hB hby
   have hlt' := hlt
   have g0 := Ws.here c0
   have k0 := Ws.here d0
   have g9 := Ws.here hby'
   have hv : ∃ v, zM ((bA ps i)) ((bA ps (i + 1))) v ∧ (decide ((bA ps i) < (bA ps (i + 1))) = !(decide (0 ≤ v))) := by
    rcases Int.lt_trichotomy ((bA ps i)) ((bA ps (i + 1))) with h | h | h
    ·exact ⟨-1, .inl ⟨h, rfl⟩, by simp [h]⟩
    ·exact ⟨0, .inr (.inl ⟨h, rfl⟩), by simp [h]⟩
    ·exact ⟨1, .inr (.inr ⟨h, rfl⟩), by simp; omega⟩
   obtain ⟨v, hv, hd⟩ := hv
   go_upto_region 4 with fail
   clear c0 d0
   first | refine aI wr.heap.size (by kernel_rfl) (by kernel_rfl) ?_ | refine fP wr.heap.size ?_
   cases hg : decide (0 ≤ v)
   all_goals rw [hg] at hd
   all_goals have hge : decide (v ≥ 0) = _ := hg
   all_goals repeat (go_big_quiet_step ((go_at_call 195; exact Calls.in_ws (Nat.le_refl _) (vG (bA ps i) (bA ps (i + 1)) _ hv _ _ _ (g9 _)))))
   all_goals refine wpQuiet_nil ?_
   all_goals rintro _ ⟨u, rfl⟩
   all_goals have hu := hB.trans (u.property.mono hz)
   all_goals generalize u.val = wu at hu ⊢
   all_goals clear u g9 g0 k0
   all_goals go_wp2
   ·go_roundw
    case rel => exact ⟨i + 1 + 1, by omega, by omega, by go_num, hu, fun q hq hqn => by
     by_cases hq2 : q < i + 1
     ·exact hok q hq2 hqn
     ·obtain rfl : q = i + 1 := by omega
      simp only [jK, Nat.add_sub_cancel, hd]
      simp⟩
    case measure => simp [intOf]; omega
   ·go_ret
    exact ⟨aH (NZ (k := i + 1) (by omega) (by simp only [jK, Nat.add_sub_cancel, hd]; simp)).symm, hu⟩
  ·go_wp2
   go_ret
   exact ⟨aH (KA (fun i hi => hok i (by omega) (by omega))).symm, hB⟩
theorem N0 (a l : Int) (t : Int) (h : chk a l = t) (w : World) : Calls Tryz.prog 35 #[.agg #[.int .i64 a, .int .i64 l]] w fun e w' => e = .returned (.int .i64 t) ∧ Below w.heap.size w w' := by
 subst h
 exact check_any a l w
def A2 (r : Rg) : Bool := rt r.a r.l && dH r.p 1 65536
theorem xY (r : Rg) (w : World) :
  Calls Tryz.prog 161 #[.agg #[.int .i64 r.a, .int .i64 r.l, .int .i64 r.p]] w fun e w' => e = .returned (.bool (A2 r)) ∧ Below w.heap.size w w' := by
 have hc := check_any r.a r.l
 by_cases h : chk r.a r.l = 0
 ·have hr : A2 r = dH r.p 1 65536 := by unfold A2 rt; rw [h]; simp
  rw [hr]
  go_enter Tryz.func161, Tryz.ntmps161
  go_wp2_with fail
  refine (N0 _ _ _ h _).mono ?_
  rintro e w1 ⟨rfl, hb1⟩
  have c2 : w1.cell? ⟨w.heap.size, 2, none⟩ = some (.int .i64 r.p) := cell_later hb1 (by simp)
  go_wp2_with (go_at_call 70; refine (isId_any _ _).mono ?_; rintro e w2 ⟨rfl, rfl⟩)
  go_ret
  exact ⟨rfl, (bl1 w _).trans (hb1.mono (by simp))⟩
 ·have hr : A2 r = false := by unfold A2 rt; simp [h]
  have h2 : (chk r.a r.l == 0) = false := by simpa using h
  rw [hr]
  go_enter Tryz.func161, Tryz.ntmps161
  go_wp2_with (go_at_call 35; refine (check_any _ _ _).mono ?_; rintro e w1 ⟨rfl, hb1⟩)
  go_ret
  exact ⟨rfl, (bl1 w _).trans (hb1.mono (by simp))⟩
theorem iI (r : Rg) (t : Bool) (h : A2 r = t) (w : World) :
  Calls Tryz.prog 161 #[.agg #[.int .i64 r.a, .int .i64 r.l, .int .i64 r.p]] w fun e w' => e = .returned (.bool t) ∧ Below w.heap.size w w' := by
 subst h
 exact xY r w
def CH (rs : List Rg) (c m : Int) (i : Nat) : Bool := gF (aL rs i).a (aL rs i).l c m
theorem wA (c m : Int) (p : Rg) (b : Nat) (w : World) (h0 : w.cell? ⟨b, 0, none⟩ = some (.int .i64 c)) (h1 : w.cell? ⟨b, 1, none⟩ = some (.int .i64 m)) :
  Calls Tryz.prog 201 #[.agg #[.int .i64 p.a, .int .i64 p.l, .int .i64 p.p], .pointer (some ⟨b, 0, none⟩)] w fun e w' => e = .returned (.bool (gF p.a p.l c m)) ∧ Below w.heap.size w w' := by
 have k0 : ∀ q, (w.alloc q).cell? ⟨b, 0, none⟩ = some (.int .i64 c) := fun q => cell_later (bl1 w q) h0
 have k1 : ∀ q, (w.alloc q).cell? ⟨b, 1, none⟩ = some (.int .i64 m) := fun q => cell_later (bl1 w q) h1
 go_enter Tryz.func201, Tryz.ntmps201
 go_wp2_with (go_at_call 15; refine (meets_any _ _ _ _ _).mono ?_; rintro e w1 ⟨rfl, hb1⟩)
 go_ret
 exact ⟨rfl, (bl1 w _).trans (hb1.mono (by simp))⟩
theorem uC (args : Array Value) (W : World) : (callFunc 201 args).run Tryz.prog W = .ok (.enter 201 args) W := by simp [go_sem]
theorem zX (c m : Int) (b n : Nat) (rs : List Rg) (w : World) (h0 : w.cell? ⟨b, 0, none⟩ = some (.int .i64 c)) (h1 : w.cell? ⟨b, 1, none⟩ = some (.int .i64 m)) :
  rE 201 #[.pointer (some ⟨b, 0, none⟩)] n rs (CH rs c m) w := fun i _ W hW => wA c m (aL rs i) b W (cell_later hW h0) (cell_later hW h1)
theorem oI (c m : Int) (x : Option Addr) (n k : Nat) (rs : List Rg) (w : World) (hp : RS w x n rs) (hn : n ≤ 64) :
  Calls Tryz.prog 162 #[.slice x n k, .agg #[.int .i64 c, .int .i64 m]] w fun e w' => e = .returned (.bool (aK n (CH rs c m))) ∧ Below w.heap.size w w' := by
 go_enter Tryz.func162, Tryz.ntmps162
 go_wp2_with fail
 refine (dR 201 _ x n k rs _ _ (hp.later (bl1 w _)) (by omega) (zX c m w.heap.size n rs _ (by simp) (by simp)) uC).mono ?_
 rintro e w1 ⟨rfl, hb1⟩
 go_wp2
 go_ret
 exact ⟨rfl, (bl1 w _).trans (hb1.mono (by simp))⟩
def wT (ss : List Sb) (c m : Int) (i : Nat) : Bool := gF (sbAt ss i).a (sbAt ss i).l c m
theorem zY (c m : Int) (p : Sb) (b : Nat) (w : World) (h0 : w.cell? ⟨b, 0, none⟩ = some (.int .i64 c)) (h1 : w.cell? ⟨b, 1, none⟩ = some (.int .i64 m)) :
  Calls Tryz.prog 183 #[.agg #[.int .i64 p.id, .int .i64 p.a, .int .i64 p.l, .slice p.x p.n p.c], .pointer (some ⟨b, 0, none⟩)] w fun e w' => e = .returned (.bool (gF p.a p.l c m)) ∧ Below w.heap.size w w' := by
 have k0 : ∀ q, (w.alloc q).cell? ⟨b, 0, none⟩ = some (.int .i64 c) := fun q => cell_later (bl1 w q) h0
 have k1 : ∀ q, (w.alloc q).cell? ⟨b, 1, none⟩ = some (.int .i64 m) := fun q => cell_later (bl1 w q) h1
 go_enter Tryz.func183, Tryz.ntmps183
 go_wp2_with (go_at_call 15; refine (meets_any _ _ _ _ _).mono ?_; rintro e w1 ⟨rfl, hb1⟩)
 go_ret
 exact ⟨rfl, (bl1 w _).trans (hb1.mono (by simp))⟩
theorem xZ (args : Array Value) (W : World) : (callFunc 183 args).run Tryz.prog W = .ok (.enter 183 args) W := by simp [go_sem]
theorem ET (c m : Int) (b n : Nat) (ss : List Sb) (w : World) (h0 : w.cell? ⟨b, 0, none⟩ = some (.int .i64 c)) (h1 : w.cell? ⟨b, 1, none⟩ = some (.int .i64 m)) :
  oG 183 #[.pointer (some ⟨b, 0, none⟩)] n ss (wT ss c m) w := fun i _ W hW => zY c m (sbAt ss i) b W (cell_later hW h0) (cell_later hW h1)
theorem sK (c m : Int) (x : Option Addr) (n k : Nat) (ss : List Sb) (w : World) (hp : SS w x n ss) (hn : n ≤ 64) :
  Calls Tryz.prog 145 #[.slice x n k, .agg #[.int .i64 c, .int .i64 m]] w fun e w' => e = .returned (.bool (aK n (wT ss c m))) ∧ Below w.heap.size w w' := by
 go_enter Tryz.func145, Tryz.ntmps145
 go_wp2_with fail
 refine (fE 183 _ x n k ss _ _ (hp.later (bl1 w _)) (by omega) (ET c m w.heap.size n ss _ (by simp) (by simp)) xZ).mono ?_
 rintro e w1 ⟨rfl, hb1⟩
 go_wp2
 go_ret
 exact ⟨rfl, (bl1 w _).trans (hb1.mono (by simp))⟩
def S2 (rs : List Rg) (c m : Int) (i : Nat) : Bool := iZ c m (aL rs i).a (aL rs i).l
def kP (n : Nat) (rs : List Rg) (id c m : Int) : Bool := dH id 1 65536 && aK n (S2 rs c m)
theorem zZ (c m : Int) (p : Rg) (b : Nat) (w : World) (h0 : w.cell? ⟨b, 0, none⟩ = some (.int .i64 c)) (h1 : w.cell? ⟨b, 1, none⟩ = some (.int .i64 m)) :
  Calls Tryz.prog 181 #[.agg #[.int .i64 p.a, .int .i64 p.l, .int .i64 p.p], .pointer (some ⟨b, 0, none⟩)] w fun e w' => e = .returned (.bool (iZ c m p.a p.l)) ∧ Below w.heap.size w w' := by
 have k0 : ∀ q, (w.alloc q).cell? ⟨b, 0, none⟩ = some (.int .i64 c) := fun q => cell_later (bl1 w q) h0
 have k1 : ∀ q, (w.alloc q).cell? ⟨b, 1, none⟩ = some (.int .i64 m) := fun q => cell_later (bl1 w q) h1
 go_enter Tryz.func181, Tryz.ntmps181
 go_wp2_with (go_at_call 26; refine (inside_any _ _ _ _ _).mono ?_; rintro e w1 ⟨rfl, hb1⟩)
 go_ret
 exact ⟨rfl, (bl1 w _).trans (hb1.mono (by simp))⟩
theorem yA (args : Array Value) (W : World) : (callFunc 181 args).run Tryz.prog W = .ok (.enter 181 args) W := by simp [go_sem]
theorem EU (c m : Int) (b n : Nat) (rs : List Rg) (w : World) (h0 : w.cell? ⟨b, 0, none⟩ = some (.int .i64 c)) (h1 : w.cell? ⟨b, 1, none⟩ = some (.int .i64 m)) :
  rE 181 #[.pointer (some ⟨b, 0, none⟩)] n rs (S2 rs c m) w := fun i _ W hW => zZ c m (aL rs i) b W (cell_later hW h0) (cell_later hW h1)
theorem CI (vid id c m : Int) (rx sx : Option Addr) (rn rc sn sc : Nat) (rs : List Rg) (w : World) (hp : RS w rx rn rs) (hn : rn ≤ 64) :
  Calls Tryz.prog 143 #[.agg #[.int .i64 vid, .slice rx rn rc, .slice sx sn sc], .int .i64 id, .agg #[.int .i64 c, .int .i64 m]] w fun e w' => e = .returned (.bool (kP rn rs id c m)) ∧ Below w.heap.size w w' := by
 unfold kP
 cases hw : dH id 1 65536
 ·go_enter Tryz.func143, Tryz.ntmps143
  go_wp2_with (go_at_call 70; refine (isId_is _ _ hw _).mono ?_; rintro e w1 ⟨rfl, rfl⟩)
  go_ret
  exact ⟨rfl, cB w _ _⟩
 ·go_enter Tryz.func143, Tryz.ntmps143
  go_wp2_with fail
  refine (isId_is _ _ hw _).mono ?_
  rintro e w1 ⟨rfl, rfl⟩
  go_wp2_with fail
  refine (dR 181 _ rx rn rc rs _ _ (hp.later (cB w _ _)) (by omega) (EU c m (w.heap.size + 1) rn rs _ (by simp) (by simp)) yA).mono ?_
  rintro e w1 ⟨rfl, hb1⟩
  go_wp2
  go_ret
  exact ⟨by simp, (cB w _ _).trans (hb1.mono (by simp; omega))⟩
theorem kX (vid id c m : Int) (rx sx : Option Addr) (rn rc sn sc : Nat) (rs : List Rg) (t : Bool) (h : kP rn rs id c m = t) (w : World) (hp : RS w rx rn rs) (hn : rn ≤ 64) :
  Calls Tryz.prog 143 #[.agg #[.int .i64 vid, .slice rx rn rc, .slice sx sn sc], .int .i64 id, .agg #[.int .i64 c, .int .i64 m]] w fun e w' => e = .returned (.bool t) ∧ Below w.heap.size w w' := by
 subst h
 exact CI vid id c m rx sx rn rc sn sc rs w hp hn
theorem sL (f : Fc) (w : World) (hf : f.n ≤ 9223372036854775807) :
  Calls Tryz.prog 200 #[.agg #[.int .i64 f.id, .slice f.x f.n f.c]] w fun e w' => e = .returned (.bool (decide (4 < f.n))) ∧ Below w.heap.size w w' := by
 by_cases h : 4 < f.n
 all_goals go_enter Tryz.func200, Tryz.ntmps200
 all_goals go_wp2
 all_goals go_ret
 all_goals exact ⟨aH (by simp [h]; try omega), bl1 w _⟩
theorem rG (args : Array Value) (W : World) : (callFunc 200 args).run Tryz.prog W = .ok (.enter 200 args) W := by simp [go_sem]
def dY (s : Sb) : Bool := decide (8 < s.n) || aK s.n fun i => decide (4 < (fcAt s.fs i).n)
theorem uD (s : Sb) (w : World) (hs : s.n ≤ 9223372036854775807) (hp : uX w s.x s.n s.fs) :
  Calls Tryz.prog 160 #[.agg #[.int .i64 s.id, .int .i64 s.a, .int .i64 s.l, .slice s.x s.n s.c]] w fun e w' => e = .returned (.bool (dY s)) ∧ Below w.heap.size w w' := by
 by_cases h : 8 < s.n
 ·have hr : dY s = true := by unfold dY; simp [h]
  have hd : (decide ((s.n : Int) > 8)) = true := by simp; omega
  rw [hr]
  go_enter Tryz.func160, Tryz.ntmps160
  go_wp2
  go_ret
  exact ⟨rfl, bl1 w _⟩
 ·have hr : dY s = aK s.n fun i => decide (4 < (fcAt s.fs i).n) := by unfold dY; simp [h]
  have hd : (decide ((s.n : Int) > 8)) = false := by simp; omega
  rw [hr]
  have hF : ∀ W, CF 200 #[] s.n s.fs (fun i => decide (4 < (fcAt s.fs i).n)) W := fun W i hi V _ => sL (fcAt s.fs i) V (hp.addrs i hi).2.1
  go_enter Tryz.func160, Tryz.ntmps160
  go_wp2_with fail
  refine (rD 200 #[] s.x s.n s.c s.fs _ _ (hp.later (bl1 w _)) (by omega) (hF _) rG).mono ?_
  rintro e w1 ⟨rfl, hb1⟩
  go_wp2
  go_ret
  exact ⟨rfl, (bl1 w _).trans (hb1.mono (by simp))⟩
theorem sM (args : Array Value) (W : World) : (callFunc 160 args).run Tryz.prog W = .ok (.enter 160 args) W := by simp [go_sem]
def cO (rn sn : Nat) (ss : List Sb) : Bool := decide (4 < rn) || decide (6 < sn) || aK sn fun i => dY (sbAt ss i)
theorem EV (vid : Int) (rx sx : Option Addr) (rn rc sn sc : Nat) (ss : List Sb) (w : World) (hr63 : rn ≤ 9223372036854775807) (hp : SS w sx sn ss) (hs : sn ≤ 9223372036854775807) :
  Calls Tryz.prog 111 #[.agg #[.int .i64 vid, .slice rx rn rc, .slice sx sn sc]] w fun e w' => e = .returned (.bool (cO rn sn ss)) ∧ Below w.heap.size w w' := by
 by_cases h : 4 < rn
 ·have hr : cO rn sn ss = true := by unfold cO; simp [h]
  have hd : (decide ((rn : Int) > 4)) = true := by simp; omega
  rw [hr]
  go_enter Tryz.func111, Tryz.ntmps111
  go_wp2
  go_ret
  exact ⟨rfl, bl1 w _⟩
 ·have hd : (decide ((rn : Int) > 4)) = false := by simp; omega
  by_cases h2 : 6 < sn
  ·have hr : cO rn sn ss = true := by unfold cO; simp [h2]
   have hd2 : (decide ((sn : Int) > 6)) = true := by simp; omega
   rw [hr]
   go_enter Tryz.func111, Tryz.ntmps111
   go_wp2
   go_ret
   exact ⟨rfl, bl1 w _⟩
  ·have hd2 : (decide ((sn : Int) > 6)) = false := by simp; omega
   have hr : cO rn sn ss = aK sn fun i => dY (sbAt ss i) := by unfold cO; simp [h, h2]
   have hF : oG 160 #[] sn ss (fun i => dY (sbAt ss i)) w := fun i hi V hV => uD (sbAt ss i) V (hp.faces i hi).2.1 ((hp.faces i hi).2.2.later hV)
   rw [hr]
   have hF2 : ∀ q, oG 160 #[] sn ss (fun i => dY (sbAt ss i)) (w.alloc q) := fun q i hi V hV => hF i hi V ((bl1 w q).trans (hV.mono (by simp)))
   go_enter Tryz.func111, Tryz.ntmps111
   go_wp2_with fail
   refine (fE 160 #[] sx sn sc ss _ _ (hp.later (bl1 w _)) (by omega) (hF2 _) sM).mono ?_
   rintro e w1 ⟨rfl, hb1⟩
   go_wp2
   go_ret
   exact ⟨rfl, (bl1 w _).trans (hb1.mono (by simp))⟩
def oJ (a l x : Int) : Bool := decide (a < x) && decide (x < a + sp l - 1)
theorem yB (h0 : 0 ≤ l) (h1 : l ≤ 16) : 1 ≤ sp l ∧ sp l ≤ 65536 := by
 have h : l = 0 ∨ l = 1 ∨ l = 2 ∨ l = 3 ∨ l = 4 ∨ l = 5 ∨ l = 6 ∨ l = 7 ∨ l = 8 ∨ l = 9 ∨ l = 10 ∨ l = 11 ∨ l = 12 ∨ l = 13 ∨ l = 14 ∨ l = 15 ∨ l = 16 := by omega
 rcases h with rfl | rfl | rfl | rfl | rfl | rfl | rfl | rfl | rfl | rfl | rfl | rfl | rfl | rfl | rfl | rfl | rfl <;> decide
theorem QT (a l : Int) (h : rt a l = true) (w : World) :
  Calls Tryz.prog 225 #[.agg #[.int .i64 a, .int .i64 l]] w fun e w' => e = .returned (.int .i64 (sp l)) ∧ Below w.heap.size w w' := by
 have := L8 a l w
 rw [h] at this
 exact this
theorem usable_any (a l x : Int) (w : World) (h : rt a l = true) :
  Calls Tryz.prog 218 #[.agg #[.int .i64 a, .int .i64 l], .int .i64 x] w fun e w' => e = .returned (.bool (oJ a l x)) ∧ Below w.heap.size w w' := by
 obtain ⟨h0, h1, h2, h3, -⟩ := bH h
 obtain ⟨s0, s1⟩ := yB h0 h1
 unfold oJ
 go_enter Tryz.func218, Tryz.ntmps218
 have g0 := Ws.here (w := w.alloc (.cells #[.int .i64 a, .int .i64 l] 49)) (b := w.heap.size) (o := 0) (v := .int .i64 a) (by simp)
 have g1 := Ws.here (w := w.alloc (.cells #[.int .i64 a, .int .i64 l] 49)) (b := w.heap.size) (o := 1) (v := .int .i64 l) (by simp)
 go_upto_region 1 with fail
 have hB := bl1 w (.cells #[.int .i64 a, .int .i64 l] 49)
 generalize w.alloc (.cells #[.int .i64 a, .int .i64 l] 49) = w1 at *
 cases hlt : decide (a < x)
 all_goals refine aI w1.heap.size (by kernel_rfl) (by kernel_rfl) ?_
 all_goals repeat (go_big_quiet_step ((go_at_call 225; exact Calls.in_ws (Nat.le_refl _) (QT _ _ h _))))
 all_goals refine wpQuiet_nil ?_
 all_goals rintro _ ⟨u, rfl⟩
 all_goals have hu := hB.trans (u.property.mono hB.size)
 all_goals generalize u.val = wu at hu ⊢
 all_goals clear u g0 g1
 all_goals go_wp2
 all_goals go_ret
 ·exact ⟨aH (by rw [hlt]; rfl), hu⟩
 ·exact ⟨aH (by rw [hlt]; simp), hu⟩
theorem A3 (h : j < i) : aL (rs.take i) j = aL rs j := by
 unfold aL
 rw [List.getD_eq_getElem?_getD, List.getD_eq_getElem?_getD, List.getElem?_take_of_lt h]
theorem uE (h : j < i) : sbAt (ss.take i) j = sbAt ss j := by
 unfold sbAt
 rw [List.getD_eq_getElem?_getD, List.getD_eq_getElem?_getD, List.getElem?_take_of_lt h]
theorem RS.take (h : RS w x n rs) (hi : i ≤ n) : RS w x i (rs.take i) where
 len := by rw [List.length_take, h.len]; omega
 cells := fun j hj => by rw [A3 hj]; exact h.cells j (by omega)
theorem SS.take (h : SS w x n ss) (hi : i ≤ n) : SS w x i (ss.take i) where
 len := by rw [List.length_take, h.len]; omega
 cells := fun j hj => by rw [uE hj]; exact h.cells j (by omega)
 faces := fun j hj => by rw [uE hj]; exact h.faces j (by omega)
theorem iJ (hk : k < n) (h : f k = false) : (List.range n).all f = false := by
 rw [List.all_eq_false]
 exact ⟨k, by simpa using hk, by simp [h]⟩
theorem oK (h : ∀ j, j < n → f j = true) : (List.range n).all f = true := by
 rw [List.all_eq_true]
 intro j hj
 exact h j (by simpa using hj)
theorem AA (rs : List Rg) (i : Nat) (x : Option Addr) (n k : Nat) (w : World) (t : Bool) (hp : RS w x n rs) (hi : i ≤ n) (hn : n ≤ 64) (c m : Int) (h : aK i (CH rs c m) = t) :
  Calls Tryz.prog 162 #[.slice x i k, .agg #[.int .i64 c, .int .i64 m]] w fun e w' => e = .returned (.bool t) ∧ Below w.heap.size w w' := by
 have hm := oI c m x i k (rs.take i) w (hp.take hi) (by omega)
 rw [tT (f := CH (rs.take i) c m) (g := CH rs c m) (fun j hj => by unfold CH; rw [A3 hj]), h] at hm
 exact hm
theorem vH (ss : List Sb) (i : Nat) (x : Option Addr) (n k : Nat) (w : World) (t : Bool) (hp : SS w x n ss) (hi : i ≤ n) (hn : n ≤ 64) (c m : Int) (h : aK i (wT ss c m) = t) :
  Calls Tryz.prog 145 #[.slice x i k, .agg #[.int .i64 c, .int .i64 m]] w fun e w' => e = .returned (.bool t) ∧ Below w.heap.size w w' := by
 have hm := sK c m x i k (ss.take i) w (hp.take hi) (by omega)
 rw [tT (f := wT (ss.take i) c m) (g := wT ss c m) (fun j hj => by unfold wT; rw [uE hj]), h] at hm
 exact hm
abbrev F2 (p : Rg) : Obj := .cells #[.int .i64 p.a, .int .i64 p.l, .int .i64 p.p] 51
def sN (rs : List Rg) (i : Nat) : Bool := A2 (aL rs i) && !aK i (CH rs (aL rs i).a (aL rs i).l)
def nG (n : Nat) (rs : List Rg) : Bool := (List.range n).all (sN rs) && kA rs
theorem wB (x : Option Addr) (n c : Nat) (rs : List Rg) (w : World) (hp : RS w x n rs) (hn : n ≤ 64) (hnc : n ≤ c) (hc63 : c ≤ 9223372036854775807) :
  Calls Tryz.prog 112 #[.slice x n c] w fun e w' => e = .returned (.bool (nG n rs)) ∧ Below w.heap.size w w' := by
 have hbd : Hid (nG n rs = ((List.range n).all (sN rs) && kA rs)) := rfl
 go_enter Tryz.func112, Tryz.ntmps112
 go_wp2
 go_loopw [7] (fun i wr => ∃ k : Nat, k ≤ n ∧ i = .int .i64 k ∧ Below w.heap.size w wr ∧ (∀ j, j < k → sN rs j = true)) (fun i _ => n - (intOf i).toNat)
 case atStart => exact ⟨0, by omega, rfl, Below.refl _ _, fun j hj => by omega⟩
 case round =>
  obtain ⟨k, hk, rfl, hB, hok⟩ := hrel
  by_cases hlt : k < n
  ·have hpr := hp.later hB
   obtain ⟨b, o, rfl, c0, c1, c2⟩ := hpr.cells k hlt
   have hlt' := hlt
   have hta : Hid (sN rs k = (A2 (aL rs k) && !aK k (CH rs (aL rs k).a (aL rs k).l))) := rfl
   go_upto_region 4 with fail
   obtain ⟨w2, hw2⟩ : ∃ w2, w2 = wr.alloc (F2 (aL rs k)) := ⟨_, rfl⟩
   rw [← hw2]
   have h02 : Below wr.heap.size wr w2 := by rw [hw2]; exact bl1 wr _
   have hbox : w2.heap[wr.heap.size]? = some (F2 (aL rs k)) := by rw [hw2]; exact aC _ rfl
   clear hw2 c0 c1 c2
   have hp2 := hpr.later h02
   obtain ⟨hcl, -⟩ := aA hbox
   have g0 := Ws.here (v := .int .i64 (aL rs k).a) (hcl 0)
   have g1 := Ws.here (v := .int .i64 (aL rs k).l) (hcl 1)
   have g2 := Ws.here (v := .int .i64 (aL rs k).p) (hcl 2)
   clear hcl
   cases hu : A2 (aL rs k)
   ·refine aI w2.heap.size (by kernel_rfl) (by kernel_rfl) ?_
    repeat (go_big_quiet_step ((go_at_call 161; exact Calls.in_ws (Nat.le_refl _) (iI _ _ hu _))))
    refine wpQuiet_nil ?_
    rintro _ ⟨u, rfl⟩
    have hB2 := hB.trans (h02.mono hB.size)
    have hu2 := hB2.trans (u.property.mono hB2.size)
    generalize u.val = wu at hu2 ⊢
    clear u g0 g1 g2
    go_wp2
    go_ret
    exact ⟨aH (by rw [hbd.out, iJ hlt' (by rw [hta.out, hu]; rfl)]; rfl), hu2⟩
   ·cases ha : aK k (CH rs (aL rs k).a (aL rs k).l)
    all_goals refine aI w2.heap.size (by kernel_rfl) (by kernel_rfl) ?_
    all_goals repeat (go_big_quiet_step (first | (go_at_call 161; exact Calls.in_ws (Nat.le_refl _) (iI _ _ hu _)) | (go_at_call 162; exact Calls.in_ws (Nat.le_refl _) (AA rs k _ n _ _ _ (hp2.later (Ws.property _)) (by omega) hn _ _ ha))))
    all_goals refine wpQuiet_nil ?_
    all_goals rintro _ ⟨u, rfl⟩
    all_goals have hB2 := hB.trans (h02.mono hB.size)
    all_goals have hu2 := hB2.trans (u.property.mono hB2.size)
    all_goals generalize u.val = wu at hu2 ⊢
    all_goals clear u g0 g1 g2
    ·go_wp2
     go_roundw
     case rel => exact ⟨k + 1, hlt', by go_num, hu2, fun j hj => by
      by_cases hj2 : j < k
      ·exact hok j hj2
      ·obtain rfl : j = k := by omega
       rw [hta.out, hu, ha]; rfl⟩
     case measure => simp [intOf]; omega
    ·go_wp2
     go_ret
     exact ⟨aH (by rw [hbd.out, iJ hlt' (by rw [hta.out, hu, ha]; rfl)]; rfl), hu2⟩
  ·obtain rfl : k = n := by omega
   go_wp2_with fail
   refine (J6 x k c rs wr.heap.size 1 _ ((hp.later hB).later (bl1 wr _)) hn (by simp)).mono ?_
   rintro e w1 ⟨rfl, hb1⟩
   go_wp2
   go_ret
   exact ⟨aH (by rw [hbd.out, oK hok]; rfl), hB.trans (((bl1 wr _).trans (hb1.mono (by simp))).mono hB.size)⟩
theorem rangesRight_is (x : Option Addr) (n c : Nat) (rs : List Rg) (t : Bool) (h : nG n rs = t) (w : World) (hp : RS w x n rs) (hn : n ≤ 64) (hnc : n ≤ c) (hc63 : c ≤ 9223372036854775807) :
  Calls Tryz.prog 112 #[.slice x n c] w fun e w' => e = .returned (.bool t) ∧ Below w.heap.size w w' := by
 subst h
 exact wB x n c rs w hp hn hnc hc63
def G5 (a l : Int) (n : Nat) (ns : List Int) : Bool := fX ns && !aK n fun i => !oJ a l (bA ns i)
theorem wC (a l x : Int) (b : Nat) (w : World) (hr : rt a l = true) (h0 : w.cell? ⟨b, 0, none⟩ = some (.int .i64 a)) (h1 : w.cell? ⟨b, 1, none⟩ = some (.int .i64 l)) :
  Calls Tryz.prog 222 #[.int .i64 x, .pointer (some ⟨b, 0, none⟩)] w fun e w' => e = .returned (.bool (!oJ a l x)) ∧ Below w.heap.size w w' := by
 go_enter Tryz.func222, Tryz.ntmps222
 go_wp2_with (go_at_call 218; refine (usable_any _ _ _ _ hr).mono ?_; rintro e w1 ⟨rfl, hb1⟩)
 go_ret
 exact ⟨rfl, hb1⟩
theorem uF (args : Array Value) (W : World) : (callFunc 222 args).run Tryz.prog W = .ok (.enter 222 args) W := by simp [go_sem]
theorem AB (a l : Int) (hr : rt a l = true) (b n : Nat) (ns : List Int) (w : World) (h0 : w.cell? ⟨b, 0, none⟩ = some (.int .i64 a)) (h1 : w.cell? ⟨b, 1, none⟩ = some (.int .i64 l)) :
  CG 222 #[.pointer (some ⟨b, 0, none⟩)] n ns (fun i => !oJ a l (bA ns i)) w := fun i _ W hW => wC a l (bA ns i) b W hr (cell_later hW h0) (cell_later hW h1)
theorem yC (a l : Int) (x : Option Addr) (n c : Nat) (ns : List Int) (w : World) (hr : rt a l = true) (hp : IS w x n ns) (hn : n ≤ 64) :
  Calls Tryz.prog 203 #[.agg #[.int .i64 a, .int .i64 l], .slice x n c] w fun e w' => e = .returned (.bool (G5 a l n ns)) ∧ Below w.heap.size w w' := by
 have hbd : Hid (G5 a l n ns = (fX ns && !aK n fun i => !oJ a l (bA ns i))) := rfl
 go_enter Tryz.func203, Tryz.ntmps203
 go_wp2_with fail
 refine (KB x n c ns (w.heap.size + 1) 1 _ (hp.later (cB w _ _)) hn (by simp)).mono ?_
 rintro e w1 ⟨rfl, hb1⟩
 have hB := (cB w _ _).trans (hb1.mono (by simp; omega))
 have c0 : w1.cell? ⟨w.heap.size, 0, none⟩ = some (.int .i64 a) := cell_later hb1 (by simp)
 have c1 : w1.cell? ⟨w.heap.size, 1, none⟩ = some (.int .i64 l) := cell_later hb1 (by simp)
 clear hb1
 cases hri : fX ns
 ·go_wp2
  go_ret
  exact ⟨aH (by rw [hbd.out, hri]; rfl), hB⟩
 ·go_wp2_with fail
  refine (rF 222 _ x n c ns _ _ (hp.later hB) (by omega) (AB a l hr w.heap.size n ns _ c0 c1) uF).mono ?_
  rintro e w2 ⟨rfl, hb2⟩
  go_wp2
  go_ret
  exact ⟨aH (by rw [hbd.out, hri]; simp), hB.trans (hb2.mono hB.size)⟩
theorem qH (a l : Int) (x : Option Addr) (n c : Nat) (ns : List Int) (t : Bool) (h : G5 a l n ns = t) (w : World) (hr : rt a l = true) (hp : IS w x n ns) (hn : n ≤ 64) :
  Calls Tryz.prog 203 #[.agg #[.int .i64 a, .int .i64 l], .slice x n c] w fun e w' => e = .returned (.bool t) ∧ Below w.heap.size w w' := by
 subst h
 exact yC a l x n c ns w hr hp hn
open Go.RowKit Go.Shelf Go.Maps
theorem key_law : Keyed Tryz.prog 3 := int_keyed under_int
theorem zero_int (w : World) : (zeroValue 3).run Tryz.prog w = .ok (.int .i64 0) w := by kernel_rfl
theorem under_uses : Tryz.prog.underlying 254 = some (.map 3 3) := by kernel_rfl
structure kB (D : DataW Unit) (L : List Int) : Prop where
 isMap : IsMap D
 at_ : ∀ a : Int, D.atKey (.int .i64 a) (.lit (.int .i64 0)) = .lit (.int .i64 (L.count a))
 has_ : ∀ a : Int, has D (.int .i64 a) = decide (a ∈ L)
theorem kB.empty : kB (.map []) [] := ⟨isMap_empty, fun _ => rfl, fun _ => rfl⟩
theorem kB.put {D : DataW Unit} (h : kB D L) (a : Int) : kB (D.put (.int .i64 a) (.lit (.int .i64 ((L.count a : Nat) + 1)))) (L ++ [a]) where
 isMap := h.isMap.put _ _
 at_ := fun b => by
  by_cases e : b = a
  ·subst e
   rw [atKey_put_same h.isMap (by trivial), List.count_append]
   simp
  ·rw [atKey_put_other (by intro e2; exact e (by cases e2; rfl)), h.at_ b, List.count_append]
   simp [Ne.symm e]
 has_ := fun b => by
  by_cases e : b = a
  ·subst e
   rw [has_put_same h.isMap (by trivial)]
   simp
  ·rw [has_put_other (by intro e2; exact e (by cases e2; rfl)), h.has_ b]
   simp [e]
def allNs (fs : List Fc) : List Int := fs.flatMap (·.ns)
theorem sO (h : i < fs.length) : fcAt fs i = fs[i] := by simp [fcAt, List.getD_eq_getElem?_getD, h]
theorem G6 (h : k < fs.length) : allNs (fs.take (k + 1)) = allNs (fs.take k) ++ (fcAt fs k).ns := by
 unfold allNs
 rw [List.take_add_one, List.getElem?_eq_getElem h, sO h, Option.toList_some, List.flatMap_append]
 simp only [List.flatMap_cons, List.flatMap_nil, List.append_nil]
theorem EW (h : i < ns.length) : bA ns i = ns[i] := by simp [bA, List.getD_eq_getElem?_getD, h]
theorem QU (h : k < ns.length) : ns.take (k + 1) = ns.take k ++ [bA ns k] := by
 rw [List.take_add_one, List.getElem?_eq_getElem h, EW h, Option.toList_some]
theorem eS (h0 : 0 ≤ a) (h1 : a ≤ 1000000) : (Lit.int .i64 a).wf = true := by
 have e1 : IntKind.i64.min = -9223372036854775808 := by decide
 have e2 : IntKind.i64.max = 9223372036854775807 := by decide
 simp only [Lit.wf, e1, e2, Bool.and_eq_true, decide_eq_true_eq]
 omega
abbrev S3 (p : Sb) : Obj := .cells #[.int .i64 p.id, .int .i64 p.a, .int .i64 p.l, .slice p.x p.n p.c] 78
theorem yD (id a l : Int) (x : Option Addr) (n c : Nat) (fs : List Fc) (w : World) (hp : uX w x n fs) (hn : n ≤ 64) (hm : ∀ i, i < n → (fcAt fs i).n ≤ 64)
  (hr : ∀ i, i < n → ∀ j, j < (fcAt fs i).n → 0 ≤ bA (fcAt fs i).ns j ∧ bA (fcAt fs i).ns j ≤ 1000000) :
  Calls Tryz.prog 205 #[.agg #[.int .i64 id, .int .i64 a, .int .i64 l, .slice x n c]] w fun e w' => ∃ bm D, e = .returned (.map (some bm)) ∧ w.heap.size ≤ bm ∧ w'.ownsMap Tryz.prog 3 (plainElem Tryz.prog 3) bm (allNs fs).length D ∧ kB D (allNs fs) ∧ Below w.heap.size w w' := by
 have hmm := @run_makeMap Tryz.prog
 have hfl : Hid (fs.length = n) := hp.len
 go_enter Tryz.func205, Tryz.ntmps205
 go_wp2
 go_loopw [12] (fun i wr => ∃ (k : Nat) (D : DataW Unit), k ≤ n ∧ i = .int .i64 k ∧ Below w.heap.size w wr ∧ wr.ownsMap Tryz.prog 3 (plainElem Tryz.prog 3) (w.heap.size + 1) (allNs (fs.take k)).length D ∧ kB D (allNs (fs.take k)) ∧ (allNs (fs.take k)).length ≤ k * 64) (fun i _ => n - (intOf i).toNat)
 case atStart =>
  refine ⟨0, .map [], by omega, rfl, ?_, ?_, ?_, ?_⟩
  ·exact cB w _ _
  ·have := World.ownsMap_made (H := Unit) (w.alloc (.cells #[.int .i64 id, .int .i64 a, .int .i64 l, .slice x n c] 78)) Tryz.prog 3 (plainElem Tryz.prog 3)
   simpa [allNs] using this
  ·exact kB.empty
  ·simp [allNs]
 case round =>
  obtain ⟨k, D, hk, rfl, hB, hO, hC, hL⟩ := hrel
  by_cases hlt : k < n
  ·have hlt' : Hid (k < n) := hlt
   have hpr := hp.later hB
   obtain ⟨b, o, rfl, c0, c1⟩ := hpr.cells k hlt
   have hI := (hp.addrs k hlt).2.2
   have hm1 := hm k hlt
   have hr1 := hr k hlt
   have hsz := hB.size
   have hst : Hid (allNs (fs.take (k + 1)) = allNs (fs.take k) ++ (fcAt fs k).ns) := G6 (by rw [hfl.out]; exact hlt)
   generalize hf : fcAt fs k = f at *
   obtain ⟨fid, fx, fn, fc, ns⟩ := f
   simp only at *
   clear hf
   go_wp2
   obtain ⟨wo, rfl⟩ : ∃ wo, wo = wr := ⟨_, rfl⟩
   go_loopw [19] (fun i wr => ∃ (q : Nat) (D : DataW Unit), q ≤ fn ∧ i = .int .i64 q ∧ Below w.heap.size w wr ∧ wr.ownsMap Tryz.prog 3 (plainElem Tryz.prog 3) (w.heap.size + 1) (allNs (fs.take k) ++ ns.take q).length D ∧ kB D (allNs (fs.take k) ++ ns.take q)) (fun i _ => fn - (intOf i).toNat)
   case atStart => exact ⟨0, D, by omega, rfl, hB.trans ((bl1 wo _).mono hsz), by simpa using hO.alloc _, by simpa using hC⟩
   case round =>
    obtain ⟨q, D2, hq, rfl, hB2, hO2, hC2⟩ := hrel
    by_cases hq2 : q < fn
    ·have hq' : Hid (q < fn) := hq2
     have hL2 : Hid ((allNs (fs.take k) ++ ns.take q).length ≤ k * 64 + q) := by
      show _ ≤ _
      rw [List.length_append, List.length_take]
      omega
     have hst2 : Hid (allNs (fs.take k) ++ ns.take (q + 1) = (allNs (fs.take k) ++ ns.take q) ++ [bA ns q]) := by
      show _ = _
      rw [QU (by rw [hI.len]; exact hq2), List.append_assoc]
     obtain ⟨b2, o2, rfl, d0⟩ := (hI.later hB2).cells q hq2
     have hkey : keyOf Tryz.prog 3 (.int .i64 (bA ns q)) = some (.int .i64 (bA ns q)) := keyOf_int_mk under_int (eS (hr1 q hq2).1 (hr1 q hq2).2)
     generalize hLd : allNs (fs.take k) ++ ns.take q = L at *
     have hat := hC2.at_ (bA ns q)
     have hcl : Hid (L.count (bA ns q) ≤ L.length) := List.count_le_length
     have hmx : L.length < maxLen := by have := hL2.out; unfold maxLen; omega
     go_wp2_with (first
      | (at_lookup; refine wpList_lookup_own_int _ rfl _ _ 254 rfl 3 3 .i64 key_law under_uses under_int (zero_int _) (w.heap.size + 1) _ _ rfl hO2 _ _ rfl hkey ?_; intro cc hat2 hwc; obtain rfl : cc = (L.count (bA ns q) : Nat) := (by rw [hat] at hat2; cases hat2; rfl))
      | (at_mapUpdate; refine wpList_mapUpdate_own _ rfl _ _ _ 254 rfl 3 3 key_law under_uses _ (w.heap.size + 1) _ _ rfl hO2 hmx _ _ _ rfl rfl hkey _ [] (plainElem_int under_int (wrap64_wf _)) ?_; intro w1 hown1 hgrow1)
      | go_in)
     have hP := hC2.put (bA ns q)
     have hwr : wrap64 ((L.count (bA ns q) : Nat) + 1) = (L.count (bA ns q) : Nat) + 1 := by
      have := hcl.out
      have := hL2.out
      unfold wrap64
      omega
     go_roundw
     case rel =>
      refine ⟨q + 1, D2.put (.int .i64 (bA ns q)) (.lit (.int .i64 ((L.count (bA ns q) : Nat) + 1))), hq'.out, by go_num, hB2.grown hgrow1 hB2.size (fun j hj => by cases hj; omega), ?_, ?_⟩
      ·rw [hst2.out, List.length_append]
       rw [hwr] at hown1
       exact hown1
      ·rw [hst2.out]
       exact hP
     case measure => simp [intOf]; have := hq'.out; omega
    ·obtain rfl : q = fn := by omega
     have e : ns.take q = ns := by rw [← hI.len, List.take_length]
     rw [e, ← hst.out] at hO2 hC2
     go_wp2
     go_roundw
     case rel => exact ⟨k + 1, D2, hlt'.out, by go_num, hB2, hO2, hC2, by rw [hst.out, List.length_append, hI.len]; omega⟩
     case measure => simp [intOf]; have := hlt'.out; omega
  ·obtain rfl : k = n := by omega
   have e : fs.take k = fs := by rw [← hfl.out, List.take_length]
   rw [e] at hO hC
   go_wp2
   go_ret
   exact ⟨_, D, rfl, by omega, hO, hC, hB⟩
theorem oL : ∀ L : List Int, (∀ a, L.count a ≤ 1) ↔ L.Nodup
 | [] => by simp
 | x :: L => by
  rw [List.nodup_cons, ← oL L]
  constructor
  ·intro h
   have h1 := h x
   rw [List.count_cons_self] at h1
   refine ⟨fun hm => ?_, fun a => ?_⟩
   ·have := List.count_pos_iff.2 hm
    omega
   ·have := h a
    rw [List.count_cons] at this
    omega
  ·rintro ⟨h1, h2⟩ a
   by_cases e : a = x
   ·subst e
    rw [List.count_cons_self, List.count_eq_zero.2 h1]
    omega
   ·rw [List.count_cons_of_ne (Ne.symm e)]
    exact h2 a
def yE (L : List Int) : Bool := !decide L.Nodup
theorem IN (h : 1 < L.count a) : yE L = true := by
 unfold yE
 rw [decide_eq_false]
 ·rfl
 ·intro hn
  have := (oL L).2 hn a
  omega
theorem S4 (h : ∀ a, L.count a ≤ 1) : yE L = false := by
 unfold yE
 rw [decide_eq_true ((oL L).1 h)]
 rfl
theorem twice_any (bm m : Nat) (D : DataW Unit) (L : List Int) (w : World) (hO : w.ownsMap Tryz.prog 3 (plainElem Tryz.prog 3) bm m D) (hC : kB D L) :
  Calls Tryz.prog 206 #[.map (some bm)] w fun e w' => e = .returned (.bool (yE L)) ∧ Below w.heap.size w w' := by
 have hDb : Hid (kB D L) := hC
 go_enter Tryz.func206, Tryz.ntmps206
 go_wp2_with (first | (at_range; refine wpList_range_own _ rfl _ 254 rfl 3 3 key_law under_uses _ bm m D rfl hO ?_; intro w0 hrg0 hg0 hs0) | go_in)
 go_frame
 go_loopw [] (fun wr => ∃ left cnt, wr.ranges Tryz.prog 3 (plainElem Tryz.prog 3) bm w.heap.size m D left cnt ∧ Below w.heap.size w wr ∧ (∀ a : Int, has D (.int .i64 a) = true → left (.int .i64 a) = true ∨ L.count a ≤ 1)) (fun wr => wr.rangeLeft bm w.heap.size)
 case atStart => exact ⟨_, _, hrg0, (Below.refl _ _).grown hg0 (Nat.le_refl _) (fun j hj => by cases hj), fun a h => .inl h⟩
 case round =>
  obtain ⟨left, cnt, hrg, hB, hall⟩ := hrel
  go_wp2_with (first
   | (at_next; refine wpList_next_ranges_ii _ rfl _ rfl 3 3 .i64 .i64 key_law under_int under_int bm w.heap.size m _ _ _ rfl hrg ?_ ?_)
   | go_in)
  ·intro hc0 hl0
   go_wp2
   go_ret
   exact ⟨aH (S4 fun a => by
    by_cases hm : a ∈ L
    ·rcases hall a (by rw [hDb.out.has_ a]; simpa using hm) with h | h
     ·rw [hl0] at h; cases h
     ·exact h
    ·rw [List.count_eq_zero.2 hm]; omega).symm, hB⟩
  ·intro x c w1 cnt1 hwx hwc hlx hat hrg1 hlt hg1 hs1 hen
   have hcx : c = (L.count x : Nat) := by
    have := hat (.lit (.int .i64 0))
    rw [hDb.out.at_ x] at this
    cases this
    rfl
   have hB1 : Below w.heap.size w w1 := hB.grown hg1 hB.size (fun j hj => by cases hj; omega)
   by_cases hgt : c > 1
   ·go_wp2
    go_ret
    exact ⟨aH (IN (a := x) (by omega)).symm, hB1⟩
   ·go_wp2
    go_roundw
    case rel => exact ⟨_, cnt1, hrg1, hB1, fun a ha => by
     by_cases e : a = x
     ·subst e
      exact .inr (by omega)
     ·rcases hall a ha with h | h
      ·refine .inl ?_
       rw [h, sameKey_ne (by intro e2; exact e (by cases e2; rfl))]
       rfl
      ·exact .inr h⟩
    case measure => rw [hrg1.left_eq, hrg.left_eq]; omega
def eL (a l : Int) (fs : List Fc) (i : Nat) : Bool := dH (fcAt fs i).id 1 65536 && decide (0 < (fcAt fs i).n) && G5 a l (fcAt fs i).n (fcAt fs i).ns
def dT (a l : Int) (n : Nat) (fs : List Fc) : Bool := (List.range n).all (eL a l fs) && dM fs && !yE (allNs fs)
theorem EX {x : Int} (hr : rt a l = true) (h : oJ a l x = true) : 0 ≤ x ∧ x ≤ 1000000 := by
 obtain ⟨h0, h1, h2, h3, -⟩ := bH hr
 obtain ⟨s0, s1⟩ := yB h0 h1
 unfold oJ at h
 simp only [Bool.and_eq_true, decide_eq_true_eq] at h
 omega
theorem R1 (h : G5 a l n ns = true) : ∀ j, j < n → oJ a l (bA ns j) = true := by
 intro j hj
 unfold G5 at h
 rw [Bool.and_eq_true] at h
 cases hu : oJ a l (bA ns j)
 ·have := aT (f := fun i => !oJ a l (bA ns i)) hj (by rw [hu]; rfl)
  rw [this] at h
  exact absurd h.2 (by simp)
 ·rfl
theorem yF (id a l : Int) (x : Option Addr) (n c : Nat) (fs : List Fc) (w : World) (hr : rt a l = true) (hp : uX w x n fs) (hn : n ≤ 8) (hm : ∀ i, i < n → (fcAt fs i).n ≤ 4) :
  Calls Tryz.prog 165 #[.agg #[.int .i64 id, .int .i64 a, .int .i64 l, .slice x n c]] w fun e w' => e = .returned (.bool (dT a l n fs)) ∧ Below w.heap.size w w' := by
 have hbd : Hid (dT a l n fs = ((List.range n).all (eL a l fs) && dM fs && !yE (allNs fs))) := rfl
 go_enter Tryz.func165, Tryz.ntmps165
 go_upto_region 1 with fail
 obtain ⟨w2, hw2⟩ : ∃ w2, w2 = w.alloc (.cells #[.int .i64 id, .int .i64 a, .int .i64 l, .slice x n c] 78) := ⟨_, rfl⟩
 rw [← hw2]
 have h02 : Below w.heap.size w w2 := by rw [hw2]; exact bl1 w _
 have hbox : w2.heap[w.heap.size]? = some (.cells #[.int .i64 id, .int .i64 a, .int .i64 l, .slice x n c] 78) := by rw [hw2]; exact aC _ rfl
 clear hw2
 have hp2 := hp.later h02
 obtain ⟨hcl, -⟩ := aA hbox
 have q0 : w2.cell? ⟨w.heap.size, 0, none⟩ = some (.int .i64 id) := hcl 0
 have q1 : w2.cell? ⟨w.heap.size, 1, none⟩ = some (.int .i64 a) := hcl 1
 have q2 : w2.cell? ⟨w.heap.size, 2, none⟩ = some (.int .i64 l) := hcl 2
 have q3 : w2.cell? ⟨w.heap.size, 3, none⟩ = some (.slice x n c) := hcl 3
 clear hcl hbox
 generalize hbk : w.heap.size = bk at *
 go_wp2
 go_loopw [8] (fun i wr => ∃ k : Nat, k ≤ n ∧ i = .int .i64 k ∧ Below w2.heap.size w2 wr ∧ (∀ j, j < k → eL a l fs j = true)) (fun i _ => n - (intOf i).toNat)
 case atStart => exact ⟨0, by omega, rfl, Below.refl _ _, fun j hj => by omega⟩
 case round =>
  obtain ⟨k, hk, rfl, hB, hok⟩ := hrel
  have r0 := cell_later hB q0
  have r1 := cell_later hB q1
  have r2 := cell_later hB q2
  have r3 := cell_later hB q3
  have hall : Below bk w wr := h02.trans (hB.mono (by have := h02.size; omega))
  clear q0 q1 q2 q3
  by_cases hlt : k < n
  ·have hlt' : Hid (k < n) := hlt
   have hpr := hp2.later hB
   obtain ⟨b, o, rfl, c0, c1⟩ := hpr.cells k hlt
   have hI := (hpr.addrs k hlt).2.2
   have hm1 := hm k hlt
   have hta : Hid (eL a l fs k = (dH (fcAt fs k).id 1 65536 && decide (0 < (fcAt fs k).n) && G5 a l (fcAt fs k).n (fcAt fs k).ns)) := rfl
   generalize hf : fcAt fs k = f at *
   obtain ⟨fid, fx, fn, fcc, ns⟩ := f
   simp only at *
   clear hf
   go_upto_region 4 with fail
   obtain ⟨w3, hw3⟩ : ∃ w3, w3 = wr.alloc (.cells #[.int .i64 fid, .slice fx fn fcc] 80) := ⟨_, rfl⟩
   rw [← hw3]
   have h23 : Below wr.heap.size wr w3 := by rw [hw3]; exact bl1 wr _
   have hbox : w3.heap[wr.heap.size]? = some (.cells #[.int .i64 fid, .slice fx fn fcc] 80) := by rw [hw3]; exact aC _ rfl
   clear hw3 c0 c1
   have s0 := cell_later h23 r0
   have s1 := cell_later h23 r1
   have s2 := cell_later h23 r2
   have s3 := cell_later h23 r3
   clear r0 r1 r2 r3
   obtain ⟨hcl, -⟩ := aA hbox
   have t0 : w3.cell? ⟨wr.heap.size, 0, none⟩ = some (.int .i64 fid) := hcl 0
   have t1 : w3.cell? ⟨wr.heap.size, 1, none⟩ = some (.slice fx fn fcc) := hcl 1
   clear hcl hbox
   have hall3 : Below bk w w3 := hall.trans (h23.mono (by have := h02.size; have := hB.size; omega))
   have hB3 : Below w2.heap.size w2 w3 := hB.trans (h23.mono hB.size)
   have hI3 := hI.later h23
   cases hw : dH fid 1 65536
   ·go_wp2_with (go_at_call 70; refine (isId_is _ _ hw _).mono ?_; rintro e w4 ⟨rfl, rfl⟩)
    go_ret
    exact ⟨aH (by rw [hbd.out, iJ hlt'.out (by rw [hta.out, hw]; rfl)]; rfl), by rw [hbk]; exact hall3⟩
   ·by_cases h0 : 0 < fn
    ·have hd : Hid (decide (0 < fn) = true) := by show _ = _; simpa using h0
     have hne : ((fn : Int) == 0) = false := by simp; omega
     cases had : G5 a l fn ns
     ·go_wp2_with (first | (go_at_call 70; refine (isId_is _ _ hw _).mono ?_; rintro e w4 ⟨rfl, rfl⟩) | (go_at_call 203; refine (qH _ _ _ _ _ _ _ had _ hr hI3 (by omega)).mono ?_; rintro e w4 ⟨rfl, hb4⟩))
      go_ret
      exact ⟨aH (by rw [hbd.out, iJ hlt'.out (by rw [hta.out, hw, hd.out, had]; rfl)]; rfl), by rw [hbk]; exact hall3.trans (hb4.mono (by have := hall3.size; omega))⟩
     ·go_wp2_with (first | (go_at_call 70; refine (isId_is _ _ hw _).mono ?_; rintro e w4 ⟨rfl, rfl⟩) | (go_at_call 203; refine (qH _ _ _ _ _ _ _ had _ hr hI3 (by omega)).mono ?_; rintro e w4 ⟨rfl, hb4⟩))
      go_roundw
      case rel => exact ⟨k + 1, hlt'.out, by go_num, hB3.trans (hb4.mono hB3.size), fun j hj => by
       by_cases hj2 : j < k
       ·exact hok j hj2
       ·obtain rfl : j = k := by omega
        rw [hta.out, hw, hd.out, had]; rfl⟩
      case measure => simp [intOf]; have := hlt'.out; omega
    ·obtain rfl : fn = 0 := by omega
     go_wp2_with (go_at_call 70; refine (isId_is _ _ hw _).mono ?_; rintro e w4 ⟨rfl, rfl⟩)
     go_ret
     exact ⟨aH (by rw [hbd.out, iJ hlt'.out (by rw [hta.out, hw]; rfl)]; rfl), by rw [hbk]; exact hall3⟩
  ·obtain rfl : k = n := by omega
   have hpr := hp2.later hB
   go_wp2_with fail
   refine (J9 x k c fs wr.heap.size 1 _ (hpr.later (bl1 wr _)) (by omega) (by simp)).mono ?_
   rintro e w3 ⟨rfl, hb3⟩
   have h23 := (bl1 wr _).trans (hb3.mono (by simp))
   clear hb3
   have hall3 : Below bk w w3 := hall.trans (h23.mono (by have := h02.size; have := hB.size; omega))
   have s0 := cell_later h23 r0
   have s1 := cell_later h23 r1
   have s2 := cell_later h23 r2
   have s3 := cell_later h23 r3
   clear r0 r1 r2 r3
   cases hri : dM fs
   ·go_wp2
    go_ret
    exact ⟨aH (by rw [hbd.out, hri]; simp), by rw [hbk]; exact hall3⟩
   ·go_wp2_with fail
    refine (yD id a l x k c fs _ (hpr.later h23) (by omega) (fun i hi => by have := hm i hi; omega) (fun i hi j hj => EX hr (R1 (by
     have := hok i hi
     unfold eL at this
     simp only [Bool.and_eq_true] at this
     exact this.2) j hj))).mono ?_
    rintro e w4 ⟨bm, D, rfl, hbm, hO, hC, hb4⟩
    go_wp2_with (go_at_call 206; refine (twice_any _ _ _ _ _ hO hC).mono ?_; rintro e w5 ⟨rfl, hb5⟩)
    go_ret
    have h4 := hall3.trans (hb4.mono (by have := hall3.size; omega))
    exact ⟨aH (by rw [hbd.out, hri, oK hok]; simp), by rw [hbk]; exact h4.trans (hb5.mono (by have := h4.size; omega))⟩
theorem AC (id a l : Int) (x : Option Addr) (n c : Nat) (fs : List Fc) (t : Bool) (h : dT a l n fs = t) (w : World) (hr : rt a l = true) (hp : uX w x n fs) (hn : n ≤ 8) (hm : ∀ i, i < n → (fcAt fs i).n ≤ 4) :
  Calls Tryz.prog 165 #[.agg #[.int .i64 id, .int .i64 a, .int .i64 l, .slice x n c]] w fun e w' => e = .returned (.bool t) ∧ Below w.heap.size w w' := by
 subst h
 exact yF id a l x n c fs w hr hp hn hm
def lU (rn : Nat) (rs : List Rg) (ss : List Sb) (i : Nat) : Bool := kP rn rs (sbAt ss i).id (sbAt ss i).a (sbAt ss i).l && !aK i (wT ss (sbAt ss i).a (sbAt ss i).l) && dT (sbAt ss i).a (sbAt ss i).l (sbAt ss i).n (sbAt ss i).fs
def mN (rn : Nat) (rs : List Rg) (n : Nat) (ss : List Sb) : Bool := (List.range n).all (lU rn rs ss) && gW ss
theorem kC (h : aK n f = true) : ∃ i, i < n ∧ f i = true := by
 unfold aK at h
 rw [List.any_eq_true] at h
 obtain ⟨i, hi, hf⟩ := h
 exact ⟨i, by simpa using hi, hf⟩
theorem N1 {id : Int} (h : kP rn rs id a l = true) : rt a l = true := by
 unfold kP at h
 rw [Bool.and_eq_true] at h
 obtain ⟨i, -, hi⟩ := kC h.2
 unfold S2 iZ at hi
 simp only [Bool.and_eq_true] at hi
 exact hi.1.1.1
theorem AD (vid : Int) (rx : Option Addr) (rn rc : Nat) (rs : List Rg) (x : Option Addr) (n c : Nat) (ss : List Sb) (w : World) (hR : RS w rx rn rs) (hrn : rn ≤ 4) (hp : SS w x n ss) (hn : n ≤ 6) (hnc : n ≤ c)
  (hm : ∀ i, i < n → (sbAt ss i).n ≤ 8) (hm2 : ∀ i, i < n → ∀ j, j < (sbAt ss i).n → (fcAt (sbAt ss i).fs j).n ≤ 4) :
  Calls Tryz.prog 113 #[.agg #[.int .i64 vid, .slice rx rn rc, .slice x n c]] w fun e w' => e = .returned (.bool (mN rn rs n ss)) ∧ Below w.heap.size w w' := by
 have hbd : Hid (mN rn rs n ss = ((List.range n).all (lU rn rs ss) && gW ss)) := rfl
 go_enter Tryz.func113, Tryz.ntmps113
 go_upto_region 1 with fail
 obtain ⟨w2, hw2⟩ : ∃ w2, w2 = w.alloc (.cells #[.int .i64 vid, .slice rx rn rc, .slice x n c] 41) := ⟨_, rfl⟩
 rw [← hw2]
 have h02 : Below w.heap.size w w2 := by rw [hw2]; exact bl1 w _
 have hbox : w2.heap[w.heap.size]? = some (.cells #[.int .i64 vid, .slice rx rn rc, .slice x n c] 41) := by rw [hw2]; exact aC _ rfl
 clear hw2
 have hp2 := hp.later h02
 have hR2 := hR.later h02
 obtain ⟨hcl, -⟩ := aA hbox
 have q0 : w2.cell? ⟨w.heap.size, 0, none⟩ = some (.int .i64 vid) := hcl 0
 have q1 : w2.cell? ⟨w.heap.size, 1, none⟩ = some (.slice rx rn rc) := hcl 1
 have q2 : w2.cell? ⟨w.heap.size, 2, none⟩ = some (.slice x n c) := hcl 2
 clear hcl hbox
 generalize hbk : w.heap.size = bk at *
 go_wp2
 go_loopw [8] (fun i wr => ∃ k : Nat, k ≤ n ∧ i = .int .i64 k ∧ Below w2.heap.size w2 wr ∧ (∀ j, j < k → lU rn rs ss j = true)) (fun i _ => n - (intOf i).toNat)
 case atStart => exact ⟨0, by omega, rfl, Below.refl _ _, fun j hj => by omega⟩
 case round =>
  obtain ⟨k, hk, rfl, hB, hok⟩ := hrel
  have r0 := cell_later hB q0
  have r1 := cell_later hB q1
  have r2 := cell_later hB q2
  have hall : Below bk w wr := h02.trans (hB.mono (by have := h02.size; omega))
  clear q0 q1 q2
  by_cases hlt : k < n
  ·have hlt' : Hid (k < n) := hlt
   have hpr := hp2.later hB
   obtain ⟨b, o, rfl, c0, c1, c2, c3⟩ := hpr.cells k hlt
   have hF := (hpr.faces k hlt).2.2
   have hm1 := hm k hlt
   have hm3 := hm2 k hlt
   have hta : Hid (lU rn rs ss k = (kP rn rs (sbAt ss k).id (sbAt ss k).a (sbAt ss k).l && !aK k (wT ss (sbAt ss k).a (sbAt ss k).l) && dT (sbAt ss k).a (sbAt ss k).l (sbAt ss k).n (sbAt ss k).fs)) := rfl
   generalize hf : sbAt ss k = s at *
   obtain ⟨sid, sa, sl, sx, sn, scc, fs⟩ := s
   simp only at *
   clear hf
   go_upto_region 4 with fail
   obtain ⟨w3, hw3⟩ : ∃ w3, w3 = wr.alloc (.cells #[.int .i64 sid, .int .i64 sa, .int .i64 sl, .slice sx sn scc] 78) := ⟨_, rfl⟩
   rw [← hw3]
   have h23 : Below wr.heap.size wr w3 := by rw [hw3]; exact bl1 wr _
   have hbox : w3.heap[wr.heap.size]? = some (.cells #[.int .i64 sid, .int .i64 sa, .int .i64 sl, .slice sx sn scc] 78) := by rw [hw3]; exact aC _ rfl
   clear hw3 c0 c1 c2 c3
   have s0 := cell_later h23 r0
   have s1 := cell_later h23 r1
   have s2 := cell_later h23 r2
   clear r0 r1 r2
   obtain ⟨hcl, -⟩ := aA hbox
   have t0 : w3.cell? ⟨wr.heap.size, 0, none⟩ = some (.int .i64 sid) := hcl 0
   have t1 : w3.cell? ⟨wr.heap.size, 1, none⟩ = some (.int .i64 sa) := hcl 1
   have t2 : w3.cell? ⟨wr.heap.size, 2, none⟩ = some (.int .i64 sl) := hcl 2
   have t3 : w3.cell? ⟨wr.heap.size, 3, none⟩ = some (.slice sx sn scc) := hcl 3
   clear hcl hbox
   have hall3 : Below bk w w3 := hall.trans (h23.mono (by have := h02.size; have := hB.size; omega))
   have hB3 : Below w2.heap.size w2 w3 := hB.trans (h23.mono hB.size)
   have hF3 := hF.later h23
   have hR3 := hR2.later hB3
   have hp3 := hp2.later hB3
   have g0 := Ws.here s0
   have g1 := Ws.here s1
   have g2 := Ws.here s2
   have k0 := Ws.here t0
   have k1 := Ws.here t1
   have k2 := Ws.here t2
   have k3 := Ws.here t3
   clear s0 s1 s2 t0 t1 t2 t3
   cases hu : kP rn rs sid sa sl
   ·refine aI w3.heap.size (by kernel_rfl) (by kernel_rfl) ?_
    repeat (go_big_quiet_step ((go_at_call 143; exact Calls.in_ws (Nat.le_refl _) (kX _ _ _ _ _ _ _ _ _ _ _ _ hu _ (hR3.later (Ws.property _)) (by omega)))))
    refine wpQuiet_nil ?_
    rintro _ ⟨u, rfl⟩
    have hu2 := hall3.trans (u.property.mono (by have := hall3.size; omega))
    generalize u.val = wu at hu2 ⊢
    clear u g0 g1 g2 k0 k1 k2 k3
    go_wp2
    go_ret
    exact ⟨aH (by rw [hbd.out, iJ hlt'.out (by rw [hta.out, hu]; rfl)]; rfl), by rw [hbk]; exact hu2⟩
   ·have hrt := N1 hu
    cases ha : aK k (wT ss sa sl)
    ·cases hfb : dT sa sl sn fs
     all_goals refine aI w3.heap.size (by kernel_rfl) (by kernel_rfl) ?_
     all_goals repeat (go_big_quiet_step (first | (go_at_call 143; exact Calls.in_ws (Nat.le_refl _) (kX _ _ _ _ _ _ _ _ _ _ _ _ hu _ (hR3.later (Ws.property _)) (by omega))) | (go_at_call 145; exact Calls.in_ws (Nat.le_refl _) (vH ss k _ n _ _ _ (hp3.later (Ws.property _)) (by omega) (by omega) _ _ ha)) | (go_at_call 165; exact Calls.in_ws (Nat.le_refl _) (AC _ _ _ _ _ _ _ _ hfb _ hrt (hF3.later (Ws.property _)) hm1 hm3))))
     all_goals refine wpQuiet_nil ?_
     all_goals rintro _ ⟨u, rfl⟩
     all_goals have hu2 := hall3.trans (u.property.mono (by have := hall3.size; omega))
     all_goals have hu3 := hB3.trans (u.property.mono hB3.size)
     all_goals generalize u.val = wu at hu2 hu3 ⊢
     all_goals clear u g0 g1 g2 k0 k1 k2 k3
     ·go_wp2
      go_ret
      exact ⟨aH (by rw [hbd.out, iJ hlt'.out (by rw [hta.out, hu, ha, hfb]; rfl)]; rfl), by rw [hbk]; exact hu2⟩
     ·go_wp2
      go_roundw
      case rel => exact ⟨k + 1, hlt'.out, by go_num, hu3, fun j hj => by
       by_cases hj2 : j < k
       ·exact hok j hj2
       ·obtain rfl : j = k := by omega
        rw [hta.out, hu, ha, hfb]; rfl⟩
      case measure => simp [intOf]; have := hlt'.out; omega
    ·refine aI w3.heap.size (by kernel_rfl) (by kernel_rfl) ?_
     repeat (go_big_quiet_step (first | (go_at_call 143; exact Calls.in_ws (Nat.le_refl _) (kX _ _ _ _ _ _ _ _ _ _ _ _ hu _ (hR3.later (Ws.property _)) (by omega))) | (go_at_call 145; exact Calls.in_ws (Nat.le_refl _) (vH ss k _ n _ _ _ (hp3.later (Ws.property _)) (by omega) (by omega) _ _ ha))))
     refine wpQuiet_nil ?_
     rintro _ ⟨u, rfl⟩
     have hu2 := hall3.trans (u.property.mono (by have := hall3.size; omega))
     generalize u.val = wu at hu2 ⊢
     clear u g0 g1 g2 k0 k1 k2 k3
     go_wp2
     go_ret
     exact ⟨aH (by rw [hbd.out, iJ hlt'.out (by rw [hta.out, hu, ha]; rfl)]; rfl), by rw [hbk]; exact hu2⟩
  ·obtain rfl : k = n := by omega
   have hpr := hp2.later hB
   go_wp2_with fail
   refine (J8 x k c ss wr.heap.size 1 _ (hpr.later (bl1 wr _)) (by omega) (by simp)).mono ?_
   rintro e w3 ⟨rfl, hb3⟩
   have h23 := (bl1 wr _).trans (hb3.mono (by simp))
   clear hb3
   have hall3 : Below bk w w3 := hall.trans (h23.mono (by have := h02.size; have := hB.size; omega))
   go_wp2
   go_ret
   exact ⟨aH (by rw [hbd.out, oK hok]; rfl), by rw [hbk]; exact hall3⟩
theorem subsRight_is (vid : Int) (rx : Option Addr) (rn rc : Nat) (rs : List Rg) (x : Option Addr) (n c : Nat) (ss : List Sb) (t : Bool) (h : mN rn rs n ss = t) (w : World) (hR : RS w rx rn rs) (hrn : rn ≤ 4) (hp : SS w x n ss) (hn : n ≤ 6) (hnc : n ≤ c)
  (hm : ∀ i, i < n → (sbAt ss i).n ≤ 8) (hm2 : ∀ i, i < n → ∀ j, j < (sbAt ss i).n → (fcAt (sbAt ss i).fs j).n ≤ 4) :
  Calls Tryz.prog 113 #[.agg #[.int .i64 vid, .slice rx rn rc, .slice x n c]] w fun e w' => e = .returned (.bool t) ∧ Below w.heap.size w w' := by
 subst h
 exact AD vid rx rn rc rs x n c ss w hR hrn hp hn hnc hm hm2
def aV (vid : Int) (rn : Nat) (rs : List Rg) (sn : Nat) (ss : List Sb) : Int := if cO rn sn ss then 2 else if dH vid 1 65536 && nG rn rs && mN rn rs sn ss then 0 else 1
theorem few (h : cO rn sn ss = false) : rn ≤ 4 ∧ sn ≤ 6 ∧ (∀ i, i < sn → (sbAt ss i).n ≤ 8) ∧ ∀ i, i < sn → ∀ j, j < (sbAt ss i).n → (fcAt (sbAt ss i).fs j).n ≤ 4 := by
 unfold cO at h
 simp only [Bool.or_eq_false_iff, decide_eq_false_iff_not] at h
 obtain ⟨⟨h1, h2⟩, h3⟩ := h
 have h4 : ∀ i, i < sn → dY (sbAt ss i) = false := fun i hi => by
  cases e : dY (sbAt ss i)
  ·rfl
  ·have := aT (f := fun i => dY (sbAt ss i)) hi e
   rw [this] at h3; cases h3
 have h5 : ∀ i, i < sn → (sbAt ss i).n ≤ 8 ∧ ∀ j, j < (sbAt ss i).n → (fcAt (sbAt ss i).fs j).n ≤ 4 := fun i hi => by
  have := h4 i hi
  unfold dY at this
  simp only [Bool.or_eq_false_iff, decide_eq_false_iff_not] at this
  refine ⟨by omega, fun j hj => ?_⟩
  by_cases e : 4 < (fcAt (sbAt ss i).fs j).n
  ·have h6 := aT (f := fun j => decide (4 < (fcAt (sbAt ss i).fs j).n)) hj (by simpa using e)
   rw [h6] at this; cases this.2
  ·omega
 exact ⟨by omega, by omega, fun i hi => (h5 i hi).1, fun i hi => (h5 i hi).2⟩
theorem tooMany_is (vid : Int) (rx sx : Option Addr) (rn rc sn sc : Nat) (ss : List Sb) (t : Bool) (h : cO rn sn ss = t) (w : World) (hr63 : rn ≤ 9223372036854775807) (hp : SS w sx sn ss) (hs : sn ≤ 9223372036854775807) :
  Calls Tryz.prog 111 #[.agg #[.int .i64 vid, .slice rx rn rc, .slice sx sn sc]] w fun e w' => e = .returned (.bool t) ∧ Below w.heap.size w w' := by
 subst h
 exact EV vid rx sx rn rc sn sc ss w hr63 hp hs
theorem checkV_any (vid : Int) (rx : Option Addr) (rn rc : Nat) (rs : List Rg) (sx : Option Addr) (sn sc : Nat) (ss : List Sb) (w : World) (hv : Vp w rx rn rc rs sx sn sc ss) (hrn : rn ≤ 9223372036854775807) (hsn : sn ≤ 9223372036854775807) (hrc : rc ≤ 9223372036854775807) :
  Calls Tryz.prog 59 #[.agg #[.int .i64 vid, .slice rx rn rc, .slice sx sn sc]] w fun e w' => e = .returned (.int .i64 (aV vid rn rs sn ss)) ∧ Below w.heap.size w w' := by
 have hbd : Hid (aV vid rn rs sn ss = if cO rn sn ss then 2 else if dH vid 1 65536 && nG rn rs && mN rn rs sn ss then 0 else 1) := rfl
 go_enter Tryz.func59, Tryz.ntmps59
 go_upto_region 1 with fail
 obtain ⟨w2, hw2⟩ : ∃ w2, w2 = w.alloc (.cells #[.int .i64 vid, .slice rx rn rc, .slice sx sn sc] 41) := ⟨_, rfl⟩
 rw [← hw2]
 have h02 : Below w.heap.size w w2 := by rw [hw2]; exact bl1 w _
 have hbox : w2.heap[w.heap.size]? = some (.cells #[.int .i64 vid, .slice rx rn rc, .slice sx sn sc] 41) := by rw [hw2]; exact aC _ rfl
 clear hw2
 have hv2 := hv.later h02
 obtain ⟨hcl, -⟩ := aA hbox
 have q0 : w2.cell? ⟨w.heap.size, 0, none⟩ = some (.int .i64 vid) := hcl 0
 have q1 : w2.cell? ⟨w.heap.size, 1, none⟩ = some (.slice rx rn rc) := hcl 1
 have q2 : w2.cell? ⟨w.heap.size, 2, none⟩ = some (.slice sx sn sc) := hcl 2
 clear hcl hbox
 have hsz : Hid (w.heap.size ≤ w2.heap.size) := h02.size
 generalize hbk : w.heap.size = bk at *
 cases hmy : cO rn sn ss
 ·obtain ⟨f1, f2, f3, f4⟩ := few hmy
  go_wp2_with fail
  refine (tooMany_is _ _ _ _ _ _ _ _ _ hmy _ hrn hv2.subs hsn).mono ?_
  rintro e w3 ⟨rfl, hb3⟩
  have r0 := cell_later hb3 q0
  have r1 := cell_later hb3 q1
  have r2 := cell_later hb3 q2
  clear q0 q1 q2
  have hv3 := hv2.later hb3
  have h03 : Below bk w w3 := h02.trans (hb3.mono hsz.out)
  have hsz3 : Hid (bk ≤ w3.heap.size) := Nat.le_trans hsz.out hb3.size
  cases hw : dH vid 1 65536
  ·go_wp2_with (go_at_call 70; refine (isId_is _ _ hw _).mono ?_; rintro e w4 ⟨rfl, rfl⟩)
   go_ret
   exact ⟨cN (by rw [hbd.out, hmy, hw]; rfl), by rw [hbk]; exact h03⟩
  ·go_wp2_with fail
   refine (isId_is _ _ hw _).mono ?_
   rintro e w4 ⟨rfl, rfl⟩
   cases hr : nG rn rs
   ·go_wp2_with (go_at_call 112; refine (rangesRight_is _ _ _ _ _ hr _ hv3.ranges (by omega) hv3.rcap hrc).mono ?_; rintro e w4 ⟨rfl, hb4⟩)
    go_ret
    exact ⟨cN (by rw [hbd.out, hmy, hw, hr]; rfl), by rw [hbk]; exact h03.trans (hb4.mono hsz3.out)⟩
   ·go_wp2_with fail
    refine (rangesRight_is _ _ _ _ _ hr _ hv3.ranges (by omega) hv3.rcap hrc).mono ?_
    rintro e w4 ⟨rfl, hb4⟩
    have s0 := cell_later hb4 r0
    have s1 := cell_later hb4 r1
    have s2 := cell_later hb4 r2
    clear r0 r1 r2
    have hv4 := hv3.later hb4
    have h04 : Below bk w w4 := h03.trans (hb4.mono hsz3.out)
    have hsz4 : Hid (bk ≤ w4.heap.size) := Nat.le_trans hsz3.out hb4.size
    cases hs : mN rn rs sn ss
    all_goals go_wp2_with (go_at_call 113; refine (subsRight_is _ _ _ _ _ _ _ _ _ _ hs _ hv4.ranges f1 hv4.subs f2 hv4.scap f3 f4).mono ?_; rintro e w5 ⟨rfl, hb5⟩)
    all_goals go_ret
    all_goals exact ⟨cN (by rw [hbd.out, hmy, hw, hr, hs]; rfl), by rw [hbk]; exact h04.trans (hb5.mono hsz4.out)⟩
 ·go_wp2_with (go_at_call 111; refine (tooMany_is _ _ _ _ _ _ _ _ _ hmy _ hrn hv2.subs hsn).mono ?_; rintro e w3 ⟨rfl, hb3⟩)
  go_ret
  exact ⟨cN (by rw [hbd.out, hmy]; rfl), by rw [hbk]; exact h02.trans (hb3.mono hsz.out)⟩
def G7 (g : Nat) (cap : Array Value) (n : Nat) (ps : List Vn) (f : Nat → Bool) (w : World) : Prop :=
 ∀ i, i < n → ∀ W, Below w.heap.size w W → Calls Tryz.prog g (#[.agg #[.int .i64 (vnAt ps i).id, .slice (vnAt ps i).rx (vnAt ps i).rn (vnAt ps i).rc, .slice (vnAt ps i).sx (vnAt ps i).sn (vnAt ps i).sc]] ++ cap) W fun e W' => e = .returned (.bool (f i)) ∧ Below W.heap.size W W'
theorem fA (g : Nat) (cap : Array Value) (x : Option Addr) (n c : Nat) (ps : List Vn) (f : Nat → Bool) (w : World) (hp : VS w x n ps) (hn : n ≤ 1048576) (hF : G7 g cap n ps f w)
  (hg : ∀ args W, (callFunc g args).run Tryz.prog W = .ok (.enter g args) W) :
  Calls Tryz.prog 33 #[.slice x n c, .func (.func g) #[] cap] w fun e w' => (∃ r : Int, e = .returned (.int .i64 r) ∧ ((∃ i : Nat, i < n ∧ f i = true ∧ (∀ j, j < i → f j = false) ∧ r = i) ∨ ((∀ j, j < n → f j = false) ∧ r = -1))) ∧ Below w.heap.size w w' := by
 have HF : Hid (G7 g cap n ps f w) := hF
 clear hF
 go_enter Tryz.func33, Tryz.ntmps33
 go_wp2
 go_loopw [8] (fun i wr => ∃ k : Nat, k ≤ n ∧ i = .int .i64 k ∧ Below w.heap.size w wr ∧ (∀ j, j < k → f j = false)) (fun i _ => n - (intOf i).toNat)
 case atStart => exact ⟨0, by omega, rfl, Below.refl _ _, fun j hj => by omega⟩
 case round =>
  obtain ⟨k, hk, rfl, hB, hno⟩ := hrel
  by_cases hlt : k < n
  ·obtain ⟨b, o, rfl, c0, c1, c2⟩ := hp.cells k hlt
   have d0 := cell_later hB c0
   have d1 := cell_later hB c1
   have d2 := cell_later hB c2
   go_wp2_with fail
   refine (HF.out k hlt _ hB).mono ?_
   rintro e w1 ⟨rfl, hb1⟩
   have hC := hB.trans (hb1.mono hB.size)
   cases hf : f k
   ·go_wp2
    go_roundw
    case rel => exact ⟨k + 1, hlt, by go_num, hC, fun j hj => by
     by_cases hj2 : j < k
     ·exact hno j hj2
     ·obtain rfl : j = k := by omega
      exact hf⟩
    case measure => simp [intOf]; omega
   ·go_wp2
    go_ret
    exact ⟨⟨_, rfl, .inl ⟨k, hlt, hf, hno, rfl⟩⟩, hC⟩
  ·go_wp2
   go_ret
   exact ⟨⟨_, rfl, .inr ⟨fun j hj => hno j (by omega), rfl⟩⟩, hB⟩
theorem rH (g : Nat) (cap : Array Value) (x : Option Addr) (n c : Nat) (ps : List Vn) (f : Nat → Bool) (w : World) (hp : VS w x n ps) (hn : n ≤ 1048576) (hF : G7 g cap n ps f w)
  (hg : ∀ args W, (callFunc g args).run Tryz.prog W = .ok (.enter g args) W) :
  Calls Tryz.prog 57 #[.slice x n c, .func (.func g) #[] cap] w fun e w' => e = .returned (.bool (aK n f)) ∧ Below w.heap.size w w' := by
 have H := fA g cap x n c ps f w hp hn hF hg
 have H' : Hid (Calls Tryz.prog 33 #[.slice x n c, .func (.func g) #[] cap] w fun e w' => (∃ r : Int, e = .returned (.int .i64 r) ∧ decide (r ≥ 0) = aK n f) ∧ Below w.heap.size w w') := (H.mono fun e w' h => by
  obtain ⟨⟨r, rfl, hr⟩, hb⟩ := h
  refine ⟨⟨r, rfl, ?_⟩, hb⟩
  rcases hr with ⟨i, hi, hfi, _, rfl⟩ | ⟨hno, rfl⟩
  ·rw [aT hi hfi]; simp
  ·rw [cY hno]; rfl)
 clear hF H
 go_enter Tryz.func57, Tryz.ntmps57
 go_wp2_with fail
 refine H'.out.mono ?_
 rintro e w1 ⟨⟨r, rfl, hr⟩, hb1⟩
 go_wp2
 go_ret
 exact ⟨rfl, hb1⟩
def G8 (g : Nat) (cap : Array Value) (n : Nat) (ps : List (Int × Int)) (f : Nat → Bool) (w : World) : Prop :=
 ∀ i, i < n → ∀ W, Below w.heap.size w W → Calls Tryz.prog g (#[.agg #[.int .i64 (dA ps i), .int .i64 (eA ps i)]] ++ cap) W fun e W' => e = .returned (.bool (f i)) ∧ Below W.heap.size W W'
theorem mX (g : Nat) (cap : Array Value) (x : Option Addr) (n c : Nat) (ps : List (Int × Int)) (f : Nat → Bool) (w : World) (hp : PS w x n ps) (hn : n ≤ 1048576) (hF : G8 g cap n ps f w)
  (hg : ∀ args W, (callFunc g args).run Tryz.prog W = .ok (.enter g args) W) :
  Calls Tryz.prog 115 #[.slice x n c, .func (.func g) #[] cap] w fun e w' => (∃ r : Int, e = .returned (.int .i64 r) ∧ ((∃ i : Nat, i < n ∧ f i = true ∧ (∀ j, j < i → f j = false) ∧ r = i) ∨ ((∀ j, j < n → f j = false) ∧ r = -1))) ∧ Below w.heap.size w w' := by
 have HF : Hid (G8 g cap n ps f w) := hF
 clear hF
 go_enter Tryz.func115, Tryz.ntmps115
 go_wp2
 go_loopw [8] (fun i wr => ∃ k : Nat, k ≤ n ∧ i = .int .i64 k ∧ Below w.heap.size w wr ∧ (∀ j, j < k → f j = false)) (fun i _ => n - (intOf i).toNat)
 case atStart => exact ⟨0, by omega, rfl, Below.refl _ _, fun j hj => by omega⟩
 case round =>
  obtain ⟨k, hk, rfl, hB, hno⟩ := hrel
  by_cases hlt : k < n
  ·obtain ⟨b, o, rfl, c0, c1⟩ := hp.cells k hlt
   have d0 := cell_later hB c0
   have d1 := cell_later hB c1
   go_wp2_with fail
   refine (HF.out k hlt _ hB).mono ?_
   rintro e w1 ⟨rfl, hb1⟩
   have hC := hB.trans (hb1.mono hB.size)
   cases hf : f k
   ·go_wp2
    go_roundw
    case rel => exact ⟨k + 1, hlt, by go_num, hC, fun j hj => by
     by_cases hj2 : j < k
     ·exact hno j hj2
     ·obtain rfl : j = k := by omega
      exact hf⟩
    case measure => simp [intOf]; omega
   ·go_wp2
    go_ret
    exact ⟨⟨_, rfl, .inl ⟨k, hlt, hf, hno, rfl⟩⟩, hC⟩
  ·go_wp2
   go_ret
   exact ⟨⟨_, rfl, .inr ⟨fun j hj => hno j (by omega), rfl⟩⟩, hB⟩
theorem rI (g : Nat) (cap : Array Value) (x : Option Addr) (n c : Nat) (ps : List (Int × Int)) (f : Nat → Bool) (w : World) (hp : PS w x n ps) (hn : n ≤ 1048576) (hF : G8 g cap n ps f w)
  (hg : ∀ args W, (callFunc g args).run Tryz.prog W = .ok (.enter g args) W) :
  Calls Tryz.prog 63 #[.slice x n c, .func (.func g) #[] cap] w fun e w' => e = .returned (.bool (aK n f)) ∧ Below w.heap.size w w' := by
 have H := mX g cap x n c ps f w hp hn hF hg
 have H' : Hid (Calls Tryz.prog 115 #[.slice x n c, .func (.func g) #[] cap] w fun e w' => (∃ r : Int, e = .returned (.int .i64 r) ∧ decide (r ≥ 0) = aK n f) ∧ Below w.heap.size w w') := (H.mono fun e w' h => by
  obtain ⟨⟨r, rfl, hr⟩, hb⟩ := h
  refine ⟨⟨r, rfl, ?_⟩, hb⟩
  rcases hr with ⟨i, hi, hfi, _, rfl⟩ | ⟨hno, rfl⟩
  ·rw [aT hi hfi]; simp
  ·rw [cY hno]; rfl)
 clear hF H
 go_enter Tryz.func63, Tryz.ntmps63
 go_wp2_with fail
 refine H'.out.mono ?_
 rintro e w1 ⟨⟨r, rfl, hr⟩, hb1⟩
 go_wp2
 go_ret
 exact ⟨rfl, hb1⟩
theorem vI (p r : Vn) (v : Int) (hv : zM p.id r.id v) (bb kk : Nat) (w : World) (hby : w.cell? ⟨bb, 0, none⟩ = some (.func (.func 56) #[] #[])) :
  Calls Tryz.prog 110 #[.agg #[.int .i64 p.id, .slice p.rx p.rn p.rc, .slice p.sx p.sn p.sc], .agg #[.int .i64 r.id, .slice r.rx r.rn r.rc, .slice r.sx r.sn r.sc], .slice (some ⟨bb, 0, none⟩) 1 kk] w fun e w' => e = .returned (.int .i64 v) ∧ Below w.heap.size w w' := JQ.2.2.2.2.2 UP.2.2.2.2.2 p r v hv bb kk w hby
def eH (ps : List Vn) (i : Nat) : Bool := i == 0 || decide ((vnAt ps (i - 1)).id < (vnAt ps i).id)
def cQ (ps : List Vn) : Bool := (List.range ps.length).all (eH ps)
theorem N2 {ps : List Vn} (hk : k < ps.length) (h : eH ps k = false) : cQ ps = false := by
 unfold cQ
 rw [List.all_eq_false]
 exact ⟨k, by simpa using hk, by simp [h]⟩
theorem KC {ps : List Vn} (h : ∀ j, j < ps.length → eH ps j = true) : cQ ps = true := by
 unfold cQ
 rw [List.all_eq_true]
 intro j hj
 exact h j (by simpa using hj)
theorem KD (x : Option Addr) (n c : Nat) (ps : List Vn) (bb kk : Nat) (w : World) (hp : VS w x n ps) (hn : n ≤ 64) (hby : w.cell? ⟨bb, 0, none⟩ = some (.func (.func 56) #[] #[])) :
  Calls Tryz.prog 55 #[.slice x n c, .slice (some ⟨bb, 0, none⟩) 1 kk] w fun e w' => e = .returned (.bool (cQ ps)) ∧ Below w.heap.size w w' := by
 go_enter Tryz.func55, Tryz.ntmps55
 go_wp2
 go_loopw [5] (fun i wr => ∃ j : Nat, 1 ≤ j ∧ j ≤ n + 1 ∧ i = .int .i64 j ∧ Below w.heap.size w wr ∧ (∀ i, i < j → i < n → eH ps i = true)) (fun i _ => n + 1 - (intOf i).toNat)
 case atStart => exact ⟨1, by omega, by omega, rfl, Below.refl _ _, fun i hi _ => by
  obtain rfl : i = 0 := by omega
  rfl⟩
 case round =>
  obtain ⟨j, hj1, hjn, rfl, hB, hok⟩ := hrel
  have hz := hB.size
  have hpl := hp.len
  by_cases hlt : j < n
  ·obtain ⟨i, rfl⟩ : ∃ i, j = i + 1 := ⟨j - 1, by omega⟩
   have hp2 := hp.later hB
   obtain ⟨b, o, rfl, c0, c1, c2⟩ := hp2.cells i (by omega)
   obtain ⟨b2, o2, hbo, d0, d1, d2⟩ := hp2.cells (i + 1) (by omega)
   simp only [Option.some.injEq, Addr.mk.injEq, and_true] at hbo
   obtain ⟨rfl, rfl⟩ := hbo
   have hby' := cell_later hB hby
   have hlt' := hlt
   have g0 := Ws.here c0
   have k0 := Ws.here d0
   have g1 := Ws.here c1
   have k1 := Ws.here d1
   have g2 := Ws.here c2
   have k2 := Ws.here d2
   have g9 := Ws.here hby'
   have hv : ∃ v, zM ((vnAt ps i).id) ((vnAt ps (i + 1)).id) v ∧ (decide ((vnAt ps i).id < (vnAt ps (i + 1)).id) = !(decide (0 ≤ v))) := by
    rcases Int.lt_trichotomy ((vnAt ps i).id) ((vnAt ps (i + 1)).id) with h | h | h
    ·exact ⟨-1, .inl ⟨h, rfl⟩, by simp [h]⟩
    ·exact ⟨0, .inr (.inl ⟨h, rfl⟩), by simp [h]⟩
    ·exact ⟨1, .inr (.inr ⟨h, rfl⟩), by simp; omega⟩
   obtain ⟨v, hv, hd⟩ := hv
   go_upto_region 4 with fail
   clear c0 d0 c1 d1 c2 d2
   refine aI wr.heap.size (by kernel_rfl) (by kernel_rfl) ?_
   cases hg : decide (0 ≤ v)
   all_goals rw [hg] at hd
   all_goals have hge : decide (v ≥ 0) = _ := hg
   all_goals repeat (go_big_quiet_step ((go_at_call 110; exact Calls.in_ws (Nat.le_refl _) (vI (vnAt ps i) (vnAt ps (i + 1)) _ hv _ _ _ (g9 _)))))
   all_goals refine wpQuiet_nil ?_
   all_goals rintro _ ⟨u, rfl⟩
   all_goals have hu := hB.trans (u.property.mono hz)
   all_goals generalize u.val = wu at hu ⊢
   all_goals clear u g9 g0 k0 g1 k1 g2 k2
   all_goals go_wp2
   ·go_roundw
    case rel => exact ⟨i + 1 + 1, by omega, by omega, by go_num, hu, fun q hq hqn => by
     by_cases hq2 : q < i + 1
     ·exact hok q hq2 hqn
     ·obtain rfl : q = i + 1 := by omega
      simp only [eH, Nat.add_sub_cancel, hd]
      simp⟩
    case measure => simp [intOf]; omega
   ·go_ret
    exact ⟨aH (N2 (k := i + 1) (by omega) (by simp only [eH, Nat.add_sub_cancel, hd]; simp)).symm, hu⟩
  ·go_wp2
   go_ret
   exact ⟨aH (KC (fun i hi => hok i (by omega) (by omega))).symm, hB⟩
end Go.Proofs.YtndpilfpejfloaaGreat
