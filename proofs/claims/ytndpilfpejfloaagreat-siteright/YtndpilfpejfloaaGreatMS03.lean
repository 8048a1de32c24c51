/- A part of the proof. -/
import Derived.Test.YtndpilfpejfloaaGreatMS02
set_option maxRecDepth 100000
set_option maxHeartbeats 3200000
namespace Go.Proofs.YtndpilfpejfloaaGreat
variable {i q c k b j n g base' cap c' : Nat} {w V V' w' W W1 : World} {a l t' : Int} {o : List (Int × Int)} {x x' : Option Addr} {ps qs : List Po} {cs : Array Value} {t : TypeId} {v v0 v1 v2 v3 v4 v' u : Value} {f : Nat → Bool} {p : Po} {ops : Array Oper} {C : World → Prop} {A : Act} {rest : List Oper} {e : Le} {es ls' : List Le} {fr : Nat × Nat} {ad : Addr}
open Go.RowKit Go.Shelf
def tR (g : Nat) (cap : Array Value) (n : Nat) (ps : List Po) (f : Nat → Bool) (w : World) : Prop :=
 ∀ i, i < n → ∀ W, Below w.heap.size w W → Calls Tryz.prog g (#[.agg #[.int .i64 (poAt ps i).id, .int .i64 (poAt ps i).up, .int .i64 (poAt ps i).a, .int .i64 (poAt ps i).l, .int .i64 (poAt ps i).mn, .int .i64 (poAt ps i).mx, .int .i64 (poAt ps i).us, .int .i64 (poAt ps i).co, .slice (poAt ps i).x (poAt ps i).n (poAt ps i).c]] ++ cap) W fun e W' => e = .returned (.bool (f i)) ∧ Below W.heap.size W W'
theorem iV (g : Nat) (cap : Array Value) (x : Option Addr) (n c : Nat) (ps : List Po) (f : Nat → Bool) (w : World) (hp : qA w x n ps) (hn : n ≤ 64) (hF : tR g cap n ps f w)
  (hg : ∀ args W, (callFunc g args).run Tryz.prog W = .ok (.enter g args) W) :
  Calls Tryz.prog 120 #[.slice x n c, .func (.func g) #[] cap] w fun e w' => (∃ r : Int, e = .returned (.int .i64 r) ∧ ((∃ i : Nat, i < n ∧ f i = true ∧ (∀ j, j < i → f j = false) ∧ r = i) ∨ ((∀ j, j < n → f j = false) ∧ r = -1))) ∧ Below w.heap.size w w' := by
 have HF : Hid (tR g cap n ps f w) := hF
 clear hF
 go_enter Tryz.func120, Tryz.ntmps120
 go_wp2
 go_loopw [8] (fun i wr => ∃ k : Nat, k ≤ n ∧ i = .int .i64 k ∧ Below w.heap.size w wr ∧ (∀ j, j < k → f j = false)) (fun i _ => n - (intOf i).toNat)
 case atStart => exact ⟨0, by omega, rfl, Below.refl _ _, fun j hj => by omega⟩
 case round =>
  obtain ⟨k, hk, rfl, hB, hno⟩ := hrel
  by_cases hlt : k < n
  ·obtain ⟨b, o, rfl, c0, c1, c2, c3, c4, c5, c6, c7, c8⟩ := hp.cells k hlt
   have d0 := cell_later hB c0
   have d1 := cell_later hB c1
   have d2 := cell_later hB c2
   have d3 := cell_later hB c3
   have d4 := cell_later hB c4
   have d5 := cell_later hB c5
   have d6 := cell_later hB c6
   have d7 := cell_later hB c7
   have d8 := cell_later hB c8
   go_wp2_with fail
   refine (HF.out k hlt _ hB).mono ?_
   rintro e w1 ⟨rfl, hb1⟩
   have hC := hB.trans (hb1.mono hB.size)
   cases hf : f k
   ·go_wp2
    go_roundw
    case rel => exact ⟨k + 1, hlt, by go_num, hC, fun j hj => by
     by_cases hj2 : j < k
     ·exact hno j hj2
     ·obtain rfl : j = k := by omega
      exact hf⟩
    case measure => simp [intOf]; omega
   ·go_wp2
    go_ret
    exact ⟨⟨_, rfl, .inl ⟨k, hlt, hf, hno, rfl⟩⟩, hC⟩
  ·go_wp2
   go_ret
   exact ⟨⟨_, rfl, .inr ⟨fun j hj => hno j (by omega), rfl⟩⟩, hB⟩
theorem jV (g : Nat) (cap : Array Value) (x : Option Addr) (n c : Nat) (ps : List Po) (f : Nat → Bool) (w : World) (hp : qA w x n ps) (hn : n ≤ 64) (hF : tR g cap n ps f w)
  (hg : ∀ args W, (callFunc g args).run Tryz.prog W = .ok (.enter g args) W) :
  Calls Tryz.prog 68 #[.slice x n c, .func (.func g) #[] cap] w fun e w' => e = .returned (.bool (aK n f)) ∧ Below w.heap.size w w' := by
 have H := iV g cap x n c ps f w hp hn hF hg
 have H' : Hid (Calls Tryz.prog 120 #[.slice x n c, .func (.func g) #[] cap] w fun e w' => (∃ r : Int, e = .returned (.int .i64 r) ∧ decide (r ≥ 0) = aK n f) ∧ Below w.heap.size w w') := (H.mono fun e w' h => by
  obtain ⟨⟨r, rfl, hr⟩, hb⟩ := h
  refine ⟨⟨r, rfl, ?_⟩, hb⟩
  rcases hr with ⟨i, hi, hfi, _, rfl⟩ | ⟨hno, rfl⟩
  ·rw [aT hi hfi]; simp
  ·rw [cY hno]; rfl)
 clear hF H
 go_enter Tryz.func68, Tryz.ntmps68
 go_wp2_with fail
 refine H'.out.mono ?_
 rintro e w1 ⟨⟨r, rfl, hr⟩, hb1⟩
 go_wp2
 go_ret
 exact ⟨rfl, hb1⟩
def qX (g : Nat) (cap : Array Value) (n : Nat) (ps : List Le) (f : Nat → Bool) (w : World) : Prop :=
 ∀ i, i < n → ∀ W, Below w.heap.size w W → Calls Tryz.prog g (#[.agg #[.int .i64 (aM ps i).a, .int .i64 (aM ps i).l, .int .i64 (aM ps i).kd, .int .i64 (aM ps i).ow, .int .i64 (aM ps i).un]] ++ cap) W fun e W' => e = .returned (.bool (f i)) ∧ Below W.heap.size W W'
theorem eZ (g : Nat) (cap : Array Value) (x : Option Addr) (n c : Nat) (ps : List Le) (f : Nat → Bool) (w : World) (hp : LS w x n ps) (hn : n ≤ 1048576) (hF : qX g cap n ps f w)
  (hg : ∀ args W, (callFunc g args).run Tryz.prog W = .ok (.enter g args) W) :
  Calls Tryz.prog 131 #[.slice x n c, .func (.func g) #[] cap] w fun e w' => (∃ r : Int, e = .returned (.int .i64 r) ∧ ((∃ i : Nat, i < n ∧ f i = true ∧ (∀ j, j < i → f j = false) ∧ r = i) ∨ ((∀ j, j < n → f j = false) ∧ r = -1))) ∧ Below w.heap.size w w' := by
 have HF : Hid (qX g cap n ps f w) := hF
 clear hF
 go_enter Tryz.func131, Tryz.ntmps131
 go_wp2
 go_loopw [8] (fun i wr => ∃ k : Nat, k ≤ n ∧ i = .int .i64 k ∧ Below w.heap.size w wr ∧ (∀ j, j < k → f j = false)) (fun i _ => n - (intOf i).toNat)
 case atStart => exact ⟨0, by omega, rfl, Below.refl _ _, fun j hj => by omega⟩
 case round =>
  obtain ⟨k, hk, rfl, hB, hno⟩ := hrel
  by_cases hlt : k < n
  ·obtain ⟨b, o, rfl, c0, c1, c2, c3, c4⟩ := hp.cells k hlt
   have d0 := cell_later hB c0
   have d1 := cell_later hB c1
   have d2 := cell_later hB c2
   have d3 := cell_later hB c3
   have d4 := cell_later hB c4
   go_wp2_with fail
   refine (HF.out k hlt _ hB).mono ?_
   rintro e w1 ⟨rfl, hb1⟩
   have hC := hB.trans (hb1.mono hB.size)
   cases hf : f k
   ·go_wp2
    go_roundw
    case rel => exact ⟨k + 1, hlt, by go_num, hC, fun j hj => by
     by_cases hj2 : j < k
     ·exact hno j hj2
     ·obtain rfl : j = k := by omega
      exact hf⟩
    case measure => simp [intOf]; omega
   ·go_wp2
    go_ret
    exact ⟨⟨_, rfl, .inl ⟨k, hlt, hf, hno, rfl⟩⟩, hC⟩
  ·go_wp2
   go_ret
   exact ⟨⟨_, rfl, .inr ⟨fun j hj => hno j (by omega), rfl⟩⟩, hB⟩
theorem qY (g : Nat) (cap : Array Value) (x : Option Addr) (n c : Nat) (ps : List Le) (f : Nat → Bool) (w : World) (hp : LS w x n ps) (hn : n ≤ 1048576) (hF : qX g cap n ps f w)
  (hg : ∀ args W, (callFunc g args).run Tryz.prog W = .ok (.enter g args) W) :
  Calls Tryz.prog 87 #[.slice x n c, .func (.func g) #[] cap] w fun e w' => e = .returned (.bool (aK n f)) ∧ Below w.heap.size w w' := by
 have H := eZ g cap x n c ps f w hp hn hF hg
 have H' : Hid (Calls Tryz.prog 131 #[.slice x n c, .func (.func g) #[] cap] w fun e w' => (∃ r : Int, e = .returned (.int .i64 r) ∧ decide (r ≥ 0) = aK n f) ∧ Below w.heap.size w w') := (H.mono fun e w' h => by
  obtain ⟨⟨r, rfl, hr⟩, hb⟩ := h
  refine ⟨⟨r, rfl, ?_⟩, hb⟩
  rcases hr with ⟨i, hi, hfi, _, rfl⟩ | ⟨hno, rfl⟩
  ·rw [aT hi hfi]; simp
  ·rw [cY hno]; rfl)
 clear hF H
 go_enter Tryz.func87, Tryz.ntmps87
 go_wp2_with fail
 refine H'.out.mono ?_
 rintro e w1 ⟨⟨r, rfl, hr⟩, hb1⟩
 go_wp2
 go_ret
 exact ⟨rfl, hb1⟩
theorem DR (id : Int) (p : Po) (b : Nat) (w : World) (h0 : w.cell? ⟨b, 0, none⟩ = some (.int .i64 id)) :
  Calls Tryz.prog 126 #[.agg #[.int .i64 p.id, .int .i64 p.up, .int .i64 p.a, .int .i64 p.l, .int .i64 p.mn, .int .i64 p.mx, .int .i64 p.us, .int .i64 p.co, .slice p.x p.n p.c], .pointer (some ⟨b, 0, none⟩)] w fun e w' => e = .returned (.bool (p.id == id)) ∧ Below w.heap.size w w' := by
 have k0 : ∀ q, (w.alloc q).cell? ⟨b, 0, none⟩ = some (.int .i64 id) := fun q => cell_later (bl1 w q) h0
 go_enter Tryz.func126, Tryz.ntmps126
 go_wp2
 go_ret
 exact ⟨rfl, bl1 w _⟩
theorem BX (args : Array Value) (W : World) : (callFunc 126 args).run Tryz.prog W = .ok (.enter 126 args) W := by simp [go_sem]
theorem MX (id : Int) (b n : Nat) (ps : List Po) (w : World) (h0 : w.cell? ⟨b, 0, none⟩ = some (.int .i64 id)) :
  tR 126 #[.pointer (some ⟨b, 0, none⟩)] n ps (fun i => (poAt ps i).id == id) w := fun i _ W hW => DR id (poAt ps i) b W (cell_later hW h0)
theorem pplace_any (t id : Int) (x : Option Addr) (n c : Nat) (ps : List Po) (w : World) (hp : qA w x n ps) (hn : n ≤ 64) :
  Calls Tryz.prog 82 #[.agg #[.int .i64 t, .slice x n c], .int .i64 id] w fun e w' => e = .returned (.int .i64 (aN ps id)) ∧ Below w.heap.size w w' := by
 have hl := hp.len
 go_enter Tryz.func82, Tryz.ntmps82
 go_wp2_with fail
 refine (iV 126 _ x n c ps _ _ (hp.later (cB w _ _)) hn (MX id (w.heap.size + 1) n ps _ (by simp)) BX).mono ?_
 rintro e w1 ⟨⟨r, rfl, hr⟩, hb1⟩
 have hr' : r = aN ps id := by
  rcases hr with ⟨i, hi, hf, hno, rfl⟩ | ⟨hno, rfl⟩
  ·exact (nQ (by omega) (by simpa using hf) (fun j hj => by simpa using hno j hj)).symm
  ·exact (rS (fun j hj => by simpa using hno j (by omega))).symm
 subst hr'
 clear hr
 go_wp2
 go_ret
 exact ⟨rfl, (cB w _ _).trans (hb1.mono (by simp; omega))⟩
def fN (ls : List Le) (id : Int) (i : Nat) : Bool := ((aM ls i).kd == 2) && ((aM ls i).ow == id)
theorem zR (id : Int) (p : Le) (b : Nat) (w : World) (h0 : w.cell? ⟨b, 0, none⟩ = some (.int .i64 id)) :
  Calls Tryz.prog 133 #[.agg #[.int .i64 p.a, .int .i64 p.l, .int .i64 p.kd, .int .i64 p.ow, .int .i64 p.un], .pointer (some ⟨b, 0, none⟩)] w fun e w' => e = .returned (.bool ((p.kd == 2) && (p.ow == id))) ∧ Below w.heap.size w w' := by
 have k0 : ∀ q, (w.alloc q).cell? ⟨b, 0, none⟩ = some (.int .i64 id) := fun q => cell_later (bl1 w q) h0
 cases hk : (p.kd == 2)
 all_goals go_enter Tryz.func133, Tryz.ntmps133
 all_goals go_wp2
 all_goals go_ret
 all_goals exact ⟨rfl, bl1 w _⟩
theorem xF (args : Array Value) (W : World) : (callFunc 133 args).run Tryz.prog W = .ok (.enter 133 args) W := by simp [go_sem]
theorem DS (id : Int) (b n : Nat) (ls : List Le) (w : World) (h0 : w.cell? ⟨b, 0, none⟩ = some (.int .i64 id)) :
  qX 133 #[.pointer (some ⟨b, 0, none⟩)] n ls (fN ls id) w := fun i _ W hW => zR id (aM ls i) b W (cell_later hW h0)
theorem BY (id : Int) (p : Po) (w : World) (hp : LS w p.x p.n p.ls) (hn : p.n ≤ 1048576) :
  Calls Tryz.prog 90 #[.agg #[.int .i64 p.id, .int .i64 p.up, .int .i64 p.a, .int .i64 p.l, .int .i64 p.mn, .int .i64 p.mx, .int .i64 p.us, .int .i64 p.co, .slice p.x p.n p.c], .int .i64 id] w fun e w' => (∃ r : Int, e = .returned (.int .i64 r) ∧ ((∃ i : Nat, i < p.n ∧ fN p.ls id i = true ∧ (∀ j, j < i → fN p.ls id j = false) ∧ r = i) ∨ ((∀ j, j < p.n → fN p.ls id j = false) ∧ r = -1))) ∧ Below w.heap.size w w' := by
 go_enter Tryz.func90, Tryz.ntmps90
 go_wp2_with fail
 refine (eZ 133 _ p.x p.n p.c p.ls _ _ (hp.later (cB w _ _)) hn (DS id (w.heap.size + 1) p.n p.ls _ (by simp)) xF).mono ?_
 rintro e w1 ⟨⟨r, rfl, hr⟩, hb1⟩
 have hr' : Hid ((∃ i : Nat, i < p.n ∧ fN p.ls id i = true ∧ (∀ j, j < i → fN p.ls id j = false) ∧ r = i) ∨ ((∀ j, j < p.n → fN p.ls id j = false) ∧ r = -1)) := hr
 clear hr
 go_wp2
 go_ret
 exact ⟨⟨r, rfl, hr'.out⟩, (cB w _ _).trans (hb1.mono (by simp; omega))⟩
def lp (ls : List Le) : List (Int × Int) := ls.map fun e => (e.a, e.l)
theorem qZ (ls : List Le) : (lp ls).length = ls.length := by unfold lp; simp
theorem II {ls : List Le} (hi : i < ls.length) : dA (lp ls) i = (aM ls i).a ∧ eA (lp ls) i = (aM ls i).l := by
 rw [jG (by rw [qZ]; exact hi), mE (by rw [qZ]; exact hi)]
 unfold lp aM
 simp [List.getD, hi]
theorem QF {ls : List Le} (hq : q < ls.length) : (lp ls).take (q + 1) = (lp ls).take q ++ [((aM ls q).a, (aM ls q).l)] := by
 rw [JO (by rw [qZ]; exact hq), (II hq).1, (II hq).2]
theorem gG.base (h : gG w V a l o x c) : Below w.heap.size w V := h.2.2
def xG (a l : Int) (n : Nat) (ls : List Le) (w : World) (e : Ending) (w' : World) : Prop :=
 ∃ x' c', e = .returned (.agg #[.int .i64 a, .int .i64 l, .slice x' n c']) ∧ Below w.heap.size w w' ∧ PS w' x' n (lp ls)
theorem nX (p : Po) (w : World) (hp : LS w p.x p.n p.ls) (hn : p.n ≤ 1048576) :
  Calls Tryz.prog 73 #[.agg #[.int .i64 p.id, .int .i64 p.up, .int .i64 p.a, .int .i64 p.l, .int .i64 p.mn, .int .i64 p.mx, .int .i64 p.us, .int .i64 p.co, .slice p.x p.n p.c]] w (xG p.a p.l p.n p.ls w) := by
 obtain ⟨i0, hi, hz0, hz1, hz2⟩ := BT
 obtain ⟨id, up, a, l, mn, mx, us, co, x, n, c, ls⟩ := p
 simp only at hp hn ⊢
 have hpl := hp.len
 go_enter Tryz.func73, Tryz.ntmps73
 go_upto_region 1 with fail
 have hB := cB w (.cells #[.int .i64 id, .int .i64 up, .int .i64 a, .int .i64 l, .int .i64 mn, .int .i64 mx, .int .i64 us, .int .i64 co, .slice x n c] 59) (.cells #[.int .i64 0, .int .i64 0, .slice none 0 0] 134)
 have hP : ((w.alloc (.cells #[.int .i64 id, .int .i64 up, .int .i64 a, .int .i64 l, .int .i64 mn, .int .i64 mx, .int .i64 us, .int .i64 co, .slice x n c] 59)).alloc (.cells #[.int .i64 0, .int .i64 0, .slice none 0 0] 134)).heap[w.heap.size]? = some (.cells #[.int .i64 id, .int .i64 up, .int .i64 a, .int .i64 l, .int .i64 mn, .int .i64 mx, .int .i64 us, .int .i64 co, .slice x n c] 59) := aF _ (aC _ rfl)
 have hR : ((w.alloc (.cells #[.int .i64 id, .int .i64 up, .int .i64 a, .int .i64 l, .int .i64 mn, .int .i64 mx, .int .i64 us, .int .i64 co, .slice x n c] 59)).alloc (.cells #[.int .i64 0, .int .i64 0, .slice none 0 0] 134)).heap[w.heap.size + 1]? = some (.cells #[.int .i64 0, .int .i64 0, .slice none 0 0] 134) := aC _ (by simp)
 generalize (w.alloc (.cells #[.int .i64 id, .int .i64 up, .int .i64 a, .int .i64 l, .int .i64 mn, .int .i64 mx, .int .i64 us, .int .i64 co, .slice x n c] 59)).alloc (.cells #[.int .i64 0, .int .i64 0, .slice none 0 0] 134) = w1 at hB hP hR ⊢
 have p2 : w1.cell? ⟨w.heap.size, 2, none⟩ = some (.int .i64 a) := by simp [World.cell?, hP]
 have p3 : w1.cell? ⟨w.heap.size, 3, none⟩ = some (.int .i64 l) := by simp [World.cell?, hP]
 have p8 : ∀ o, (w1.alloc o).cell? ⟨w.heap.size, 8, none⟩ = some (.slice x n c) := fun o => cell_later (bl1 w1 o) (by simp [World.cell?, hP])
 have hR1 := (Array.getElem?_eq_some_iff.1 hR).1
 go_wp2
 clear p2 p3 p8
 go_loopw [12] (fun i wr => ∃ (q : Nat) (o : List (Int × Int)) (xo : Option Addr) (k : Nat), q ≤ n ∧ i = .int .i64 q ∧ Hid (o = (lp ls).take q) ∧ gG w1 wr a l o xo k) (fun i _ => n - (intOf i).toNat)
 case atStart => exact ⟨0, [], none, 0, by omega, rfl, by unfold Hid; simp, gG.start w1 a l⟩
 case round =>
  obtain ⟨q, o, xo, k, hq, rfl, ho, hO⟩ := hrel
  have hol : Hid (o.length = q) := by unfold Hid; rw [ho.out, List.length_take, qZ]; omega
  have hob : o.length ≤ n := by rw [hol.out]; exact hq
  by_cases hlt : q < n
  ·obtain ⟨b, of, rfl, c0, c1, c2, c3, c4⟩ := ((hp.later hB).later (gG.base hO)).cells q hlt
   have hlt' := hlt
   have hnx : Hid ((lp ls).take (q + 1) = (lp ls).take q ++ [((aM ls q).a, (aM ls q).l)]) := QF (by omega)
   have hO1 := hO.later (bl1 wr (.cells #[.int .i64 (aM ls q).a, .int .i64 (aM ls q).l, .int .i64 (aM ls q).kd, .int .i64 (aM ls q).ow, .int .i64 (aM ls q).un] 138))
   obtain ⟨-, -, o2, -⟩ := ML hO1.1
   go_wp2_with (at_builtin; refine Hid.out ?_)
   unfold Hid
   have hwl := (Array.getElem?_eq_some_iff.1 hO.1).1
   refine wpList_append_own _ rfl _ _ 94 rfl (w1.heap.size + 1) 49 i0 (.agg #[.int .i64 0, .int .i64 0]) 2 16 xE hi hz0 hz1 hz2 rfl (by decide) _ _ _ rfl (hO1.2.1.alloc _) ⟨wr.heap.size + 1, 0, none⟩ 1 1 [.int .i64 (aM ls q).a, .int .i64 (aM ls q).l] rfl rfl ?_ (by simp [Value.oneCell']) (by unfold maxLen; omega) (by omega) (by simp; omega) ?_
   ·intro j u hj
    rcases j with _ | _ | j
    ·simp at hj; subst hj; simp [Addr.add]
    ·simp at hj; subst hj; simp [Addr.add]
    ·simp at hj
   ·intro v' w5 hown' hgrow' _
    obtain ⟨x5, k5, rfl, f5, y5, hb5, hO5⟩ := gG.append hO1 hown' hgrow'
    clear hown' hgrow' c0 c1 c2 c3 c4 o2
    go_wp2
    go_roundw
    case rel => exact ⟨q + 1, _, x5, k5, hlt', by go_num, (by rw [hnx.out, ← ho.out]; rfl), hO5⟩
    case measure => simp [intOf]; omega
  ·obtain rfl : q = n := by omega
   obtain ⟨o0, o1, o2, -⟩ := ML hO.1
   have hBr := gG.base hO
   have hR2 := (hBr.block _ hR1).trans hR
   obtain ⟨r0, r1, r2, z0, z1, z2⟩ := ML hR2
   obtain ⟨hp7, hf7⟩ := gG.ps hO
   have hall : Hid (o = lp ls) := by unfold Hid; rw [ho.out, ← hpl, ← qZ]; exact List.take_length
   have hB2 := hB.trans (hBr.mono hB.size)
   go_wp2
   refine bodyPost_ret (v := .agg #[.int .i64 a, .int .i64 l, .slice xo o.length k]) (by simp [results, Tryz.results73, go_sem, r0, r1, r2]) rfl ?_
   unfold xG
   refine ⟨xo, k, by rw [hol.out], F9 hB2 (by omega) _ _ _, ?_⟩
   rw [← hall.out]
   rw [hol.out] at hp7
   exact hp7.set3 (fun q hq => by have := hf7 q hq; omega) _ _ _
def kO (ps : List Po) (c m : Int) (i : Nat) : Bool := ((poAt ps i).up == 0) && gF (poAt ps i).a (poAt ps i).l c m
theorem zS (c m : Int) (p : Po) (b : Nat) (w : World) (h0 : w.cell? ⟨b, 0, none⟩ = some (.int .i64 c)) (h1 : w.cell? ⟨b, 1, none⟩ = some (.int .i64 m)) :
  Calls Tryz.prog 121 #[.agg #[.int .i64 p.id, .int .i64 p.up, .int .i64 p.a, .int .i64 p.l, .int .i64 p.mn, .int .i64 p.mx, .int .i64 p.us, .int .i64 p.co, .slice p.x p.n p.c], .pointer (some ⟨b, 0, none⟩)] w fun e w' => e = .returned (.bool ((p.up == 0) && gF p.a p.l c m)) ∧ Below w.heap.size w w' := by
 have k0 : ∀ q, (w.alloc q).cell? ⟨b, 0, none⟩ = some (.int .i64 c) := fun q => cell_later (bl1 w q) h0
 have k1 : ∀ q, (w.alloc q).cell? ⟨b, 1, none⟩ = some (.int .i64 m) := fun q => cell_later (bl1 w q) h1
 cases hk : (p.up == 0)
 ·go_enter Tryz.func121, Tryz.ntmps121
  go_wp2
  go_ret
  exact ⟨rfl, bl1 w _⟩
 ·go_enter Tryz.func121, Tryz.ntmps121
  go_wp2_with (go_at_call 15; refine (meets_any _ _ _ _ _).mono ?_; rintro e w1 ⟨rfl, hb1⟩)
  go_ret
  exact ⟨rfl, (bl1 w _).trans (hb1.mono (by simp))⟩
theorem xH (args : Array Value) (W : World) : (callFunc 121 args).run Tryz.prog W = .ok (.enter 121 args) W := by simp [go_sem]
theorem DT (c m : Int) (b n : Nat) (ps : List Po) (w : World) (h0 : w.cell? ⟨b, 0, none⟩ = some (.int .i64 c)) (h1 : w.cell? ⟨b, 1, none⟩ = some (.int .i64 m)) :
  tR 121 #[.pointer (some ⟨b, 0, none⟩)] n ps (kO ps c m) w := fun i _ W hW => zS c m (poAt ps i) b W (cell_later hW h0) (cell_later hW h1)
theorem rW (c m : Int) (x : Option Addr) (n k : Nat) (ps : List Po) (w : World) (hp : qA w x n ps) (hn : n ≤ 64) :
  Calls Tryz.prog 71 #[.slice x n k, .agg #[.int .i64 c, .int .i64 m]] w fun e w' => e = .returned (.bool (aK n (kO ps c m))) ∧ Below w.heap.size w w' := by
 go_enter Tryz.func71, Tryz.ntmps71
 go_wp2_with fail
 refine (jV 121 _ x n k ps _ _ (hp.later (bl1 w _)) hn (DT c m w.heap.size n ps _ (by simp) (by simp)) xH).mono ?_
 rintro e w1 ⟨rfl, hb1⟩
 go_wp2
 go_ret
 exact ⟨rfl, (bl1 w _).trans (hb1.mono (by simp))⟩
theorem BZ (p : Po) (w : World) :
  Calls Tryz.prog 69 #[.agg #[.int .i64 p.id, .int .i64 p.up, .int .i64 p.a, .int .i64 p.l, .int .i64 p.mn, .int .i64 p.mx, .int .i64 p.us, .int .i64 p.co, .slice p.x p.n p.c]] w fun e w' => e = .returned (.bool (!dH p.id 1 65536)) ∧ Below w.heap.size w w' := by
 go_enter Tryz.func69, Tryz.ntmps69
 go_wp2_with (go_at_call 70; refine (isId_any _ _).mono ?_; rintro e w1 ⟨rfl, rfl⟩)
 go_ret
 exact ⟨rfl, bl1 w _⟩
theorem zT (args : Array Value) (W : World) : (callFunc 69 args).run Tryz.prog W = .ok (.enter 69 args) W := by simp [go_sem]
theorem GD (n : Nat) (ps : List Po) (w : World) : tR 69 #[] n ps (fun i => !dH (poAt ps i).id 1 65536) w := fun i _ W _ => BZ (poAt ps i) W
theorem rX (p r : Po) (v : Int) (hv : zM p.id r.id v) (bb kk : Nat) (w : World) (hby : w.cell? ⟨bb, 0, none⟩ = some (.func (.func 67) #[] #[])) :
  Calls Tryz.prog 119 #[.agg #[.int .i64 p.id, .int .i64 p.up, .int .i64 p.a, .int .i64 p.l, .int .i64 p.mn, .int .i64 p.mx, .int .i64 p.us, .int .i64 p.co, .slice p.x p.n p.c], .agg #[.int .i64 r.id, .int .i64 r.up, .int .i64 r.a, .int .i64 r.l, .int .i64 r.mn, .int .i64 r.mx, .int .i64 r.us, .int .i64 r.co, .slice r.x r.n r.c], .slice (some ⟨bb, 0, none⟩) 1 kk] w fun e w' => e = .returned (.int .i64 v) ∧ Below w.heap.size w w' := JQ.2.1 UP.2.1 p r v hv bb kk w hby
def fS (ps : List Po) (i : Nat) : Bool := i == 0 || decide ((poAt ps (i - 1)).id < (poAt ps i).id)
def iE (ps : List Po) : Bool := (List.range ps.length).all (fS ps)
theorem JR (hk : k < ps.length) (h : fS ps k = false) : iE ps = false := by
 unfold iE
 rw [List.all_eq_false]
 exact ⟨k, by simpa using hk, by simp [h]⟩
theorem GE (h : ∀ j, j < ps.length → fS ps j = true) : iE ps = true := by
 unfold iE
 rw [List.all_eq_true]
 intro j hj
 exact h j (by simpa using hj)
theorem GF (x : Option Addr) (n c : Nat) (ps : List Po) (bb kk : Nat) (w : World) (hp : qA w x n ps) (hn : n ≤ 64) (hby : w.cell? ⟨bb, 0, none⟩ = some (.func (.func 67) #[] #[])) :
  Calls Tryz.prog 66 #[.slice x n c, .slice (some ⟨bb, 0, none⟩) 1 kk] w fun e w' => e = .returned (.bool (iE ps)) ∧ Below w.heap.size w w' := by
 go_enter Tryz.func66, Tryz.ntmps66
 go_wp2
 go_loopw [5] (fun i wr => ∃ j : Nat, 1 ≤ j ∧ j ≤ n + 1 ∧ i = .int .i64 j ∧ Below w.heap.size w wr ∧ (∀ i, i < j → i < n → fS ps i = true)) (fun i _ => n + 1 - (intOf i).toNat)
 case atStart => exact ⟨1, by omega, by omega, rfl, Below.refl _ _, fun i hi _ => by
  obtain rfl : i = 0 := by omega
  rfl⟩
 case round =>
  obtain ⟨j, hj1, hjn, rfl, hB, hok⟩ := hrel
  have hz := hB.size
  have hpl := hp.len
  by_cases hlt : j < n
  ·obtain ⟨i, rfl⟩ : ∃ i, j = i + 1 := ⟨j - 1, by omega⟩
   have hp2 := hp.later hB
   obtain ⟨b, o, rfl, c0, c1, c2, c3, c4, c5, c6, c7, c8⟩ := hp2.cells i (by omega)
   obtain ⟨b2, o2, hbo, d0, d1, d2, d3, d4, d5, d6, d7, d8⟩ := hp2.cells (i + 1) (by omega)
   simp only [Option.some.injEq, Addr.mk.injEq, and_true] at hbo
   obtain ⟨rfl, rfl⟩ := hbo
   have hby' := cell_later hB hby
   have hlt' := hlt
   have g0 := Ws.here c0
   have k0 := Ws.here d0
   have g1 := Ws.here c1
   have k1 := Ws.here d1
   have g2 := Ws.here c2
   have k2 := Ws.here d2
   have g3 := Ws.here c3
   have k3 := Ws.here d3
   have g4 := Ws.here c4
   have k4 := Ws.here d4
   have g5 := Ws.here c5
   have k5 := Ws.here d5
   have g6 := Ws.here c6
   have k6 := Ws.here d6
   have g7 := Ws.here c7
   have k7 := Ws.here d7
   have g8 := Ws.here c8
   have k8 := Ws.here d8
   have g9 := Ws.here hby'
   have hv : ∃ v, zM ((poAt ps i).id) ((poAt ps (i + 1)).id) v ∧ (decide ((poAt ps i).id < (poAt ps (i + 1)).id) = !(decide (0 ≤ v))) := by
    rcases Int.lt_trichotomy ((poAt ps i).id) ((poAt ps (i + 1)).id) with h | h | h
    ·exact ⟨-1, .inl ⟨h, rfl⟩, by simp [h]⟩
    ·exact ⟨0, .inr (.inl ⟨h, rfl⟩), by simp [h]⟩
    ·exact ⟨1, .inr (.inr ⟨h, rfl⟩), by simp; omega⟩
   obtain ⟨v, hv, hd⟩ := hv
   go_upto_region 4 with fail
   clear c0 d0 c1 d1 c2 d2 c3 d3 c4 d4 c5 d5 c6 d6 c7 d7 c8 d8
   refine aI wr.heap.size (by kernel_rfl) (by kernel_rfl) ?_
   cases hg : decide (0 ≤ v)
   all_goals rw [hg] at hd
   all_goals have hge : decide (v ≥ 0) = _ := hg
   all_goals repeat (go_big_quiet_step ((go_at_call 119; exact Calls.in_ws (Nat.le_refl _) (rX (poAt ps i) (poAt ps (i + 1)) _ hv _ _ _ (g9 _)))))
   all_goals refine wpQuiet_nil ?_
   all_goals rintro _ ⟨u, rfl⟩
   all_goals have hu := hB.trans (u.property.mono hz)
   all_goals generalize u.val = wu at hu ⊢
   all_goals clear u g9 g0 k0 g1 k1 g2 k2 g3 k3 g4 k4 g5 k5 g6 k6 g7 k7 g8 k8
   all_goals go_wp2
   ·go_roundw
    case rel => exact ⟨i + 1 + 1, by omega, by omega, by go_num, hu, fun q hq hqn => by
     by_cases hq2 : q < i + 1
     ·exact hok q hq2 hqn
     ·obtain rfl : q = i + 1 := by omega
      simp only [fS, Nat.add_sub_cancel, hd]
      simp⟩
    case measure => simp [intOf]; omega
   ·go_ret
    exact ⟨aH (JR (k := i + 1) (by omega) (by simp only [fS, Nat.add_sub_cancel, hd]; simp)).symm, hu⟩
  ·go_wp2
   go_ret
   exact ⟨aH (GE (fun i hi => hok i (by omega) (by omega))).symm, hB⟩
def lO (n : Nat) (ps : List Po) : Bool := iE ps && !aK n (fun i => !dH (poAt ps i).id 1 65536)
theorem DU (x : Option Addr) (n c : Nat) (ps : List Po) (w : World) (hp : qA w x n ps) (hn : n ≤ 64) :
  Calls Tryz.prog 36 #[.slice x n c] w fun e w' => e = .returned (.bool (lO n ps)) ∧ Below w.heap.size w w' := by
 unfold lO
 go_enter Tryz.func36, Tryz.ntmps36
 go_wp2_with fail
 refine (GF x n c ps w.heap.size 1 _ (hp.later (bl1 w _)) hn (by simp)).mono ?_
 rintro e w1 ⟨rfl, hb1⟩
 have hB := (bl1 w _).trans (hb1.mono (by simp))
 clear hb1
 cases hr : iE ps
 ·go_wp2
  go_ret
  exact ⟨aH (by rw [hr]; rfl), hB⟩
 ·go_wp2_with fail
  refine (jV 69 #[] x n c ps _ _ (hp.later hB) hn (GD n ps _) zT).mono ?_
  rintro e w2 ⟨rfl, hb2⟩
  go_wp2
  go_ret
  exact ⟨aH (by rw [hr]; simp), hB.trans (hb2.mono hB.size)⟩
theorem aA (h : V.heap[b]? = some (.cells cs t)) : (∀ j, V.cell? ⟨b, j, none⟩ = cs[j]?) ∧ (∀ j, V.frozen? ⟨b, j, none⟩ = false) := by
 refine ⟨fun j => ?_, fun j => ?_⟩
 ·simp [World.cell?, h]
 ·simp [World.frozen?, h]
theorem aU (h : w.heap[b]? = some (.cells cs t)) (i : Nat) (hv : cs[i]? = some v) : w.cell? ⟨b, i, none⟩ = some v := ((aA h).1 i).trans hv
theorem aO (h : w.heap[b]? = some (.cells cs t)) (h0 : cs[0]? = some v0) (h1 : cs[1]? = some v1) : w.cell? ⟨b, 0, none⟩ = some v0 ∧ w.cell? ⟨b, 1, none⟩ = some v1 := ⟨aU h 0 h0, aU h 1 h1⟩
theorem bI (h : w.heap[b]? = some (.cells cs t)) (h0 : cs[0]? = some v0) (h1 : cs[1]? = some v1) (h2 : cs[2]? = some v2) : w.cell? ⟨b, 0, none⟩ = some v0 ∧ w.cell? ⟨b, 1, none⟩ = some v1 ∧ w.cell? ⟨b, 2, none⟩ = some v2 := ⟨aU h 0 h0, aU h 1 h1, aU h 2 h2⟩
theorem zN (h : w.heap[b]? = some (.cells cs t)) (h0 : cs[0]? = some v0) (h1 : cs[1]? = some v1) (h2 : cs[2]? = some v2) (h3 : cs[3]? = some v3) : w.cell? ⟨b, 0, none⟩ = some v0 ∧ w.cell? ⟨b, 1, none⟩ = some v1 ∧ w.cell? ⟨b, 2, none⟩ = some v2 ∧ w.cell? ⟨b, 3, none⟩ = some v3 := ⟨aU h 0 h0, aU h 1 h1, aU h 2 h2, aU h 3 h3⟩
theorem V7 (h : w.heap[b]? = some (.cells cs t)) (h0 : cs[0]? = some v0) (h1 : cs[1]? = some v1) (h2 : cs[2]? = some v2) (h3 : cs[3]? = some v3) (h4 : cs[4]? = some v4) : w.cell? ⟨b, 0, none⟩ = some v0 ∧ w.cell? ⟨b, 1, none⟩ = some v1 ∧ w.cell? ⟨b, 2, none⟩ = some v2 ∧ w.cell? ⟨b, 3, none⟩ = some v3 ∧ w.cell? ⟨b, 4, none⟩ = some v4 := ⟨aU h 0 h0, aU h 1 h1, aU h 2 h2, aU h 3 h3, aU h 4 h4⟩
theorem vY {v5 v6 v7 v8 v9 : Value} (h : w.heap[b]? = some (.cells cs t)) (h0 : cs[0]? = some v0) (h1 : cs[1]? = some v1) (h2 : cs[2]? = some v2) (h3 : cs[3]? = some v3) (h4 : cs[4]? = some v4) (h5 : cs[5]? = some v5) (h6 : cs[6]? = some v6) (h7 : cs[7]? = some v7) (h8 : cs[8]? = some v8) (h9 : cs[9]? = some v9) : w.cell? ⟨b, 0, none⟩ = some v0 ∧ w.cell? ⟨b, 1, none⟩ = some v1 ∧ w.cell? ⟨b, 2, none⟩ = some v2 ∧ w.cell? ⟨b, 3, none⟩ = some v3 ∧ w.cell? ⟨b, 4, none⟩ = some v4 ∧ w.cell? ⟨b, 5, none⟩ = some v5 ∧ w.cell? ⟨b, 6, none⟩ = some v6 ∧ w.cell? ⟨b, 7, none⟩ = some v7 ∧ w.cell? ⟨b, 8, none⟩ = some v8 ∧ w.cell? ⟨b, 9, none⟩ = some v9 := ⟨aU h 0 h0, aU h 1 h1, aU h 2 h2, aU h 3 h3, aU h 4 h4, aU h 5 h5, aU h 6 h6, aU h 7 h7, aU h 8 h8, aU h 9 h9⟩
theorem cH (h : w.heap[b]? = some (.cells cs t)) : w.frozen? ⟨b, 0, none⟩ = false ∧ w.frozen? ⟨b, 1, none⟩ = false := ⟨(aA h).2 0, (aA h).2 1⟩
theorem eO (h : w.heap[b]? = some (.cells cs t)) : w.frozen? ⟨b, 0, none⟩ = false ∧ w.frozen? ⟨b, 1, none⟩ = false ∧ w.frozen? ⟨b, 2, none⟩ = false := ⟨(aA h).2 0, (aA h).2 1, (aA h).2 2⟩
theorem WA (h : w.heap[b]? = some (.cells cs t)) : w.frozen? ⟨b, 0, none⟩ = false ∧ w.frozen? ⟨b, 1, none⟩ = false ∧ w.frozen? ⟨b, 2, none⟩ = false ∧ w.frozen? ⟨b, 3, none⟩ = false := ⟨(aA h).2 0, (aA h).2 1, (aA h).2 2, (aA h).2 3⟩
theorem aB {o : Obj} (hb : Below V.heap.size V V') (h : V.heap[b]? = some o) : V'.heap[b]? = some o := (hb.block _ (Array.getElem?_eq_some_iff.1 h).1).trans h
abbrev UX (p : Po) : Value := .agg #[.int .i64 p.id, .int .i64 p.up, .int .i64 p.a, .int .i64 p.l, .int .i64 p.mn, .int .i64 p.mx, .int .i64 p.us, .int .i64 p.co, .slice p.x p.n p.c]
abbrev GG (p : Po) : Obj := .cells #[.int .i64 p.id, .int .i64 p.up, .int .i64 p.a, .int .i64 p.l, .int .i64 p.mn, .int .i64 p.mx, .int .i64 p.us, .int .i64 p.co, .slice p.x p.n p.c] 59
theorem bC (h : i < ps.length) : poAt ps i = ps[i] := by simp [poAt, List.getD_eq_getElem?_getD, h]
theorem tS (h : j < i) : poAt (ps.take i) j = poAt ps j := by
 unfold poAt
 rw [List.getD_eq_getElem?_getD, List.getD_eq_getElem?_getD, List.getElem?_take_of_lt h]
theorem qA.take (h : qA w x n ps) (hi : i ≤ n) : qA w x i (ps.take i) where
 len := by rw [List.length_take, h.len]; omega
 cells := fun j hj => by rw [tS hj]; exact h.cells j (by omega)
 leases := fun j hj => by rw [tS hj]; exact h.leases j (by omega)
theorem tT {g : Nat → Bool} (h : ∀ j, j < n → f j = g j) : aK n f = aK n g := by
 cases hg : aK n g
 ·refine cY fun j hj => ?_
  rw [h j hj]
  cases hgj : g j
  ·rfl
  ·rw [aT hj hgj] at hg; cases hg
 ·unfold aK at hg ⊢
  rw [List.any_eq_true] at hg ⊢
  obtain ⟨j, hj, hgj⟩ := hg
  exact ⟨j, hj, by rw [h j (by simpa using hj)]; exact hgj⟩
def mK (ps : List Po) (i : Nat) : Bool := !(((poAt ps i).up == 0) && aK i (kO ps (poAt ps i).a (poAt ps i).l))
def gH (ps : List Po) : Bool := (List.range ps.length).all (mK ps)
theorem QG (hk : k < ps.length) (h : mK ps k = false) : gH ps = false := by
 unfold gH
 rw [List.all_eq_false]
 exact ⟨k, by simpa using hk, by simp [h]⟩
theorem MY (h : ∀ j, j < ps.length → mK ps j = true) : gH ps = true := by
 unfold gH
 rw [List.all_eq_true]
 intro j hj
 exact h j (by simpa using hj)
theorem DV (ps : List Po) (i : Nat) (x : Option Addr) (n k : Nat) (w : World) (t : Bool) (hp : qA w x n ps) (hi : i ≤ n) (hn : n ≤ 64) (c m : Int) (h : aK i (kO ps c m) = t) :
  Calls Tryz.prog 71 #[.slice x i k, .agg #[.int .i64 c, .int .i64 m]] w fun e w' => e = .returned (.bool t) ∧ Below w.heap.size w w' := by
 have hm := rW c m x i k (ps.take i) w (hp.take hi) (by omega)
 rw [tT (f := kO (ps.take i) c m) (g := kO ps c m) (fun j hj => by unfold kO; rw [tS hj]), h] at hm
 exact hm
theorem zU (x : Option Addr) (n c : Nat) (ps : List Po) (w : World) (hp : qA w x n ps) (hn : n ≤ 64) (hnc : n ≤ c) (hc63 : c ≤ 9223372036854775807) :
  Calls Tryz.prog 37 #[.slice x n c] w fun e w' => e = .returned (.bool (gH ps)) ∧ Below w.heap.size w w' := by
 have hpl : Hid (ps.length = n) := hp.len
 go_enter Tryz.func37, Tryz.ntmps37
 go_wp2
 go_loopw [7] (fun i wr => ∃ k : Nat, k ≤ n ∧ i = .int .i64 k ∧ Below w.heap.size w wr ∧ (∀ j, j < k → mK ps j = true)) (fun i _ => n - (intOf i).toNat)
 case atStart => exact ⟨0, by omega, rfl, Below.refl _ _, fun j hj => by omega⟩
 case round =>
  obtain ⟨k, hk, rfl, hB, hok⟩ := hrel
  by_cases hlt : k < n
  ·have hpr := hp.later hB
   obtain ⟨b, o, rfl, c0, c1, c2, c3, c4, c5, c6, c7, c8⟩ := hpr.cells k hlt
   have hlt' := hlt
   have hta : Hid (mK ps k = !(((poAt ps k).up == 0) && aK k (kO ps (poAt ps k).a (poAt ps k).l))) := rfl
   go_upto_region 4 with fail
   obtain ⟨w2, hw2⟩ : ∃ w2, w2 = wr.alloc (GG (poAt ps k)) := ⟨_, rfl⟩
   rw [← hw2]
   have h02 : Below wr.heap.size wr w2 := by rw [hw2]; exact bl1 wr _
   have hbox : w2.heap[wr.heap.size]? = some (GG (poAt ps k)) := by rw [hw2]; exact aC _ rfl
   clear hw2 c0 c1 c2 c3 c4 c5 c6 c7 c8
   have hp2 := hpr.later h02
   obtain ⟨hcl, -⟩ := aA hbox
   have g1 := Ws.here (v := .int .i64 (poAt ps k).up) (hcl 1)
   have g2 := Ws.here (v := .int .i64 (poAt ps k).a) (hcl 2)
   have g3 := Ws.here (v := .int .i64 (poAt ps k).l) (hcl 3)
   clear hcl
   cases hu : ((poAt ps k).up == 0)
   ·refine aI w2.heap.size (by kernel_rfl) (by kernel_rfl) ?_
    repeat (go_big_quiet_step (fail))
    refine wpQuiet_nil ?_
    rintro _ ⟨u, rfl⟩
    have hB2 := hB.trans (h02.mono hB.size)
    have hu2 := hB2.trans (u.property.mono hB2.size)
    generalize u.val = wu at hu2 ⊢
    clear u g1 g2 g3
    go_wp2
    go_roundw
    case rel => exact ⟨k + 1, hlt', by go_num, hu2, fun j hj => by
     by_cases hj2 : j < k
     ·exact hok j hj2
     ·obtain rfl : j = k := by omega
      rw [hta.out, hu]; rfl⟩
    case measure => simp [intOf]; omega
   ·cases ha : aK k (kO ps (poAt ps k).a (poAt ps k).l)
    all_goals refine aI w2.heap.size (by kernel_rfl) (by kernel_rfl) ?_
    all_goals repeat (go_big_quiet_step ((go_at_call 71; exact Calls.in_ws (Nat.le_refl _) (DV ps k _ n _ _ _ (hp2.later (Ws.property _)) (by omega) hn _ _ ha))))
    all_goals refine wpQuiet_nil ?_
    all_goals rintro _ ⟨u, rfl⟩
    all_goals have hB2 := hB.trans (h02.mono hB.size)
    all_goals have hu2 := hB2.trans (u.property.mono hB2.size)
    all_goals generalize u.val = wu at hu2 ⊢
    all_goals clear u g1 g2 g3
    ·go_wp2
     go_roundw
     case rel => exact ⟨k + 1, hlt', by go_num, hu2, fun j hj => by
      by_cases hj2 : j < k
      ·exact hok j hj2
      ·obtain rfl : j = k := by omega
       rw [hta.out, hu, ha]; rfl⟩
     case measure => simp [intOf]; omega
    ·go_wp2
     go_ret
     exact ⟨aH (QG (by rw [hpl.out]; exact hlt') (by rw [hta.out, hu, ha]; rfl)).symm, hu2⟩
  ·obtain rfl : k = n := by omega
   go_wp2
   go_ret
   exact ⟨aH (MY (by rw [hpl.out]; exact hok)).symm, hB⟩
def bM (n : Nat) (f : Nat → Bool) : Int := match (List.range n).find? f with | some i => (i : Int) | none => -1
theorem kS (hi : i < n) (h : f i = true) (hno : ∀ j, j < i → f j = false) : bM n f = i := by
 unfold bM
 have hf : (List.range n).find? f = some i := by
  rw [List.find?_range_eq_some]
  exact ⟨h, by simpa using hi, fun j hj => by simp [hno j hj]⟩
 rw [hf]
theorem rA (hno : ∀ j, j < n → f j = false) : bM n f = -1 := by
 unfold bM
 have hf : (List.range n).find? f = none := by
  rw [List.find?_eq_none]
  intro j hj
  simp [hno j (by simpa using hj)]
 rw [hf]
theorem xI (h : aK n f = true) : ∃ i, i < n ∧ f i = true ∧ ∀ j, j < i → f j = false := by
 induction n with
 | zero => simp [aK] at h
 | succ n ih =>
  cases ha : aK n f
  ·refine ⟨n, by omega, ?_, fun j hj => ?_⟩
   ·unfold aK at h ha
    rw [List.range_succ, List.any_append, ha] at h
    simpa using h
   ·cases hj2 : f j
    ·rfl
    ·rw [aT hj hj2] at ha; cases ha
  ·obtain ⟨i, hi, h1, h2⟩ := ih ha
   exact ⟨i, by omega, h1, h2⟩
theorem firstAt_any : (aK n f = true ∧ ∃ i : Nat, i < n ∧ f i = true ∧ (∀ j, j < i → f j = false) ∧ bM n f = i) ∨ (aK n f = false ∧ (∀ j, j < n → f j = false) ∧ bM n f = -1) := by
 cases h : aK n f
 ·have hno : ∀ j, j < n → f j = false := fun j hj => by
   cases hj2 : f j
   ·rfl
   ·rw [aT hj hj2] at h; cases h
  exact .inr ⟨rfl, hno, rA hno⟩
 ·obtain ⟨i, h1, h2, h3⟩ := xI h
  exact .inl ⟨rfl, i, h1, h2, h3, kS h1 h2 h3⟩
theorem vA (id : Int) (p : Po) (w : World) (hp : LS w p.x p.n p.ls) (hn : p.n ≤ 1048576) :
  Calls Tryz.prog 90 #[UX p, .int .i64 id] w fun e w' => e = .returned (.int .i64 (bM p.n (fN p.ls id))) ∧ Below w.heap.size w w' := by
 refine (BY id p w hp hn).mono ?_
 rintro e w' ⟨⟨r, rfl, hr⟩, hb⟩
 rcases hr with ⟨i, hi, h1, h2, rfl⟩ | ⟨h1, rfl⟩
 ·exact ⟨by rw [kS hi h1 h2], hb⟩
 ·exact ⟨by rw [rA h1], hb⟩
theorem aR {id : Int} (h : ¬ aN ps id < 0) : ∃ i : Nat, i < ps.length ∧ aN ps id = i ∧ (poAt ps i).id = id := by
 unfold aN at h ⊢
 cases hf : ps.findIdx? (fun p => p.id == id) with
 | none => rw [hf] at h; simp at h
 | some i =>
  rw [List.findIdx?_eq_some_iff_getElem] at hf
  obtain ⟨hi, h1, -⟩ := hf
  exact ⟨i, hi, rfl, by rw [bC hi]; simpa using h1⟩
def lH (ps : List Po) : Nat → Po → Bool
 | 0, _ => false
 | f + 1, p => if p.up = 0 then true else if aN ps p.up < 0 then false else if aK (poAt ps (aN ps p.up).toNat).n (fN (poAt ps (aN ps p.up).toNat).ls p.id) = true then lH ps f (poAt ps (aN ps p.up).toNat) else false
theorem SK {f : Nat} (h : p.up = 0) : lH ps (f + 1) p = true := by unfold lH; rw [if_pos h]
theorem QH {f : Nat} (h : p.up ≠ 0) (h2 : aN ps p.up < 0) : lH ps (f + 1) p = false := by unfold lH; rw [if_neg h, if_pos h2]
theorem SL {f : Nat} (h : p.up ≠ 0) (h2 : aN ps p.up = i) (h3 : aK (poAt ps i).n (fN (poAt ps i).ls p.id) = false) : lH ps (f + 1) p = false := by
 unfold lH
 rw [if_neg h, h2, if_neg (by omega)]
 simp only [Int.toNat_natCast]
 rw [h3]
 rfl
theorem IJ {f : Nat} (h : p.up ≠ 0) (h2 : aN ps p.up = i) (h3 : aK (poAt ps i).n (fN (poAt ps i).ls p.id) = true) : lH ps (f + 1) p = lH ps f (poAt ps i) := by
 unfold lH
 rw [if_neg h, h2, if_neg (by omega)]
 simp only [Int.toNat_natCast]
 rw [if_pos h3]
 cases f <;> rfl
theorem QI (q : Po) (h : V.heap[b]? = some (GG p)) : ((((((((((V).setCell ⟨b, 0, none⟩ (.int .i64 q.id)).setCell ⟨b, 1, none⟩ (.int .i64 q.up)).setCell ⟨b, 2, none⟩ (.int .i64 q.a)).setCell ⟨b, 3, none⟩ (.int .i64 q.l)).setCell ⟨b, 4, none⟩ (.int .i64 q.mn)).setCell ⟨b, 5, none⟩ (.int .i64 q.mx)).setCell ⟨b, 6, none⟩ (.int .i64 q.us)).setCell ⟨b, 7, none⟩ (.int .i64 q.co)).setCell ⟨b, 8, none⟩ (.slice q.x q.n q.c)).heap[b]? = some (GG q) := by
 have h0 := heap_setCell_same V b 0 _ 59 (.int .i64 q.id) h
 have h1 := heap_setCell_same _ b 1 _ 59 (.int .i64 q.up) h0
 have h2 := heap_setCell_same _ b 2 _ 59 (.int .i64 q.a) h1
 have h3 := heap_setCell_same _ b 3 _ 59 (.int .i64 q.l) h2
 have h4 := heap_setCell_same _ b 4 _ 59 (.int .i64 q.mn) h3
 have h5 := heap_setCell_same _ b 5 _ 59 (.int .i64 q.mx) h4
 have h6 := heap_setCell_same _ b 6 _ 59 (.int .i64 q.us) h5
 have h7 := heap_setCell_same _ b 7 _ 59 (.int .i64 q.co) h6
 have h8 := heap_setCell_same _ b 8 _ 59 (.slice q.x q.n q.c) h7
 simpa using h8
theorem JS (q : Po) (h : k ≠ b) : ((((((((((V).setCell ⟨b, 0, none⟩ (.int .i64 q.id)).setCell ⟨b, 1, none⟩ (.int .i64 q.up)).setCell ⟨b, 2, none⟩ (.int .i64 q.a)).setCell ⟨b, 3, none⟩ (.int .i64 q.l)).setCell ⟨b, 4, none⟩ (.int .i64 q.mn)).setCell ⟨b, 5, none⟩ (.int .i64 q.mx)).setCell ⟨b, 6, none⟩ (.int .i64 q.us)).setCell ⟨b, 7, none⟩ (.int .i64 q.co)).setCell ⟨b, 8, none⟩ (.slice q.x q.n q.c)).heap[k]? = V.heap[k]? := by
 rw [heap_setCell_other _ _ _ _ h, heap_setCell_other _ _ _ _ h, heap_setCell_other _ _ _ _ h, heap_setCell_other _ _ _ _ h, heap_setCell_other _ _ _ _ h, heap_setCell_other _ _ _ _ h, heap_setCell_other _ _ _ _ h, heap_setCell_other _ _ _ _ h, heap_setCell_other _ _ _ _ h]
theorem JT (q : Po) (h : Below w.heap.size w V) (hb : w.heap.size ≤ b) : Below w.heap.size w ((((((((((V).setCell ⟨b, 0, none⟩ (.int .i64 q.id)).setCell ⟨b, 1, none⟩ (.int .i64 q.up)).setCell ⟨b, 2, none⟩ (.int .i64 q.a)).setCell ⟨b, 3, none⟩ (.int .i64 q.l)).setCell ⟨b, 4, none⟩ (.int .i64 q.mn)).setCell ⟨b, 5, none⟩ (.int .i64 q.mx)).setCell ⟨b, 6, none⟩ (.int .i64 q.us)).setCell ⟨b, 7, none⟩ (.int .i64 q.co)).setCell ⟨b, 8, none⟩ (.slice q.x q.n q.c)) :=
 ((((((((h.setCell hb _).setCell hb _).setCell hb _).setCell hb _).setCell hb _).setCell hb _).setCell hb _).setCell hb _).setCell hb _
theorem DW (t : Int) (x : Option Addr) (n c : Nat) (ps : List Po) (p : Po) (w : World) (hp : qA w x n ps) (hn : n ≤ 64) :
  Calls Tryz.prog 75 #[.agg #[.int .i64 t, .slice x n c], UX p] w fun e w' => e = .returned (.bool (lH ps n p)) ∧ Below w.heap.size w w' := by
 have hpl : Hid (ps.length = n) := hp.len
 go_enter Tryz.func75, Tryz.ntmps75
 go_upto_region 1 with fail
 obtain ⟨w0, hw0⟩ : ∃ w0, w0 = (w.alloc (.cells #[.int .i64 t, .slice x n c] 25)).alloc (GG p) := ⟨_, rfl⟩
 rw [← hw0]
 have hB0 : Below w.heap.size w w0 := by rw [hw0]; exact cB w _ _
 have hb0 : w0.heap[w.heap.size]? = some (.cells #[.int .i64 t, .slice x n c] 25) := by rw [hw0]; exact aF _ (aC _ rfl)
 have hq0 : w0.heap[w.heap.size + 1]? = some (GG p) := by rw [hw0]; exact aC _ (by simp)
 clear hw0
 obtain ⟨kb, -⟩ := aA hb0
 go_wp2
 clear kb
 go_loopw [9] (fun i wr => ∃ (k : Nat) (q : Po), k ≤ n ∧ i = .int .i64 k ∧ Hid (lH ps n p = lH ps (n - k) q) ∧ wr.heap[w.heap.size]? = some (.cells #[.int .i64 t, .slice x n c] 25) ∧ wr.heap[w.heap.size + 1]? = some (GG q) ∧ Below w.heap.size w wr) (fun i _ => n - (intOf i).toNat)
 case atStart => exact ⟨0, p, by omega, rfl, rfl, hb0, hq0, hB0⟩
 case round =>
  obtain ⟨k, q, hk, rfl, hup, hbb, hbq, hB⟩ := hrel
  clear hb0 hq0 hB0
  by_cases hlt : k < n
  ·have hlt' := hlt
   obtain ⟨f, hf⟩ : ∃ f : Nat, Hid (n - k = f + 1) := ⟨n - k - 1, by unfold Hid; omega⟩
   obtain ⟨kb, -⟩ := aA hbb
   obtain ⟨kq, fq⟩ := aA hbq
   cases hu : (q.up == 0)
   ·have hu' : Hid (q.up ≠ 0) := by unfold Hid; simpa using hu
    go_upto_region 6 with (go_at_call 82; refine (pplace_any t q.up x n c ps _ (hp.later hB) hn).mono ?_; rintro e w1 ⟨rfl, hb1⟩)
    have hbb1 := aB hb1 hbb
    have hbq1 := aB hb1 hbq
    have hB1 := hB.trans (hb1.mono hB.size)
    clear hb1 kb kq fq hbb hbq hB
    obtain ⟨kb, -⟩ := aA hbb1
    obtain ⟨kq, fq⟩ := aA hbq1
    have g0 := Ws.here (v := .slice x n c) (kb 1)
    have g1 := Ws.here (v := .int .i64 q.id) (kq 0)
    cases hneg : decide (aN ps q.up < 0)
    ·obtain ⟨i, hi, hai, -⟩ := aR (ps := ps) (id := q.up) (by simpa using hneg)
     have hai' : Hid (aN ps q.up = i) := hai
     rw [hpl.out] at hi
     have hpw := hp.later hB1
     obtain ⟨b, o, rfl, c0, c1, c2, c3, c4, c5, c6, c7, c8⟩ := hpw.cells i hi
     obtain ⟨hl1, hl2, hl3⟩ := hpw.leases i hi
     rw [hai]
     have hge : decide ((i : Int) < 0) = false := by simp
     clear hai hneg
     have hi' := hi
     have e0 := Ws.here c0
     have e1 := Ws.here c1
     have e2 := Ws.here c2
     have e3 := Ws.here c3
     have e4 := Ws.here c4
     have e5 := Ws.here c5
     have e6 := Ws.here c6
     have e7 := Ws.here c7
     have e8 := Ws.here c8
     have hlf := fun W h => vA q.id (poAt ps i) W h hl2
     cases ha : aK (poAt ps i).n (fN (poAt ps i).ls q.id)
     ·have hfb : decide (bM (poAt ps i).n (fN (poAt ps i).ls q.id) < 0) = true := by
       rcases firstAt_any (n := (poAt ps i).n) (f := fN (poAt ps i).ls q.id) with ⟨h1, -⟩ | ⟨-, -, h1⟩
       ·rw [ha] at h1; cases h1
       ·rw [h1]; rfl
      refine aI w1.heap.size (by kernel_rfl) (by kernel_rfl) ?_
      repeat (go_big_quiet_step ((go_at_call 90; exact Calls.in_ws (Nat.le_refl _) (hlf _ (hl3.later (Ws.property _))))))
      refine wpQuiet_nil ?_
      rintro _ ⟨u, rfl⟩
      have hu2 := hB1.trans (u.property.mono hB1.size)
      generalize u.val = wu at hu2 ⊢
      clear u g0 g1 e0 e1 e2 e3 e4 e5 e6 e7 e8 c0 c1 c2 c3 c4 c5 c6 c7 c8
      go_wp2
      go_ret
      exact ⟨aH (by rw [hup.out, hf.out, SL hu'.out hai'.out ha]), hu2⟩
     ·have hfb : decide (bM (poAt ps i).n (fN (poAt ps i).ls q.id) < 0) = false := by
       rcases firstAt_any (n := (poAt ps i).n) (f := fN (poAt ps i).ls q.id) with ⟨-, k', -, -, -, h1⟩ | ⟨h1, -⟩
       ·rw [h1]; simp
       ·rw [ha] at h1; cases h1
      refine aI w1.heap.size (by kernel_rfl) (by kernel_rfl) ?_
      repeat (go_big_quiet_step ((go_at_call 90; exact Calls.in_ws (Nat.le_refl _) (hlf _ (hl3.later (Ws.property _))))))
      refine wpQuiet_nil ?_
      rintro _ ⟨u, rfl⟩
      have hu0 : Below w1.heap.size w1 u.val := u.property
      generalize u.val = wu at hu0 ⊢
      clear u g0 g1 e0 e1 e2 e3 e4 e5 e6 e7 e8 kb kq fq
      have hu2 := hB1.trans (hu0.mono hB1.size)
      have hbb2 := aB hu0 hbb1
      have hbq2 := aB hu0 hbq1
      replace c0 := cell_later hu0 c0
      replace c1 := cell_later hu0 c1
      replace c2 := cell_later hu0 c2
      replace c3 := cell_later hu0 c3
      replace c4 := cell_later hu0 c4
      replace c5 := cell_later hu0 c5
      replace c6 := cell_later hu0 c6
      replace c7 := cell_later hu0 c7
      replace c8 := cell_later hu0 c8
      obtain ⟨kb, -⟩ := aA hbb2
      obtain ⟨kq, fq⟩ := aA hbq2
      go_wp2
      go_roundw
      case rel => exact ⟨k + 1, poAt ps i, hlt', by go_num, by
       unfold Hid
       rw [hup.out, hf.out, IJ hu'.out hai'.out ha]
       congr 1
       have := hf.out
       omega, (JS (poAt ps i) (by omega)).trans hbb2, QI (poAt ps i) hbq2, JT (poAt ps i) hu2 (by omega)⟩
      case measure => simp [intOf]; omega
    ·have hai' : Hid (aN ps q.up < 0) := by unfold Hid; simpa using hneg
     refine aI w1.heap.size (by kernel_rfl) (by kernel_rfl) ?_
     repeat (go_big_quiet_step (fail))
     refine wpQuiet_nil ?_
     rintro _ ⟨u, rfl⟩
     have hu2 := hB1.trans (u.property.mono hB1.size)
     generalize u.val = wu at hu2 ⊢
     clear u g0 g1
     go_wp2
     go_ret
     exact ⟨aH (by rw [hup.out, hf.out, QH hu'.out hai'.out]), hu2⟩
   ·have hu' : Hid (q.up = 0) := by unfold Hid; simpa using hu
    go_wp2
    go_ret
    exact ⟨aH (by rw [hup.out, hf.out, SK hu'.out]), hB⟩
  ·obtain rfl : k = n := by omega
   go_wp2
   go_ret
   exact ⟨aH (by rw [hup.out, Nat.sub_self]; rfl), hB⟩
abbrev UQ (e : Le) : Value := .agg #[.int .i64 e.a, .int .i64 e.l, .int .i64 e.kd, .int .i64 e.ow, .int .i64 e.un]
abbrev RY (e : Le) : Obj := .cells #[.int .i64 e.a, .int .i64 e.l, .int .i64 e.kd, .int .i64 e.ow, .int .i64 e.un] 138
abbrev QJ (t : Int) (x : Option Addr) (n c : Nat) : Obj := .cells #[.int .i64 t, .slice x n c] 25
def SM (q : Po) (id : Int) (e : Le) : Bool := (q.up == id) && (decide (q.a = e.a) && decide (q.l = e.l)) && (e.un == 0)
def rB (t : Int) (ps : List Po) (id : Int) (e : Le) : Bool :=
 if e.kd = 1 then dH e.ow 1 65536 && (e.un == 0)
 else if e.kd = 2 then (if aN ps e.ow < 0 then false else SM (poAt ps (aN ps e.ow).toNat) id e)
 else if e.kd = 3 then (e.ow == 0) && (decide (t < e.un) && decide (e.un ≤ t + 1024)) else false
theorem isId_is (v : Int) (t : Bool) (h : dH v 1 65536 = t) (w : World) : Calls Tryz.prog 70 #[.int .i64 v] w fun e w' => e = .returned (.bool t) ∧ w' = w := by
 subst h
 exact isId_any v w
theorem GH {Q : Act → Prop} {o : Oper} (x y : Operand) (t : TypeId) (a l c m : Int) (hop : o.op = .binOp .eql 49 x y t) (hg : Region.wanted o (yielded ops A.tmps) = true)
  (hx : A.eval x = .agg #[.int .i64 a, .int .i64 l]) (hy : A.eval y = .agg #[.int .i64 c, .int .i64 m]) (h : wpQuiet Tryz.prog ops C Q rest (A.put o.dst (.bool (decide (a = c) && decide (l = m))))) : wpQuiet Tryz.prog ops C Q (o :: rest) A := by
 unfold wpQuiet
 rw [if_pos hg]
 refine ⟨_, fun w _ => ?_, h⟩
 unfold Oper.quietAt execOp
 rw [hop]
 simp only [hx, hy, Sem.run_bind, rR, AN, Result.andThen_ok, Sem.run_pure]
 exact ⟨rfl, rfl⟩
theorem VX {t : Int} {id : Int} (h : e.kd = 1) : rB t ps id e = (dH e.ow 1 65536 && (e.un == 0)) := by unfold rB; rw [if_pos h]
theorem UY {t : Int} {id : Int} (h : e.kd = 2) (h2 : aN ps e.ow < 0) : rB t ps id e = false := by unfold rB; rw [if_neg (by omega), if_pos h, if_pos h2]
theorem UZ {t : Int} {id : Int} (h : e.kd = 2) (h2 : aN ps e.ow = i) : rB t ps id e = SM (poAt ps i) id e := by
 unfold rB
 rw [if_neg (by omega), if_pos h, h2, if_neg (by omega)]
 simp only [Int.toNat_natCast]
theorem VY {t : Int} {id : Int} (h : e.kd = 3) : rB t ps id e = ((e.ow == 0) && (decide (t < e.un) && decide (e.un ≤ t + 1024))) := by unfold rB; rw [if_neg (by omega), if_neg (by omega), if_pos h]
theorem VZ {t : Int} {id : Int} (h1 : e.kd ≠ 1) (h2 : e.kd ≠ 2) (h3 : e.kd ≠ 3) : rB t ps id e = false := by unfold rB; rw [if_neg h1, if_neg h2, if_neg h3]
theorem B0 (t id : Int) (x : Option Addr) (n c : Nat) (ps : List Po) (e : Le) (w : World) (hk : e.kd = 1) :
  Calls Tryz.prog 76 #[.agg #[.int .i64 t, .slice x n c], .int .i64 id, UQ e] w fun r w' => r = .returned (.bool (rB t ps id e)) ∧ Below w.heap.size w w' := by
 have hb1 : (e.kd == 1) = true := by simpa using hk
 rw [VX hk]
 clear hk
 cases hi : dH e.ow 1 65536
 all_goals go_enter Tryz.func76, Tryz.ntmps76
 all_goals go_wp2_with (go_at_call 70; refine (isId_is e.ow _ hi _).mono ?_; rintro r w1 ⟨rfl, rfl⟩)
 all_goals go_ret
 all_goals exact ⟨rfl, cB w _ _⟩
theorem B1 (t id : Int) (x : Option Addr) (n c : Nat) (ps : List Po) (e : Le) (w : World) (hk : e.kd = 3) (t0 : 0 ≤ t) (t1 : t ≤ 1073741824) :
  Calls Tryz.prog 76 #[.agg #[.int .i64 t, .slice x n c], .int .i64 id, UQ e] w fun r w' => r = .returned (.bool (rB t ps id e)) ∧ Below w.heap.size w w' := by
 have hb1 : (e.kd == 1) = false := by simp [hk]
 have hb2 : (e.kd == 2) = false := by simp [hk]
 have hb3 : (e.kd == 3) = true := by simp [hk]
 rw [VY hk]
 clear hk
 cases ho : (e.ow == 0)
 ·go_enter Tryz.func76, Tryz.ntmps76
  go_wp2
  go_ret
  exact ⟨rfl, cB w _ _⟩
 ·cases hu : decide (t < e.un)
  all_goals go_enter Tryz.func76, Tryz.ntmps76
  all_goals go_wp2
  all_goals go_ret
  all_goals exact ⟨rfl, cB w _ _⟩
theorem B2 (t id : Int) (x : Option Addr) (n c : Nat) (ps : List Po) (e : Le) (w : World) (h1 : e.kd ≠ 1) (h2 : e.kd ≠ 2) (h3 : e.kd ≠ 3) :
  Calls Tryz.prog 76 #[.agg #[.int .i64 t, .slice x n c], .int .i64 id, UQ e] w fun r w' => r = .returned (.bool (rB t ps id e)) ∧ Below w.heap.size w w' := by
 have hb1 : (e.kd == 1) = false := by simpa using h1
 have hb2 : (e.kd == 2) = false := by simpa using h2
 have hb3 : (e.kd == 3) = false := by simpa using h3
 rw [VZ h1 h2 h3]
 clear h1 h2 h3
 go_enter Tryz.func76, Tryz.ntmps76
 go_wp2
 go_ret
 exact ⟨rfl, cB w _ _⟩
theorem B3 (t id : Int) (x : Option Addr) (n c : Nat) (ps : List Po) (e : Le) (w : World) (hp : qA w x n ps) (hn : n ≤ 64) (hk : e.kd = 2) :
  Calls Tryz.prog 76 #[.agg #[.int .i64 t, .slice x n c], .int .i64 id, UQ e] w fun r w' => r = .returned (.bool (rB t ps id e)) ∧ Below w.heap.size w w' := by
 have hpl : Hid (ps.length = n) := hp.len
 have hb1 : (e.kd == 1) = false := by simp [hk]
 have hb2 : (e.kd == 2) = true := by simp [hk]
 have hk' : Hid (e.kd = 2) := hk
 clear hk
 go_enter Tryz.func76, Tryz.ntmps76
 go_upto_region 5 with fail
 obtain ⟨w0, hw0⟩ : ∃ w0, w0 = (w.alloc (QJ t x n c)).alloc (RY e) := ⟨_, rfl⟩
 rw [← hw0]
 have hB0 : Below w.heap.size w w0 := by rw [hw0]; exact cB w _ _
 have hb0 : w0.heap[w.heap.size]? = some (QJ t x n c) := by rw [hw0]; exact aF _ (aC _ rfl)
 have hq0 : w0.heap[w.heap.size + 1]? = some (RY e) := by rw [hw0]; exact aC _ (by simp)
 clear hw0
 obtain ⟨kb, -⟩ := aA hb0
 obtain ⟨kq, -⟩ := aA hq0
 go_upto_region 6 with (go_at_call 82; refine (pplace_any t e.ow x n c ps _ (hp.later hB0) hn).mono ?_; rintro r w1 ⟨rfl, hb1'⟩)
 have hbb1 := aB hb1' hb0
 have hbq1 := aB hb1' hq0
 have hB1 := hB0.trans (hb1'.mono hB0.size)
 clear hb1' kb kq hb0 hq0 hB0
 obtain ⟨kb, -⟩ := aA hbb1
 obtain ⟨kq, -⟩ := aA hbq1
 have g0 := Ws.here (v := .slice x n c) (kb 1)
 have g1 := Ws.here (v := .int .i64 e.a) (kq 0)
 have g2 := Ws.here (v := .int .i64 e.l) (kq 1)
 have g3 := Ws.here (v := .int .i64 e.un) (kq 4)
 cases hneg : decide (aN ps e.ow < 0)
 ·obtain ⟨i, hi, hai, -⟩ := aR (ps := ps) (id := e.ow) (by simpa using hneg)
  have hai' : Hid (aN ps e.ow = i) := hai
  rw [hpl.out] at hi
  have hpw := hp.later hB1
  obtain ⟨b, o, rfl, c0, c1, c2, c3, -⟩ := hpw.cells i hi
  rw [hai]
  have hge : decide ((i : Int) ≥ 0) = true := by simp
  clear hai hneg
  have e1 := Ws.here c1
  have e2 := Ws.here c2
  have e3 := Ws.here c3
  cases hup : ((poAt ps i).up == id)
  ·refine aI w1.heap.size (by kernel_rfl) (by kernel_rfl) ?_
   repeat (go_big_quiet_step (fail))
   refine wpQuiet_nil ?_
   rintro _ ⟨u, rfl⟩
   have hu2 := hB1.trans (u.property.mono hB1.size)
   generalize u.val = wu at hu2 ⊢
   clear u g0 g1 g2 g3 e1 e2 e3
   go_wp2
   go_ret
   exact ⟨aH (by rw [UZ hk'.out hai'.out]; unfold SM; rw [hup]; rfl), hu2⟩
  ·cases heq : (decide ((poAt ps i).a = e.a) && decide ((poAt ps i).l = e.l))
   all_goals refine aI w1.heap.size (by kernel_rfl) (by kernel_rfl) ?_
   all_goals repeat (go_big_quiet_step (fail))
   all_goals refine GH _ _ _ (poAt ps i).a (poAt ps i).l e.a e.l rfl (by rfl) rfl rfl ?_
   all_goals rw [heq]
   all_goals simp only [Act.put, List.setIfInBounds_toArray, List.set_cons_zero, List.set_cons_succ]
   all_goals repeat (go_big_quiet_step (fail))
   all_goals refine wpQuiet_nil ?_
   all_goals rintro _ ⟨u, rfl⟩
   all_goals have hu2 := hB1.trans (u.property.mono hB1.size)
   all_goals generalize u.val = wu at hu2 ⊢
   all_goals clear u g0 g1 g2 g3 e1 e2 e3
   all_goals go_wp2
   all_goals go_ret
   all_goals exact ⟨aH (by rw [UZ hk'.out hai'.out]; unfold SM; rw [hup, heq]; rfl), hu2⟩
 ·have hai' : Hid (aN ps e.ow < 0) := by unfold Hid; simpa using hneg
  have hge : decide (aN ps e.ow ≥ 0) = false := by simp at hneg ⊢; omega
  clear hneg
  refine aI w1.heap.size (by kernel_rfl) (by kernel_rfl) ?_
  repeat (go_big_quiet_step (fail))
  refine wpQuiet_nil ?_
  rintro _ ⟨u, rfl⟩
  have hu2 := hB1.trans (u.property.mono hB1.size)
  generalize u.val = wu at hu2 ⊢
  clear u g0 g1 g2 g3
  go_wp2
  go_ret
  exact ⟨aH (by rw [UY hk'.out hai'.out]), hu2⟩
theorem xJ (t id : Int) (x : Option Addr) (n c : Nat) (ps : List Po) (e : Le) (w : World) (hp : qA w x n ps) (hn : n ≤ 64) (t0 : 0 ≤ t) (t1 : t ≤ 1073741824) :
  Calls Tryz.prog 76 #[.agg #[.int .i64 t, .slice x n c], .int .i64 id, UQ e] w fun r w' => r = .returned (.bool (rB t ps id e)) ∧ Below w.heap.size w w' := by
 by_cases h1 : e.kd = 1
 ·exact B0 t id x n c ps e w h1
 ·by_cases h2 : e.kd = 2
  ·exact B3 t id x n c ps e w hp hn h2
  ·by_cases h3 : e.kd = 3
   ·exact B1 t id x n c ps e w h3 t0 t1
   ·exact B2 t id x n c ps e w h1 h2 h3
def zV (t : Int) (ps : List Po) (p : Po) : Bool := (List.range p.n).all fun i => rB t ps p.id (aM p.ls i)
def kT (t : Int) (ps : List Po) (n : Nat) (p : Po) : Bool := (kN p.a p.l p.n (lp p.ls) == 0) && (dJ p.mn p.mx p.us p.co p.l && (lH ps n p && zV t ps p))
theorem SN {t : Int} (hk : k < p.n) (h : rB t ps p.id (aM p.ls k) = false) : zV t ps p = false := by
 unfold zV
 rw [List.all_eq_false]
 exact ⟨k, by simpa using hk, by simp [h]⟩
theorem QK {t : Int} (h : ∀ j, j < p.n → rB t ps p.id (aM p.ls j) = true) : zV t ps p = true := by
 unfold zV
 rw [List.all_eq_true]
 intro j hj
 exact h j (by simpa using hj)
theorem rY (mn mx us co a l : Int) (t : Bool) (h : dJ mn mx us co l = t) (w : World) :
  Calls Tryz.prog 74 #[.agg #[.int .i64 mn, .int .i64 mx, .int .i64 us, .int .i64 co], .agg #[.int .i64 a, .int .i64 l]] w fun e w' => e = .returned (.bool t) ∧ Below w.heap.size w w' := by
 subst h
 exact qB mn mx us co a l w
theorem xK (t : Int) (x : Option Addr) (n c : Nat) (ps : List Po) (p : Po) (r : Bool) (h : lH ps n p = r) (w : World) (hp : qA w x n ps) (hn : n ≤ 64) :
  Calls Tryz.prog 75 #[.agg #[.int .i64 t, .slice x n c], UX p] w fun e w' => e = .returned (.bool r) ∧ Below w.heap.size w w' := by
 subst h
 exact DW t x n c ps p w hp hn
theorem qE (t id : Int) (x : Option Addr) (n c : Nat) (ps : List Po) (e : Le) (r : Bool) (h : rB t ps id e = r) (w : World) (hp : qA w x n ps) (hn : n ≤ 64) (t0 : 0 ≤ t) (t1 : t ≤ 1073741824) :
  Calls Tryz.prog 76 #[.agg #[.int .i64 t, .slice x n c], .int .i64 id, UQ e] w fun r' w' => r' = .returned (.bool r) ∧ Below w.heap.size w w' := by
 subst h
 exact xJ t id x n c ps e w hp hn t0 t1
theorem qF (a l : Int) (n : Nat) (ls : List Le) (v : Int) (hv : kN a l n (lp ls) = v) (x : Option Addr) (c : Nat) (w : World) (h : PS w x n (lp ls)) :
  Calls Tryz.prog 72 #[.agg #[.int .i64 a, .int .i64 l, .slice x n c]] w fun e w' => e = .returned (.int .i64 v) ∧ Below w.heap.size w w' := by
 subst hv
 exact xD a l x n c (lp ls) w (fun _ => h)
theorem zW (t : Int) (x : Option Addr) (n c : Nat) (ps : List Po) (p : Po) (w : World) (hp : qA w x n ps) (hn : n ≤ 64) (hl : LS w p.x p.n p.ls) (hpn : p.n ≤ 1048576) (t0 : 0 ≤ t) (t1 : t ≤ 1073741824) :
  Calls Tryz.prog 38 #[.agg #[.int .i64 t, .slice x n c], UX p] w fun e w' => e = .returned (.bool (kT t ps n p)) ∧ Below w.heap.size w w' := by
 unfold kT
 go_enter Tryz.func38, Tryz.ntmps38
 go_upto_region 1 with fail
 obtain ⟨w0, hw0⟩ : ∃ w0, w0 = (w.alloc (QJ t x n c)).alloc (GG p) := ⟨_, rfl⟩
 rw [← hw0]
 have hB0 : Below w.heap.size w w0 := by rw [hw0]; exact cB w _ _
 have hb0 : w0.heap[w.heap.size]? = some (QJ t x n c) := by rw [hw0]; exact aF _ (aC _ rfl)
 have hq0 : w0.heap[w.heap.size + 1]? = some (GG p) := by rw [hw0]; exact aC _ (by simp)
 clear hw0
 obtain ⟨kq, -⟩ := aA hq0
 cases hch : (kN p.a p.l p.n (lp p.ls) == 0)
 ·have hch' : (kN p.a p.l p.n (lp p.ls) != 0) = true := by simpa using hch
  generalize hv : kN p.a p.l p.n (lp p.ls) = v at hch hch'
  go_wp2_with fail
  refine (nX p _ (hl.later hB0) hpn).mono ?_
  rintro e w1 ⟨x1, c1, rfl, hb1, hp1⟩
  have hB1 := hB0.trans (hb1.mono hB0.size)
  obtain ⟨kq1, -⟩ := aA (aB hb1 hq0)
  go_wp2_with fail
  refine (qF p.a p.l p.n p.ls v hv x1 c1 _ hp1).mono ?_
  rintro e w2 ⟨rfl, hb2⟩
  have hB2 := hB1.trans (hb2.mono hB1.size)
  go_wp2
  go_ret
  exact ⟨aH (by rw [hv, hch]; rfl), hB2⟩
 ·have hch0 : kN p.a p.l p.n (lp p.ls) = 0 := by simpa using hch
  have hn32 : p.n ≤ 32 := (iC hch0).1
  go_wp2_with fail
  refine (nX p _ (hl.later hB0) hpn).mono ?_
  rintro e w1 ⟨x1, c1, rfl, hb1, hp1⟩
  have hB1 := hB0.trans (hb1.mono hB0.size)
  have hb1b := aB hb1 hb0
  have hb1q := aB hb1 hq0
  clear hb1 hb0 hq0 hB0 kq
  go_wp2_with fail
  refine (qF p.a p.l p.n p.ls 0 hch0 x1 c1 _ hp1).mono ?_
  rintro e w2 ⟨rfl, hb2⟩
  have hB2 := hB1.trans (hb2.mono hB1.size)
  have hb2b := aB hb2 hb1b
  have hb2q := aB hb2 hb1q
  clear hb2 hb1b hb1q hB1 hp1 hch
  obtain ⟨kq, -⟩ := aA hb2q
  cases hru : dJ p.mn p.mx p.us p.co p.l
  ·go_wp2_with fail
   refine (rY _ _ _ _ _ _ _ hru _).mono ?_
   rintro e w3 ⟨rfl, hb3⟩
   go_wp2
   go_ret
   exact ⟨aH (by rw [hch0, hru]; rfl), hB2.trans (hb3.mono hB2.size)⟩
  ·go_wp2_with fail
   refine (rY _ _ _ _ _ _ _ hru _).mono ?_
   rintro e w3 ⟨rfl, hb3⟩
   have hB3 := hB2.trans (hb3.mono hB2.size)
   have hb3b := aB hb3 hb2b
   have hb3q := aB hb3 hb2q
   clear hb3 hb2b hb2q hB2 kq
   obtain ⟨kq, -⟩ := aA hb3q
   obtain ⟨kb, -⟩ := aA hb3b
   cases hup : lH ps n p
   ·go_wp2_with fail
    refine (xK t x n c ps p _ hup _ (hp.later hB3) hn).mono ?_
    rintro e w4 ⟨rfl, hb4⟩
    go_wp2
    go_ret
    exact ⟨aH (by rw [hch0, hru, hup]; rfl), hB3.trans (hb4.mono hB3.size)⟩
   ·go_wp2_with fail
    refine (xK t x n c ps p _ hup _ (hp.later hB3) hn).mono ?_
    rintro e w4 ⟨rfl, hb4⟩
    have hB4 := hB3.trans (hb4.mono hB3.size)
    have hb4b := aB hb4 hb3b
    have hb4q := aB hb4 hb3q
    clear hb4 hb3b hb3q hB3 kq kb
    obtain ⟨kq, -⟩ := aA hb4q
    go_wp2
    clear kq
    go_loopw [28] (fun i wr => ∃ k : Nat, k ≤ p.n ∧ i = .int .i64 k ∧ (∀ j, j < k → rB t ps p.id (aM p.ls j) = true) ∧ wr.heap[w.heap.size]? = some (QJ t x n c) ∧ wr.heap[w.heap.size + 1]? = some (GG p) ∧ Below w.heap.size w wr) (fun i _ => p.n - (intOf i).toNat)
    case atStart => exact ⟨0, by omega, rfl, fun j hj => by omega, hb4b, hb4q, hB4⟩
    case round =>
     obtain ⟨k, hk, rfl, hok, hbb, hbq, hB⟩ := hrel
     clear hb4b hb4q hB4
     by_cases hlt : k < p.n
     ·obtain ⟨b, o, hx, c0, c1, c2, c3, c4⟩ := (hl.later hB).cells k hlt
      have hlt' := hlt
      have hbb' := aF (RY (aM p.ls k)) hbb
      have hbq' := aF (RY (aM p.ls k)) hbq
      have hB' := hB.alloc hB.size (RY (aM p.ls k))
      obtain ⟨kb, -⟩ := aA hbb'
      obtain ⟨kq, -⟩ := aA hbq'
      rw [hx]
      cases hle : rB t ps p.id (aM p.ls k)
      ·go_wp2_with fail
       refine (qE t p.id x n c ps (aM p.ls k) _ hle _ (hp.later hB') hn t0 t1).mono ?_
       rintro e w5 ⟨rfl, hb5⟩
       go_wp2
       go_ret
       exact ⟨aH (by rw [hch0, hru, hup, SN hlt' hle]; rfl), hB'.trans (hb5.mono hB'.size)⟩
      ·go_wp2_with fail
       refine (qE t p.id x n c ps (aM p.ls k) _ hle _ (hp.later hB') hn t0 t1).mono ?_
       rintro e w5 ⟨rfl, hb5⟩
       have hbb5 := aB hb5 hbb'
       have hbq5 := aB hb5 hbq'
       clear kb kq
       go_wp2
       go_roundw
       case rel => exact ⟨k + 1, hlt', by go_num, fun j hj => by
        by_cases hj2 : j < k
        ·exact hok j hj2
        ·obtain rfl : j = k := by omega
         exact hle, hbb5, hbq5, hB'.trans (hb5.mono hB'.size)⟩
       case measure => simp [intOf]; omega
     ·obtain rfl : k = p.n := by omega
      go_wp2
      go_ret
      exact ⟨aH (by rw [hch0, hru, hup, QK hok]; rfl), hB⟩
def nY (t : Int) (ps : List Po) : Bool := (List.range ps.length).all fun i => kT t ps ps.length (poAt ps i)
def aS (t : Int) (ps : List Po) : Int := if 8 < ps.length then 2 else if (dH t 0 1073741824 && (lO ps.length ps && (gH ps && nY t ps))) = true then 0 else 1
theorem MZ {t : Int} (hk : k < ps.length) (h : kT t ps ps.length (poAt ps k) = false) : nY t ps = false := by
 unfold nY
 rw [List.all_eq_false]
 exact ⟨k, by simpa using hk, by simp [h]⟩
theorem tU {t : Int} (h : ∀ j, j < ps.length → kT t ps ps.length (poAt ps j) = true) : nY t ps = true := by
 unfold nY
 rw [List.all_eq_true]
 intro j hj
 exact h j (by simpa using hj)
theorem M0 {t : Int} (h : 8 < ps.length) : aS t ps = 2 := by unfold aS; rw [if_pos h]
theorem xL {t : Int} (h : ps.length ≤ 8) (h2 : (dH t 0 1073741824 && (lO ps.length ps && (gH ps && nY t ps))) = false) : aS t ps = 1 := by unfold aS; rw [if_neg (by omega), h2]; rfl
theorem B4 {t : Int} (h : ps.length ≤ 8) (h2 : (dH t 0 1073741824 && (lO ps.length ps && (gH ps && nY t ps))) = true) : aS t ps = 0 := by unfold aS; rw [if_neg (by omega), if_pos h2]
theorem xM (x : Option Addr) (n c : Nat) (ps : List Po) (r : Bool) (h : lO n ps = r) (w : World) (hp : qA w x n ps) (hn : n ≤ 64) :
  Calls Tryz.prog 36 #[.slice x n c] w fun e w' => e = .returned (.bool r) ∧ Below w.heap.size w w' := by
 subst h
 exact DU x n c ps w hp hn
theorem rZ (x : Option Addr) (n c : Nat) (ps : List Po) (r : Bool) (h : gH ps = r) (w : World) (hp : qA w x n ps) (hn : n ≤ 64) (hnc : n ≤ c) (hc63 : c ≤ 9223372036854775807) :
  Calls Tryz.prog 37 #[.slice x n c] w fun e w' => e = .returned (.bool r) ∧ Below w.heap.size w w' := by
 subst h
 exact zU x n c ps w hp hn hnc hc63
theorem sA (t : Int) (x : Option Addr) (n c : Nat) (ps : List Po) (p : Po) (r : Bool) (h : kT t ps n p = r) (w : World) (hp : qA w x n ps) (hn : n ≤ 64) (hl : LS w p.x p.n p.ls) (hpn : p.n ≤ 1048576) (t0 : 0 ≤ t) (t1 : t ≤ 1073741824) :
  Calls Tryz.prog 38 #[.agg #[.int .i64 t, .slice x n c], UX p] w fun e w' => e = .returned (.bool r) ∧ Below w.heap.size w w' := by
 subst h
 exact zW t x n c ps p w hp hn hl hpn t0 t1
theorem M1 {v b : Int} (h : v < a ∨ b < v) : dH v a b = false := by
 unfold dH
 rcases h with h | h
 ·rw [decide_eq_false (by omega), Bool.false_and]
 ·rw [decide_eq_false (p := v ≤ b) (by omega), Bool.and_false]
theorem QL {v b : Int} (h : a ≤ v) (h2 : v ≤ b) : dH v a b = true := by
 unfold dH
 rw [decide_eq_true h, decide_eq_true h2]
 rfl
structure Bk (w : World) (x : Option Addr) (n c : Nat) (ps : List Po) : Prop where
 ps : qA w x n ps
 nc : n ≤ c
 cm : c ≤ 9223372036854775807
theorem Bk.later (h : Bk w x n c ps) (hb : Below w.heap.size w w') : Bk w' x n c ps := ⟨h.ps.later hb, h.nc, h.cm⟩
theorem fC (t : Int) (x : Option Addr) (n c : Nat) (ps : List Po) (w : World) (hk : Bk w x n c ps) :
  Calls Tryz.prog 24 #[.agg #[.int .i64 t, .slice x n c]] w fun e w' => e = .returned (.int .i64 (aS t ps)) ∧ Below w.heap.size w w' := by
 obtain ⟨hp, hnc, hcm⟩ := hk
 have hpl : Hid (ps.length = n) := hp.len
 by_cases hn8 : 8 < n
 ·rw [M0 (by rw [hpl.out]; exact hn8)]
  go_enter Tryz.func24, Tryz.ntmps24
  go_wp2
  go_ret
  exact ⟨rfl, bl1 w _⟩
 ·have hle : Hid (ps.length ≤ 8) := by unfold Hid; rw [hpl.out]; omega
  by_cases ht0 : t < 0
  ·rw [xL hle.out (by rw [M1 (.inl ht0)]; rfl)]
   go_enter Tryz.func24, Tryz.ntmps24
   go_wp2
   go_ret
   exact ⟨rfl, bl1 w _⟩
  ·by_cases ht1 : 1073741824 < t
   ·rw [xL hle.out (by rw [M1 (.inr ht1)]; rfl)]
    go_enter Tryz.func24, Tryz.ntmps24
    go_wp2
    go_ret
    exact ⟨rfl, bl1 w _⟩
   ·have hwt : Hid (dH t 0 1073741824 = true) := QL (by omega) (by omega)
    go_enter Tryz.func24, Tryz.ntmps24
    go_upto_region 3 with fail
    obtain ⟨w0, hw0⟩ : ∃ w0, w0 = w.alloc (QJ t x n c) := ⟨_, rfl⟩
    rw [← hw0]
    have hB0 : Below w.heap.size w w0 := by rw [hw0]; exact bl1 w _
    have hb0 : w0.heap[w.heap.size]? = some (QJ t x n c) := by rw [hw0]; exact aC _ rfl
    clear hw0
    obtain ⟨kb, -⟩ := aA hb0
    cases hid : lO n ps
    ·go_wp2_with fail
     refine (xM x n c ps _ hid _ (hp.later hB0) (by omega)).mono ?_
     rintro e w1 ⟨rfl, hb1⟩
     go_wp2
     go_ret
     exact ⟨cN (xL hle.out (by rw [hwt.out, hpl.out, hid]; rfl)).symm, hB0.trans (hb1.mono hB0.size)⟩
    ·go_wp2_with fail
     refine (xM x n c ps _ hid _ (hp.later hB0) (by omega)).mono ?_
     rintro e w1 ⟨rfl, hb1⟩
     have hB1 := hB0.trans (hb1.mono hB0.size)
     have hb1b := aB hb1 hb0
     clear hb1 hb0 hB0 kb
     obtain ⟨kb, -⟩ := aA hb1b
     cases hto : gH ps
     ·go_wp2_with fail
      refine (rZ x n c ps _ hto _ (hp.later hB1) (by omega) hnc hcm).mono ?_
      rintro e w2 ⟨rfl, hb2⟩
      go_wp2
      go_ret
      exact ⟨cN (xL hle.out (by rw [hwt.out, hpl.out, hid, hto]; rfl)).symm, hB1.trans (hb2.mono hB1.size)⟩
     ·go_wp2_with fail
      refine (rZ x n c ps _ hto _ (hp.later hB1) (by omega) hnc hcm).mono ?_
      rintro e w2 ⟨rfl, hb2⟩
      have hB2 := hB1.trans (hb2.mono hB1.size)
      have hb2b := aB hb2 hb1b
      clear hb2 hb1b hB1 kb
      obtain ⟨kb, -⟩ := aA hb2b
      go_wp2
      clear kb
      go_loopw [34] (fun i wr => ∃ k : Nat, k ≤ n ∧ i = .int .i64 k ∧ (∀ j, j < k → kT t ps n (poAt ps j) = true) ∧ wr.heap[w.heap.size]? = some (QJ t x n c) ∧ Below w.heap.size w wr) (fun i _ => n - (intOf i).toNat)
      case atStart => exact ⟨0, by omega, rfl, fun j hj => by omega, hb2b, hB2⟩
      case round =>
       obtain ⟨k, hk, rfl, hok, hbb, hB⟩ := hrel
       clear hb2b hB2
       by_cases hlt : k < n
       ·have hpw := hp.later hB
        obtain ⟨b, o, rfl, c0, c1, c2, c3, c4, c5, c6, c7, c8⟩ := hpw.cells k hlt
        obtain ⟨hl1, hl2, hl3⟩ := hpw.leases k hlt
        have hlt' := hlt
        have hbb' := aF (GG (poAt ps k)) hbb
        have hB' := hB.alloc hB.size (GG (poAt ps k))
        have hl' := hl3.later (bl1 wr (GG (poAt ps k)))
        have hp' := hpw.later (bl1 wr (GG (poAt ps k)))
        obtain ⟨kb, -⟩ := aA hbb'
        cases hpo : kT t ps n (poAt ps k)
        ·go_wp2_with fail
         refine (sA t _ n c ps (poAt ps k) _ hpo _ hp' (by omega) hl' hl2 (by omega) (by omega)).mono ?_
         rintro e w5 ⟨rfl, hb5⟩
         go_wp2
         go_ret
         exact ⟨cN (xL hle.out (by rw [hwt.out, hpl.out, hid, hto, MZ (k := k) (by rw [hpl.out]; exact hlt') (by rw [hpl.out]; exact hpo)]; rfl)).symm, hB'.trans (hb5.mono hB'.size)⟩
        ·go_wp2_with fail
         refine (sA t _ n c ps (poAt ps k) _ hpo _ hp' (by omega) hl' hl2 (by omega) (by omega)).mono ?_
         rintro e w5 ⟨rfl, hb5⟩
         have hbb5 := aB hb5 hbb'
         clear kb
         go_wp2
         go_roundw
         case rel => exact ⟨k + 1, hlt', by go_num, fun j hj => by
          by_cases hj2 : j < k
          ·exact hok j hj2
          ·obtain rfl : j = k := by omega
           exact hpo, hbb5, hB'.trans (hb5.mono hB'.size)⟩
         case measure => simp [intOf]; omega
       ·obtain rfl : k = n := by omega
        go_wp2
        go_ret
        exact ⟨cN (B4 hle.out (by rw [hwt.out, hpl.out, hid, hto, tU (by rw [hpl.out]; exact hok)]; rfl)).symm, hB⟩
def cL (e : Le) : List Value := [.int .i64 e.a, .int .i64 e.l, .int .i64 e.kd, .int .i64 e.ow, .int .i64 e.un]
def flatL (es : List Le) : List Value := es.flatMap cL
theorem GI (e : Le) : (cL e).length = 5 := rfl
theorem gQ : ∀ es : List Le, (flatL es).length = es.length * 5 := mH GI
theorem tV (es fs : List Le) : flatL (es ++ fs) = flatL es ++ flatL fs := by simp [flatL]
theorem xN : ∀ (es : List Le) (i j : Nat), i < es.length → j < 5 → (flatL es)[i * 5 + j]? = (cL (aM es i))[j]? := rT GI VM
theorem pG (es : List Le) : ∀ u ∈ flatL es, u.oneCell' = true := fun u hu => by
 obtain ⟨e, -, hu⟩ := List.mem_flatMap.1 hu
 simp only [cL, List.mem_cons, List.not_mem_nil, or_false] at hu
 rcases hu with rfl | rfl | rfl | rfl | rfl <;> rfl
def cJ (w : World) (base : Nat) (v : Value) (es : List Le) : Prop := w.ownsRow base 138 5 v es.length (flatL es)
theorem cJ.later {base : Nat} (h : cJ w base v es) (hb : Below w.heap.size w w') : cJ w' base v es := jH h hb
theorem cJ.kept {base : Nat} (h : cJ w base v es) (hg : w.grownBy w' (some g)) (hne : ∀ k, v.ownBlock = some k → k ≠ g) : cJ w' base v es := iK h hg hne
theorem cJ.low {base : Nat} (h : cJ w base v es) (hb : base' ≤ base) : cJ w base' v es := jI h hb
theorem cJ.lt {base : Nat} (h : cJ w base v es) : ∀ k, v.ownBlock = some k → base ≤ k ∧ k < w.heap.size := World.ownsRow.lt h
theorem cJ.ne {base : Nat} (h : cJ w base v es) (hb : w.heap[b]? = some (.cells cs t fr)) (ht : t ≠ 138) : v.ownBlock ≠ some b := nU h hb ht
theorem QM : Ty 138 57 5 (.agg #[.int .i64 0, .int .i64 0, .int .i64 0, .int .i64 0, .int .i64 0]) 40 := uY (by kernel_rfl) (by kernel_rfl) rfl (pG [VM]) (by decide) (by decide)
theorem LS.flat_cells (h : LS w (some ad) n es) : ∀ j u, (flatL es)[j]? = some u → w.cell? (ad.add j) = some u :=
 jU (by decide) GI VM h.len fun i hi => by
  obtain ⟨b, o, hx, d0, d1, d2, d3, d4⟩ := h.cells i hi
  exact ⟨b, o, hx, by rintro (_ | _ | _ | _ | _ | q) u hu <;> first | (cases hu; assumption) | simp [cL] at hu⟩
theorem LS.rw (h : LS w x n es) : Rw w x n 5 (flatL es) :=
 ⟨by rw [gQ, h.len], fun h0 e => (by obtain ⟨b, o, hx, -⟩ := h.cells 0 h0; rw [e] at hx; cases hx), pG es, fun ad hx => by subst hx; exact h.flat_cells⟩
theorem cJ.mem {base : Nat} (h : cJ w base v es) : ∃ x c, v = .slice x es.length c ∧ es.length ≤ c ∧ c ≤ 9223372036854775807 ∧ (x = none → es.length = 0 ∧ c = 0) ∧ ∀ i, i < es.length → ∃ b o, x = some ⟨b, o, none⟩ ∧ w.cell? ⟨b, o + i * 5, none⟩ = some (.int .i64 (aM es i).a) ∧ w.cell? ⟨b, o + i * 5 + 1, none⟩ = some (.int .i64 (aM es i).l) ∧ w.cell? ⟨b, o + i * 5 + 2, none⟩ = some (.int .i64 (aM es i).kd) ∧ w.cell? ⟨b, o + i * 5 + 3, none⟩ = some (.int .i64 (aM es i).ow) ∧ w.cell? ⟨b, o + i * 5 + 4, none⟩ = some (.int .i64 (aM es i).un) := by
 obtain ⟨x, c, hv, h1, h2, h3, h4⟩ := mI h
 refine ⟨x, c, hv, h1, h2, h3, fun i hi => ?_⟩
 obtain ⟨b, o, hx, e⟩ := h4 i hi
 have e := fun j u hj hu => e j u hj ((xN es i j hi hj).trans hu)
 exact ⟨b, o, hx, e 0 _ (by decide) rfl, e 1 _ (by decide) rfl, e 2 _ (by decide) rfl, e 3 _ (by decide) rfl, e 4 _ (by decide) rfl⟩
def cP (e : Po) : List Value := [.int .i64 e.id, .int .i64 e.up, .int .i64 e.a, .int .i64 e.l, .int .i64 e.mn, .int .i64 e.mx, .int .i64 e.us, .int .i64 e.co, .slice e.x e.n e.c]
def flatP (es : List Po) : List Value := es.flatMap cP
theorem GJ (e : Po) : (cP e).length = 9 := rfl
theorem eF : ∀ es : List Po, (flatP es).length = es.length * 9 := mH GJ
theorem AS (es fs : List Po) : flatP (es ++ fs) = flatP es ++ flatP fs := by simp [flatP]
theorem lP : ∀ (es : List Po) (i j : Nat), i < es.length → j < 9 → (flatP es)[i * 9 + j]? = (cP (poAt es i))[j]? := rT GJ VN
theorem pH (es : List Po) : ∀ u ∈ flatP es, u.oneCell' = true := fun u hu => by
 obtain ⟨e, -, hu⟩ := List.mem_flatMap.1 hu
 simp only [cP, List.mem_cons, List.not_mem_nil, or_false] at hu
 rcases hu with rfl | rfl | rfl | rfl | rfl | rfl | rfl | rfl | rfl <;> rfl
def dL (w : World) (base : Nat) (v : Value) (es : List Po) : Prop := w.ownsRow base 59 9 v es.length (flatP es)
theorem dL.later {base : Nat} {es : List Po} (h : dL w base v es) (hb : Below w.heap.size w w') : dL w' base v es := jH h hb
theorem dL.kept {base : Nat} {es : List Po} (h : dL w base v es) (hg : w.grownBy w' (some g)) (hne : ∀ k, v.ownBlock = some k → k ≠ g) : dL w' base v es := iK h hg hne
theorem dL.low {base : Nat} {es : List Po} (h : dL w base v es) (hb : base' ≤ base) : dL w base' v es := jI h hb
theorem dL.lt {base : Nat} {es : List Po} (h : dL w base v es) : ∀ k, v.ownBlock = some k → base ≤ k ∧ k < w.heap.size := World.ownsRow.lt h
theorem dL.ne {base : Nat} {es : List Po} (h : dL w base v es) (hb : w.heap[b]? = some (.cells cs t fr)) (ht : t ≠ 59) : v.ownBlock ≠ some b := nU h hb ht
theorem SP : Ty 59 23 9 (.agg #[.int .i64 0, .int .i64 0, .int .i64 0, .int .i64 0, .int .i64 0, .int .i64 0, .int .i64 0, .int .i64 0, .slice none 0 0]) 88 := uY (by kernel_rfl) (by kernel_rfl) rfl (pH [VN]) (by decide) (by decide)
theorem qA.flat_cells {es : List Po} (h : qA w (some ad) n es) : ∀ j u, (flatP es)[j]? = some u → w.cell? (ad.add j) = some u :=
 jU (by decide) GJ VN h.len fun i hi => by
  obtain ⟨b, o, hx, d0, d1, d2, d3, d4, d5, d6, d7, d8⟩ := h.cells i hi
  exact ⟨b, o, hx, by rintro (_ | _ | _ | _ | _ | _ | _ | _ | _ | q) u hu <;> first | (cases hu; assumption) | simp [cP] at hu⟩
theorem qA.rw {es : List Po} (h : qA w x n es) : Rw w x n 9 (flatP es) :=
 ⟨by rw [eF, h.len], fun h0 e => (by obtain ⟨b, o, hx, -⟩ := h.cells 0 h0; rw [e] at hx; cases hx), pH es, fun ad hx => by subst hx; exact h.flat_cells⟩
theorem dL.mem {base : Nat} {es : List Po} (h : dL w base v es) : ∃ x c, v = .slice x es.length c ∧ es.length ≤ c ∧ c ≤ 9223372036854775807 ∧ (x = none → es.length = 0 ∧ c = 0) ∧ ∀ i, i < es.length → ∃ b o, x = some ⟨b, o, none⟩ ∧ w.cell? ⟨b, o + i * 9, none⟩ = some (.int .i64 (poAt es i).id) ∧ w.cell? ⟨b, o + i * 9 + 1, none⟩ = some (.int .i64 (poAt es i).up) ∧ w.cell? ⟨b, o + i * 9 + 2, none⟩ = some (.int .i64 (poAt es i).a) ∧ w.cell? ⟨b, o + i * 9 + 3, none⟩ = some (.int .i64 (poAt es i).l) ∧ w.cell? ⟨b, o + i * 9 + 4, none⟩ = some (.int .i64 (poAt es i).mn) ∧ w.cell? ⟨b, o + i * 9 + 5, none⟩ = some (.int .i64 (poAt es i).mx) ∧ w.cell? ⟨b, o + i * 9 + 6, none⟩ = some (.int .i64 (poAt es i).us) ∧ w.cell? ⟨b, o + i * 9 + 7, none⟩ = some (.int .i64 (poAt es i).co) ∧ w.cell? ⟨b, o + i * 9 + 8, none⟩ = some (.slice (poAt es i).x (poAt es i).n (poAt es i).c) := by
 obtain ⟨x, c, hv, h1, h2, h3, h4⟩ := mI h
 refine ⟨x, c, hv, h1, h2, h3, fun i hi => ?_⟩
 obtain ⟨b, o, hx, e⟩ := h4 i hi
 have e := fun j u hj hu => e j u hj ((lP es i j hi hj).trans hu)
 exact ⟨b, o, hx, e 0 _ (by decide) rfl, e 1 _ (by decide) rfl, e 2 _ (by decide) rfl, e 3 _ (by decide) rfl, e 4 _ (by decide) rfl, e 5 _ (by decide) rfl, e 6 _ (by decide) rfl, e 7 _ (by decide) rfl, e 8 _ (by decide) rfl⟩
theorem GK (x : Option Addr) (n c : Nat) (es : List Le) (w : World) (hl : LS w x n es) (hn : n ≤ 1048576) :
  Calls Tryz.prog 78 #[.slice x n c] w fun e w' => ∃ v, e = .returned v ∧ cJ w' w.heap.size v es ∧ Below w.heap.size w w' := by
 obtain rfl := hl.len
 exact nW.1 _ _ QM x _ c _ w hl.rw hn
theorem GL (x : Option Addr) (n c : Nat) (es : List Po) (w : World) (hl : qA w x n es) (hn : n ≤ 1048576) :
  Calls Tryz.prog 77 #[.slice x n c] w fun e w' => ∃ v, e = .returned v ∧ dL w' w.heap.size v es ∧ Below w.heap.size w w' := by
 obtain rfl := hl.len
 exact nW.2.1 _ _ SP x _ c _ w hl.rw hn
def aQ (p : Po) (x : Option Addr) (n c : Nat) (ls : List Le) : Po := ⟨p.id, p.up, p.a, p.l, p.mn, p.mx, p.us, p.co, x, n, c, ls⟩
theorem dD (hi : i < ps.length) : poAt (ps.set i p) j = if i = j then p else poAt ps j := by
 unfold poAt
 rw [List.getD_eq_getElem?_getD, List.getD_eq_getElem?_getD, List.getElem?_set]
 by_cases h : i = j
 ·subst h; rw [if_pos rfl, if_pos rfl, if_pos hi]; rfl
 ·rw [if_neg h, if_neg h]
theorem JU (ps : List Po) (i : Nat) (x : Option Addr) (n c : Nat) (ls : List Le) (hi : i < ps.length) : (flatP ps).set (i * 9 + 8) (.slice x n c) = flatP (ps.set i (aQ (poAt ps i) x n c ls)) := by
 refine List.ext_getElem? fun j => ?_
 by_cases hj : j < ps.length * 9
 ·have e : j = (j / 9) * 9 + j % 9 := by omega
  have hq : j / 9 < ps.length := by omega
  rw [e, lP _ _ _ (by rw [List.length_set]; exact hq) (by omega), dD hi, List.getElem?_set]
  by_cases h1 : i = j / 9
  ·rw [if_pos h1]
   by_cases h2 : j % 9 = 8
   ·rw [if_pos (by omega), if_pos (by rw [eF]; omega), h2]
    rfl
   ·rw [if_neg (by omega), lP _ _ _ hq (by omega), h1]
    have h3 : j % 9 < 8 := by omega
    generalize j % 9 = r at h3
    rcases r with _ | _ | _ | _ | _ | _ | _ | _ | r
    all_goals first | rfl | omega
  ·rw [if_neg h1, if_neg (by omega), lP _ _ _ hq (by omega)]
 ·rw [List.getElem?_eq_none (by rw [List.length_set, eF]; omega), List.getElem?_eq_none (by rw [eF, List.length_set]; omega)]
theorem dL.set {base : Nat} (h : dL w base (.slice (some ⟨g, 0, none⟩) n cap) ps) (i : Nat) (hi : i < ps.length) (x : Option Addr) (m c : Nat) (ls : List Le) :
  dL (w.setCell ⟨g, i * 9 + 8, none⟩ (.slice x m c)) base (.slice (some ⟨g, 0, none⟩) n cap) (ps.set i (aQ (poAt ps i) x m c ls)) := by
 rcases h.2 with ⟨hv, -⟩ | ⟨g', cap', cur, hv, h1, h2, h3, h4, h5, h6⟩
 ·simp at hv
 ·simp only [Value.slice.injEq, Option.some.injEq, Addr.mk.injEq] at hv
  obtain ⟨⟨rfl, -⟩, rfl, rfl⟩ := hv
  refine ⟨eF _, .inr ⟨g, cap, cur.setIfInBounds (i * 9 + 8) (.slice x m c), by rw [List.length_set], h1, heap_setCell_same w g _ _ _ _ h2, by rw [List.length_set]; exact h3, h4, by simpa using h5, ?_⟩⟩
  rw [List.length_set, Array.toList_setIfInBounds, List.take_set, h6, JU ps i x m c ls hi]
theorem aJ (w : World) (g o : Nat) (v : Value) : w.grownBy (w.setCell ⟨g, o, none⟩ v) (some g) := by
 refine ⟨rfl, rfl, rfl, by simp, fun k _ hne => heap_setCell_other _ _ _ _ (fun e => hne (by rw [e]))⟩
theorem dL.frozen {base : Nat} (h : dL w base (.slice (some ⟨g, 0, none⟩) n cap) ps) (i : Nat) : w.frozen? ⟨g, i, none⟩ = false := mJ h i
theorem cJ.ls {base : Nat} (h : cJ w base (.slice x n c) es) : LS w x n es ∧ es.length = n ∧ n ≤ c ∧ c ≤ 9223372036854775807 := by
 obtain ⟨x', c', hv, h1, h2, -, h4⟩ := h.mem
 simp only [Value.slice.injEq] at hv
 obtain ⟨rfl, rfl, rfl⟩ := hv
 exact ⟨⟨rfl, h4⟩, rfl, h1, h2⟩
structure dN (w : World) (base : Nat) (v : Value) (ps : List Po) (k : Nat) : Prop where
 row : dL w base v ps
 own : ∀ i, i < k → cJ w base (.slice (poAt ps i).x (poAt ps i).n (poAt ps i).c) (poAt ps i).ls
 rest : ∀ i, k ≤ i → i < ps.length → LS w (poAt ps i).x (poAt ps i).n (poAt ps i).ls ∧ (poAt ps i).n ≤ (poAt ps i).c ∧ (poAt ps i).n ≤ 1048576 ∧ (∀ q, (poAt ps i).x = some q → 0 < (poAt ps i).n → q.block < base)
 apart : ∀ i j, i < k → j < k → i ≠ j → ∀ b, (Value.slice (poAt ps i).x (poAt ps i).n (poAt ps i).c).ownBlock = some b → (Value.slice (poAt ps j).x (poAt ps j).n (poAt ps j).c).ownBlock ≠ some b
def sB (p q : Po) : Prop := p.id = q.id ∧ p.up = q.up ∧ p.a = q.a ∧ p.l = q.l ∧ p.mn = q.mn ∧ p.mx = q.mx ∧ p.us = q.us ∧ p.co = q.co ∧ p.n = q.n ∧ p.ls = q.ls
def cT (ps qs : List Po) : Prop := ps.length = qs.length ∧ ∀ i, i < ps.length → sB (poAt ps i) (poAt qs i)
theorem sB.refl (p : Po) : sB p p := ⟨rfl, rfl, rfl, rfl, rfl, rfl, rfl, rfl, rfl, rfl⟩
theorem cT.refl (ps : List Po) : cT ps ps := ⟨rfl, fun _ _ => sB.refl _⟩
theorem dN.bk {base : Nat} (h : dN w base v ps ps.length) (hs : ∀ i, i < ps.length → (poAt ps i).n ≤ 1048576) : ∃ x c, v = .slice x ps.length c ∧ Bk w x ps.length c ps := by
 obtain ⟨x, c, hv, h1, h2, h3, h4⟩ := h.row.mem
 exact ⟨x, c, hv, ⟨rfl, h4, fun i hi => by
  obtain ⟨g1, g2, g3, -⟩ := (h.own i hi).ls
  exact ⟨g3, hs i hi, g1⟩⟩, h1, h2⟩
theorem dN.later {base : Nat} (h : dN w base v ps k) (hb : Below w.heap.size w w') : dN w' base v ps k :=
 ⟨h.row.later hb, fun i hi => (h.own i hi).later hb, fun i hi hi2 => by
  obtain ⟨g1, g2⟩ := h.rest i hi hi2
  exact ⟨g1.later hb, g2⟩, h.apart⟩
abbrev gE (t : Int) (v : Value) : Obj := .cells #[.int .i64 t, v] 25
theorem QN {t : Int} (h : V.heap[b]? = some (gE t v)) : ((V.setCell ⟨b, 0, none⟩ (.int .i64 t')).setCell ⟨b, 1, none⟩ v').heap[b]? = some (gE t' v') := by
 have h1 := heap_setCell_same V b 0 _ 25 (.int .i64 t') h
 have h2 := heap_setCell_same _ b 1 _ 25 v' h1
 simpa using h2
def JV (t : Int) (ps : List Po) (w : World) (e : Ending) (w' : World) : Prop :=
 ∃ v qs, e = .returned (.agg #[.int .i64 t, v]) ∧ cT ps qs ∧ dN w' w.heap.size v qs qs.length ∧ Below w.heap.size w w'
theorem dN.start {base x n c v ps} (hk : Bk w x n c ps) (hb : Below w.heap.size w w') (h : dL w' base v ps) (hw2 : w.heap.size ≤ base) : dN w' base v ps 0 where
 row := h
 own := fun i hi => by omega
 rest := fun i _ hi => by
  obtain ⟨g1, g2, g3⟩ := hk.ps.leases i (by rw [← hk.ps.len]; exact hi)
  refine ⟨g3.later hb, g1, g2, fun q hq h0 => ?_⟩
  obtain ⟨b, o, hx, c0, -⟩ := g3.cells 0 h0
  rw [hq] at hx
  cases hx
  exact Nat.lt_of_lt_of_le (block_lt_of_cell c0) hw2
 apart := fun i j hi => by omega
theorem LS.set {o : Nat} {ls : List Le} (h : LS w x n ls) (hx : ∀ q, x = some q → 0 < n → q.block ≠ g) : LS (w.setCell ⟨g, o, none⟩ v) x n ls where
 len := h.len
 cells := fun i hi => by
  obtain ⟨b, of, he, c0, c1, c2, c3, c4⟩ := h.cells i hi
  have hne : b ≠ g := hx _ he (by omega)
  exact ⟨b, of, he, (aX hne).trans c0, (aX hne).trans c1, (aX hne).trans c2, (aX hne).trans c3, (aX hne).trans c4⟩
theorem dL.block {base : Nat} (h : dL w base (.slice (some ⟨g, 0, none⟩) n cap) ps) : base ≤ g ∧ ∃ cur, w.heap[g]? = some (.cells cur 59) := pB h
theorem dN.step {base : Nat} (h : dN W base (.slice (some ⟨g, 0, none⟩) n cap) qs k) (hk : k < qs.length) (hb : Below W.heap.size W W1) (ho : cJ W1 W.heap.size (.slice x' (poAt qs k).ls.length c') (poAt qs k).ls) (hwb : base ≤ W.heap.size) :
  dN (W1.setCell ⟨g, k * 9 + 8, none⟩ (.slice x' (poAt qs k).ls.length c')) base (.slice (some ⟨g, 0, none⟩) n cap) (qs.set k (aQ (poAt qs k) x' (poAt qs k).ls.length c' (poAt qs k).ls)) (k + 1) := by
 have hr := h.row.later hb
 obtain ⟨hbg, cur, hg⟩ := hr.block
 have hall : ∀ i, i < k + 1 → cJ W1 base (.slice (poAt (qs.set k (aQ (poAt qs k) x' (poAt qs k).ls.length c' (poAt qs k).ls)) i).x (poAt (qs.set k (aQ (poAt qs k) x' (poAt qs k).ls.length c' (poAt qs k).ls)) i).n (poAt (qs.set k (aQ (poAt qs k) x' (poAt qs k).ls.length c' (poAt qs k).ls)) i).c) (poAt (qs.set k (aQ (poAt qs k) x' (poAt qs k).ls.length c' (poAt qs k).ls)) i).ls := fun i hi => by
  rw [dD hk]
  by_cases e : k = i
  ·rw [if_pos e]; exact ho.low hwb
  ·rw [if_neg e]; exact (h.own i (by omega)).later hb
 refine ⟨hr.set k hk x' _ c' _, fun i hi => (hall i hi).kept (aJ _ _ _ _) (fun q hq e => by subst e; exact (hall i hi).ne hg (by decide) hq), fun i hi hi2 => ?_, fun i j hi hj hij b hbi hbj => ?_⟩
 ·rw [List.length_set] at hi2
  rw [dD hk, if_neg (by omega)]
  obtain ⟨g1, g2, g3, g4⟩ := h.rest i (by omega) hi2
  exact ⟨(g1.later hb).set (fun q hq h0 => by have := g4 q hq h0; omega), g2, g3, g4⟩
 ·rw [dD hk] at hbi hbj
  by_cases e : k = i
  ·rw [if_pos e] at hbi
   rw [if_neg (by omega)] at hbj
   have h1 := ho.lt b hbi
   have h2 := (h.own j (by omega)).lt b hbj
   omega
  ·rw [if_neg e] at hbi
   by_cases e2 : k = j
   ·rw [if_pos e2] at hbj
    have h1 := ho.lt b hbj
    have h2 := (h.own i (by omega)).lt b hbi
    omega
   ·rw [if_neg e2] at hbj
    exact h.apart i j (by omega) (by omega) hij b hbi hbj
theorem dN.low {base : Nat} (h : dN w base v ps ps.length) (hb : base' ≤ base) : dN w base' v ps ps.length :=
 ⟨h.row.low hb, fun i hi => (h.own i hi).low hb, fun i hi hi2 => by omega, h.apart⟩
theorem dN.put {base o : Nat} (h : dN w base v ps ps.length) (hb : b < base) : dN (w.setCell ⟨b, o, none⟩ u) base v ps ps.length :=
 ⟨h.row.kept (aJ _ _ _ _) (fun k hk => by have := h.row.lt k hk; omega), fun i hi => (h.own i hi).kept (aJ _ _ _ _) (fun k hk => by have := (h.own i hi).lt k hk; omega), fun i hi hi2 => by omega, h.apart⟩
theorem cT.set (h : cT ps qs) (hk : k < qs.length) (hn : (poAt qs k).ls.length = (poAt qs k).n) : cT ps (qs.set k (aQ (poAt qs k) x (poAt qs k).ls.length c (poAt qs k).ls)) := by
 refine ⟨by rw [List.length_set]; exact h.1, fun i hi => ?_⟩
 have hs := h.2 i hi
 rw [dD hk]
 by_cases e : k = i
 ·subst e
  rw [if_pos rfl]
  obtain ⟨a1, a2, a3, a4, a5, a6, a7, a8, a9, a10⟩ := hs
  exact ⟨a1, a2, a3, a4, a5, a6, a7, a8, a9.trans hn.symm, a10⟩
 ·rw [if_neg e]; exact hs
theorem dV (t : Int) (x : Option Addr) (n c : Nat) (ps : List Po) (w : World) (hk : Bk w x n c ps) (hn : n ≤ 64) :
  Calls Tryz.prog 41 #[.agg #[.int .i64 t, .slice x n c]] w (JV t ps w) := by
 have hpl : Hid (ps.length = n) := hk.ps.len
 go_enter Tryz.func41, Tryz.ntmps41
 go_upto_region 1 with fail
 obtain ⟨w0, hw0⟩ : ∃ w0, w0 = (w.alloc (gE t (.slice x n c))).alloc (gE 0 (.slice none 0 0)) := ⟨_, rfl⟩
 rw [← hw0]
 have hB0 : Below w.heap.size w w0 := by rw [hw0]; exact cB w _ _
 have hb0 : w0.heap[w.heap.size]? = some (gE t (.slice x n c)) := by rw [hw0]; exact aF _ (aC _ rfl)
 have hr0 : w0.heap[w.heap.size + 1]? = some (gE 0 (.slice none 0 0)) := by rw [hw0]; exact aC _ (by simp)
 clear hw0
 have hsz : w.heap.size + 1 < w0.heap.size := (Array.getElem?_eq_some_iff.1 hr0).1
 obtain ⟨kb, -⟩ := aA hb0
 have k0 : w0.cell? ⟨w.heap.size, 0, none⟩ = some (.int .i64 t) := kb 0
 have k1 : w0.cell? ⟨w.heap.size, 1, none⟩ = some (.slice x n c) := kb 1
 clear kb
 have hcl := fun W h => GL x n c ps W h (by omega)
 go_cut [3] (fun p wc => ∃ nb v, p = .pointer (some ⟨nb, 0, none⟩) ∧ w0.heap.size ≤ nb ∧ dL wc w0.heap.size v ps ∧ wc.heap[nb]? = some (gE t v) ∧ Below w0.heap.size w0 wc)
 case first =>
  go_region_held3 (fun w' => w'.cell? ⟨w.heap.size, 0, none⟩ = some (.int .i64 t) ∧ w'.cell? ⟨w.heap.size, 1, none⟩ = some (.slice x n c)) (first | (exact ⟨(aE hb1 (by first | exact k0 | exact aE (bl1 _ _).drew k0)), (aE hb1 (by first | exact k1 | exact aE (bl1 _ _).drew k1))⟩) | (exact ⟨aE (bl1 _ _) (aE hb1 (by first | exact k0 | exact aE (bl1 _ _).drew k0)), aE (bl1 _ _) (aE hb1 (by first | exact k1 | exact aE (bl1 _ _).drew k1))⟩) | (exact ⟨aE (bl1 _ _) k0, aE (bl1 _ _) k1⟩) | (exact ⟨((aX (by omega)).trans ((aX (by omega)).trans (aE hb1 (by first | exact k0 | exact aE (bl1 _ _).drew k0)))), ((aX (by omega)).trans ((aX (by omega)).trans (aE hb1 (by first | exact k1 | exact aE (bl1 _ _).drew k1))))⟩) | (go_keep; done)) (first | (go_at_call 77; refine (hcl _ (by first | exact hk.ps.later hB0.drew | exact hk.ps.later ((hB0.drew.alloc hB0.size _)) | exact hk.ps.later ((hB0.alloc hB0.size _).drew))).mono ?_; rintro e w1 ⟨v1, rfl, hO1, hb1⟩; obtain ⟨x1, c1, rfl, h11, h12, h13, h14⟩ := hO1.mem; try (have hx : w1.heap[w0.heap.size]? = some (gE 0 (.slice none 0 0)) := aB hb1 (aC (W := w0) _ rfl); have q0 : w1.cell? ⟨w0.heap.size, 0, none⟩ = some (.int .i64 0) := (aA hx).1 0; have q1 : w1.cell? ⟨w0.heap.size, 1, none⟩ = some (.slice none 0 0) := (aA hx).1 1; have f0 := (aA hx).2 0; have f1 := (aA hx).2 1)) | fail)
  all_goals go_wp2
  all_goals go_meet
  case rel => exact ⟨_, _, rfl, hb1.size, hO1.later (bl1 _ _), aC _ rfl, Below.alloc (B := w0.heap.size) (a := w0) ⟨hb1.os, hb1.tape, hb1.output, hb1.size, hb1.block⟩ hb1.size _⟩
  have hs1 : w0.heap.size + 1 ≤ w1.heap.size := by have := hb1.size; simpa using this
  case rel => exact ⟨_, _, rfl, Nat.le_refl _, dL.low (base := w0.heap.size + 1) ((dL.kept (base := w0.heap.size + 1) (by simpa using hO1) (aJ _ _ _ _) (fun q hq e => by subst e; exact hO1.ne hx (by decide) hq)).kept (aJ _ _ _ _) (fun q hq e => by subst e; exact hO1.ne hx (by decide) hq)) (by omega), QN hx, ((Below.trans (bl1 w0 (gE 0 (.slice none 0 0))) (Below.mono (B := w0.heap.size + 1) ⟨hb1.os, hb1.tape, hb1.output, hb1.size, fun k hk => hb1.block k (by simpa using hk)⟩ (by omega))).setCell (Nat.le_refl _) _).setCell (Nat.le_refl _) _⟩
 case rest =>
  obtain ⟨nb, v, rfl, hnb, hO, hbx, hBc⟩ := hcut
  have hk0 : dN wc w0.heap.size v ps 0 := dN.start hk (hB0.trans (hBc.mono hB0.size)) hO hB0.size
  obtain ⟨xv, cv, rfl, hv1, hv2, hv3, hv4⟩ := hO.mem
  have e1 := aU hbx 1 rfl
  go_wp2
  clear e1
  go_loopw [14] (fun i wr => ∃ (q : Nat) (qs : List Po), q ≤ ps.length ∧ i = .int .i64 q ∧ cT ps qs ∧ dN wr w0.heap.size (.slice xv ps.length cv) qs q ∧ wr.heap[nb]? = some (gE t (.slice xv ps.length cv)) ∧ Below w0.heap.size w0 wr) (fun i _ => ps.length - (intOf i).toNat)
  case atStart => exact ⟨0, ps, by omega, rfl, cT.refl _, hk0, hbx, hBc⟩
  case round =>
   obtain ⟨q, qs, hq, rfl, hs, hQ, hbr, hBr⟩ := hrel
   obtain ⟨e0, e1⟩ := aO hbr rfl rfl
   by_cases hlt : q < ps.length
   ·have hlq : q < qs.length := by rw [← hs.1]; exact hlt
    have hlt' := hlt
    obtain ⟨x2, c2, he2, -, -, -, hm⟩ := hQ.row.mem
    simp only [Value.slice.injEq] at he2
    obtain ⟨rfl, -, rfl⟩ := he2
    obtain ⟨b2, o2, he3, -, -, -, -, -, -, -, -, c8⟩ := hm q hlq
    rcases hQ.row.2 with ⟨hv, -⟩ | ⟨g, cap, cur, hv, hg1, hg2, -⟩
    ·rw [he3] at hv; simp at hv
    simp only [Value.slice.injEq] at hv
    obtain ⟨hx3, -, rfl⟩ := hv
    rw [hx3] at he3
    simp only [Option.some.injEq, Addr.mk.injEq] at he3
    obtain ⟨rfl, rfl, -⟩ := he3
    subst hx3
    obtain ⟨hLS, hnc, hnb2, -⟩ := hQ.rest q (Nat.le_refl _) hlq
    have hcl := fun W h => GK (poAt qs q).x (poAt qs q).n (poAt qs q).c (poAt qs q).ls W h hnb2
    have hfz := fun j => hQ.row.frozen j
    go_wp2_with fail
    have c8' : wr.cell? ⟨g, q * 9 + 8, none⟩ = some (.slice (poAt qs q).x (poAt qs q).n (poAt qs q).c) := by simpa using c8
    go_region_with (go_at_call 78; refine (hcl _ (by first | exact hLS | exact hLS.later (Below.refl _ _).drew)).mono ?_; rintro e w1 ⟨v1, rfl, hO1, hb1⟩; obtain ⟨x1, c1, rfl, h11, h12, h13, h14⟩ := hO1.mem; have hb2 : Below wr.heap.size wr w1 := ⟨hb1.os, hb1.tape, hb1.output, hb1.size, hb1.block⟩; have d1 := aE hb2 e1; have d8 := aE hb2 c8'; have df : w1.frozen? ⟨g, q * 9 + 8, none⟩ = false := (hQ.row.later hb2).frozen _)
    all_goals have hne : nb ≠ g := fun e => by rw [e] at hbr; rw [hbr] at hg2; simp at hg2
    all_goals have hst := hQ.step (x' := x1) (c' := c1) hlq hb2 hO1 hBr.size
    all_goals have hh : (w1.setCell ⟨g, q * 9 + 8, none⟩ (.slice x1 (poAt qs q).ls.length c1)).heap[nb]? = some (gE t (.slice (some ⟨g, 0, none⟩) ps.length cv)) := (heap_setCell_other _ _ _ _ hne).trans (aB hb2 hbr)
    all_goals have hB3 := (hBr.trans (hb2.mono hBr.size)).setCell (p := ⟨g, q * 9 + 8, none⟩) hg1 (.slice x1 (poAt qs q).ls.length c1)
    all_goals clear d1 d8 df
    all_goals go_wp2
    all_goals go_roundw
    all_goals first | exact ⟨q + 1, _, hlt', by go_num, hs.set hlq hLS.len, hst, hh, hB3⟩ | (simp [intOf]; omega)
   ·obtain rfl : q = ps.length := by omega
    have hrr : wr.heap[w.heap.size + 1]? = some (gE 0 (.slice none 0 0)) := (hBr.block _ hsz).trans hr0
    obtain ⟨r0, r1⟩ := aO hrr rfl rfl
    obtain ⟨z0, z1⟩ := cH hrr
    go_wp2
    refine bodyPost_ret (v := .agg #[.int .i64 t, .slice xv ps.length cv]) (by simp [results, Tryz.results41, go_sem, r0, r1]) rfl ?_
    have hQ2 : dN wr w0.heap.size (.slice xv ps.length cv) qs qs.length := by rw [← hs.1]; exact hQ
    exact ⟨_, qs, rfl, hs, ((hQ2.put hsz).put hsz).low hB0.size, ((hB0.trans (hBr.mono hB0.size)).setCell (by simp) _).setCell (by simp) _⟩
theorem B5 (p r : Le) (v : Int) (hv : zM p.a r.a v) (bb kk : Nat) (w : World) (hby : w.cell? ⟨bb, 0, none⟩ = some (.func (.func 130) #[] #[])) :
  Calls Tryz.prog 175 #[.agg #[.int .i64 p.a, .int .i64 p.l, .int .i64 p.kd, .int .i64 p.ow, .int .i64 p.un], .agg #[.int .i64 r.a, .int .i64 r.l, .int .i64 r.kd, .int .i64 r.ow, .int .i64 r.un], .slice (some ⟨bb, 0, none⟩) 1 kk] w fun e w' => e = .returned (.int .i64 v) ∧ Below w.heap.size w w' := JQ.1 UP.1 p r v hv bb kk w hby
def M2 (e : Le) (n : Nat) (ps : List Le) (w : World) (r : Ending) (w' : World) : Prop :=
 ∃ v, r = .returned v ∧ Below w.heap.size w w' ∧ ∃ i, i ≤ n ∧ (∀ j, j < i → ¬ e.a < (aM ps j).a) ∧ (i < n → e.a < (aM ps i).a) ∧ cJ w' w.heap.size v (ps.take i ++ [e] ++ ps.drop i)
theorem M3 (e : Le) (x : Option Addr) (n c : Nat) (ps : List Le) (bf k : Nat) (w : World) (hp : LS w x n ps) (hn : n ≤ 32) (hnc : n ≤ c) (hc63 : c ≤ 9223372036854775807) (hx : (x = none ∧ c = 0) ∨ ∃ b o, x = some ⟨b, o, none⟩)
  (hby : w.cell? ⟨bf, 0, none⟩ = some (.func (.func 130) #[] #[])) :
  Calls Tryz.prog 129 #[.slice x n c, .agg #[.int .i64 e.a, .int .i64 e.l, .int .i64 e.kd, .int .i64 e.ow, .int .i64 e.un], .slice (some ⟨bf, 0, none⟩) 1 k] w (M2 e n ps w) := by
 have hB2 := cB w (.cells #[.int .i64 e.a, .int .i64 e.l, .int .i64 e.kd, .int .i64 e.ow, .int .i64 e.un] 138) (.cells #[.slice (some ⟨bf, 0, none⟩) 1 k] 226)
 refine (DQ.1 _ _ QM e x n c bf 1 k (flatL ps) (fun i => decide (e.a < (aM ps i).a)) w hp.rw (pG [e]) hn hnc hc63 hx (eZ _ _ x n c ps _ _ (hp.later hB2) (by omega) (fun i hi W hW => ?_) jA.1.2)).mono ?_
 ·obtain ⟨v, hv, hd⟩ := qW e.a (aM ps i).a
  exact (jA.1.1 e (aM ps i) v w.heap.size (w.heap.size + 1) bf 1 k W (fun i => (hW.cell (p := ⟨w.heap.size, i, none⟩) (by show w.heap.size < _; simp; omega)).trans (by simp)) (cell_later hW (by simp)) fun W9 h9 => B5 e _ v hv bf k W9 (cell_later h9 (cell_later hW (cell_later hB2 hby)))).mono fun _ _ h => ⟨h.1.trans (congrArg (fun t => Ending.returned (.bool t)) hd.symm), h.2⟩
 ·rintro r w1 ⟨v, rfl, hb, i, hi, hlow, hup, ho⟩
  exact ⟨v, rfl, hb, i, hi, fun j hj => of_decide_eq_false (hlow j hj), fun h => of_decide_eq_true (hup h), kQ flatL gQ tV hp.len hi ho⟩
def nZ (p : Po) (z : Int) : Option Int := if p.n = 32 then none else tO p.a p.l p.n (lp p.ls) z
def eJ (p : Po) (z : Int) : Int := if z < p.mn ∨ p.mx < z then 7 else match nZ p z with
 | none => 8
 | some _ => 0
def eK (p : Po) (z : Int) : Int × Int := if z < p.mn ∨ p.mx < z then (0, 0) else match nZ p z with
 | none => (0, 0)
 | some x => (x, z)
def xO (p : Po) (z : Int) (w : World) (e : Ending) (w' : World) : Prop :=
 e = .returned (.tuple #[.agg #[.int .i64 (eK p z).1, .int .i64 (eK p z).2], .int .i64 (eJ p z)]) ∧ Below w.heap.size w w'
theorem DX (p : Po) (z : Int) (w : World) (hp : LS w p.x p.n p.ls) (hn : p.n ≤ 1048576) :
  Calls Tryz.prog 128 #[.agg #[.int .i64 p.id, .int .i64 p.up, .int .i64 p.a, .int .i64 p.l, .int .i64 p.mn, .int .i64 p.mx, .int .i64 p.us, .int .i64 p.co, .slice p.x p.n p.c], .int .i64 z] w (xO p z w) := by
 obtain ⟨id, up, a, l, mn, mx, us, co, x, n, c, ls⟩ := p
 simp only at hp hn ⊢
 have hB := cB w (.cells #[.int .i64 id, .int .i64 up, .int .i64 a, .int .i64 l, .int .i64 mn, .int .i64 mx, .int .i64 us, .int .i64 co, .slice x n c] 59) (.cells #[.int .i64 0, .int .i64 0] 49)
 by_cases hz : z < mn ∨ mx < z
 ·have he : eJ ⟨id, up, a, l, mn, mx, us, co, x, n, c, ls⟩ z = 7 := if_pos hz
  have ho : eK ⟨id, up, a, l, mn, mx, us, co, x, n, c, ls⟩ z = (0, 0) := if_pos hz
  by_cases h1 : z < mn
  ·go_enter Tryz.func128, Tryz.ntmps128
   go_wp2
   refine bodyPost_ret (v := .tuple #[.agg #[.int .i64 0, .int .i64 0], .int .i64 7]) (by simp [results, Tryz.results128, go_sem]) rfl ⟨by rw [he, ho], ?_⟩
   first | exact (hB.setCell (p := ⟨w.heap.size + 1, 0, none⟩) (Nat.le_succ _) _).setCell (p := ⟨w.heap.size + 1, 1, none⟩) (Nat.le_succ _) _ | exact hB
  ·have h2 : mx < z := by omega
   go_enter Tryz.func128, Tryz.ntmps128
   go_wp2
   refine bodyPost_ret (v := .tuple #[.agg #[.int .i64 0, .int .i64 0], .int .i64 7]) (by simp [results, Tryz.results128, go_sem]) rfl ⟨by rw [he, ho], ?_⟩
   first | exact (hB.setCell (p := ⟨w.heap.size + 1, 0, none⟩) (Nat.le_succ _) _).setCell (p := ⟨w.heap.size + 1, 1, none⟩) (Nat.le_succ _) _ | exact hB
 ·have h1 : ¬ z < mn := fun h => hz (.inl h)
  have h2 : ¬ mx < z := fun h => hz (.inr h)
  have he : eJ ⟨id, up, a, l, mn, mx, us, co, x, n, c, ls⟩ z = _ := if_neg hz
  have ho : eK ⟨id, up, a, l, mn, mx, us, co, x, n, c, ls⟩ z = _ := if_neg hz
  go_enter Tryz.func128, Tryz.ntmps128
  go_wp2_with fail
  refine (nX ⟨id, up, a, l, mn, mx, us, co, x, n, c, ls⟩ _ (hp.later hB) hn).mono ?_
  rintro e w1 ⟨x1, c1, rfl, hb1, hps1⟩
  go_wp2_with fail
  refine (QA a l x1 n c1 (lp ls) z w1 (fun _ => hps1)).mono ?_
  rintro e w2 ⟨rfl, hb2⟩
  have hB2 := hB.trans ((hb1.trans (hb2.mono hb1.size)).mono (by simp; omega))
  have hx8 : w2.heap[w.heap.size]? = some (.cells #[.int .i64 id, .int .i64 up, .int .i64 a, .int .i64 l, .int .i64 mn, .int .i64 mx, .int .i64 us, .int .i64 co, .slice x n c] 59) := aB hb2 (aB hb1 (aF _ (aC _ rfl)))
  have hx9 : w2.heap[w.heap.size + 1]? = some (.cells #[.int .i64 0, .int .i64 0] 49) := aB hb2 (aB hb1 (aC _ (by simp)))
  clear hb1 hb2 hps1
  have hsz := (Array.getElem?_eq_some_iff.1 hx9).1
  cases hf : tO a l n (lp ls) z with
  | none =>
   have hq : nZ ⟨id, up, a, l, mn, mx, us, co, x, n, c, ls⟩ z = none := by unfold nZ; split; rfl; exact hf
   rw [hq] at he ho
   simp only [SF]
   go_upto_region 4 with fail
   obtain ⟨w3, hw3⟩ : ∃ w3, w3 = w2.alloc (.cells #[.int .i64 0, .int .i64 0] 49) := ⟨_, rfl⟩
   rw [← hw3]
   have hB3 : Below w.heap.size w w3 := by rw [hw3]; exact hB2.alloc hB2.size _
   have hy8 : w3.heap[w.heap.size]? = some (.cells #[.int .i64 id, .int .i64 up, .int .i64 a, .int .i64 l, .int .i64 mn, .int .i64 mx, .int .i64 us, .int .i64 co, .slice x n c] 59) := by rw [hw3]; exact aF _ hx8
   have hy9 : w3.heap[w.heap.size + 1]? = some (.cells #[.int .i64 0, .int .i64 0] 49) := by rw [hw3]; exact aF _ hx9
   have hyn : w3.heap[w2.heap.size]? = some (.cells #[.int .i64 0, .int .i64 0] 49) := by rw [hw3]; exact aC _ rfl
   clear hw3
   have d8 := aU hy8 8 rfl
   obtain ⟨r0, r1⟩ := aO hy9 rfl rfl
   obtain ⟨z0, z1⟩ := cH hy9
   obtain ⟨q0, q1⟩ := aO hyn rfl rfl
   go_wp2
   refine bodyPost_ret (v := .tuple #[.agg #[.int .i64 0, .int .i64 0], .int .i64 8]) (by simp [results, Tryz.results128, go_sem, r0, r1]) rfl ⟨by rw [he, ho], ?_⟩
   exact (hB3.setCell (p := ⟨w.heap.size + 1, 0, none⟩) (Nat.le_succ _) _).setCell (p := ⟨w.heap.size + 1, 1, none⟩) (Nat.le_succ _) _
  | some y =>
   simp only [SF]
   by_cases h32 : n = 32
   ·have hq : nZ ⟨id, up, a, l, mn, mx, us, co, x, n, c, ls⟩ z = none := if_pos h32
    rw [hq] at he ho
    subst h32
    go_upto_region 4 with fail
    obtain ⟨w3, hw3⟩ : ∃ w3, w3 = w2.alloc (.cells #[.int .i64 y, .int .i64 z] 49) := ⟨_, rfl⟩
    rw [← hw3]
    have hB3 : Below w.heap.size w w3 := by rw [hw3]; exact hB2.alloc hB2.size _
    have hy8 : w3.heap[w.heap.size]? = some (.cells #[.int .i64 id, .int .i64 up, .int .i64 a, .int .i64 l, .int .i64 mn, .int .i64 mx, .int .i64 us, .int .i64 co, .slice x 32 c] 59) := by rw [hw3]; exact aF _ hx8
    have hy9 : w3.heap[w.heap.size + 1]? = some (.cells #[.int .i64 0, .int .i64 0] 49) := by rw [hw3]; exact aF _ hx9
    have hyn : w3.heap[w2.heap.size]? = some (.cells #[.int .i64 y, .int .i64 z] 49) := by rw [hw3]; exact aC _ rfl
    clear hw3
    have d8 := aU hy8 8 rfl
    obtain ⟨r0, r1⟩ := aO hy9 rfl rfl
    obtain ⟨z0, z1⟩ := cH hy9
    obtain ⟨q0, q1⟩ := aO hyn rfl rfl
    go_wp2
    refine bodyPost_ret (v := .tuple #[.agg #[.int .i64 0, .int .i64 0], .int .i64 8]) (by simp [results, Tryz.results128, go_sem, r0, r1]) rfl ⟨by rw [he, ho], ?_⟩
    exact (hB3.setCell (p := ⟨w.heap.size + 1, 0, none⟩) (Nat.le_succ _) _).setCell (p := ⟨w.heap.size + 1, 1, none⟩) (Nat.le_succ _) _
   ·have hq : nZ ⟨id, up, a, l, mn, mx, us, co, x, n, c, ls⟩ z = some y := (if_neg h32).trans hf
    rw [hq] at he ho
    have h33 : ¬ (n : Int) = 32 := by omega
    go_upto_region 4 with fail
    obtain ⟨w3, hw3⟩ : ∃ w3, w3 = w2.alloc (.cells #[.int .i64 y, .int .i64 z] 49) := ⟨_, rfl⟩
    rw [← hw3]
    have hB3 : Below w.heap.size w w3 := by rw [hw3]; exact hB2.alloc hB2.size _
    have hy8 : w3.heap[w.heap.size]? = some (.cells #[.int .i64 id, .int .i64 up, .int .i64 a, .int .i64 l, .int .i64 mn, .int .i64 mx, .int .i64 us, .int .i64 co, .slice x n c] 59) := by rw [hw3]; exact aF _ hx8
    have hy9 : w3.heap[w.heap.size + 1]? = some (.cells #[.int .i64 0, .int .i64 0] 49) := by rw [hw3]; exact aF _ hx9
    have hyn : w3.heap[w2.heap.size]? = some (.cells #[.int .i64 y, .int .i64 z] 49) := by rw [hw3]; exact aC _ rfl
    clear hw3
    have d8 := aU hy8 8 rfl
    obtain ⟨r0, r1⟩ := aO hy9 rfl rfl
    obtain ⟨z0, z1⟩ := cH hy9
    obtain ⟨q0, q1⟩ := aO hyn rfl rfl
    go_wp2
    refine bodyPost_ret (v := .tuple #[.agg #[.int .i64 y, .int .i64 z], .int .i64 0]) (by simp [results, Tryz.results128, go_sem, r0, r1]) rfl ⟨by rw [he, ho], ?_⟩
    exact (hB3.setCell (p := ⟨w.heap.size + 1, 0, none⟩) (Nat.le_succ _) _).setCell (p := ⟨w.heap.size + 1, 1, none⟩) (Nat.le_succ _) _
theorem dN.swap {base : Nat} {m : Nat} {ls : List Le} (h : dN W base (.slice (some ⟨g, 0, none⟩) n cap) qs qs.length) (hk : i < qs.length) (hb : Below W.heap.size W W1) (ho : cJ W1 W.heap.size (.slice x' m c') ls) (hwb : base ≤ W.heap.size) :
  dN (W1.setCell ⟨g, i * 9 + 8, none⟩ (.slice x' m c')) base (.slice (some ⟨g, 0, none⟩) n cap) (qs.set i (aQ (poAt qs i) x' m c' ls)) (qs.set i (aQ (poAt qs i) x' m c' ls)).length := by
 have hr := h.row.later hb
 obtain ⟨hbg, cur, hg⟩ := hr.block
 have hall : ∀ j, j < qs.length → cJ W1 base (.slice (poAt (qs.set i (aQ (poAt qs i) x' m c' ls)) j).x (poAt (qs.set i (aQ (poAt qs i) x' m c' ls)) j).n (poAt (qs.set i (aQ (poAt qs i) x' m c' ls)) j).c) (poAt (qs.set i (aQ (poAt qs i) x' m c' ls)) j).ls := fun j hj => by
  rw [dD hk]
  by_cases e : i = j
  ·rw [if_pos e]; exact ho.low hwb
  ·rw [if_neg e]; exact (h.own j hj).later hb
 have hlen : (qs.set i (aQ (poAt qs i) x' m c' ls)).length = qs.length := List.length_set
 refine ⟨hr.set i hk x' _ c' _, fun j hj => (hall j (by omega)).kept (aJ _ _ _ _) (fun q hq e => by subst e; exact (hall j (by omega)).ne hg (by decide) hq), fun j hj hj2 => by omega, fun j k hj hk2 hij b hbi hbj => ?_⟩
 rw [dD hk] at hbi hbj
 by_cases e : i = j
 ·rw [if_pos e] at hbi
  rw [if_neg (by omega)] at hbj
  have h1 := ho.lt b hbi
  have h2 := (h.own k (by omega)).lt b hbj
  omega
 ·rw [if_neg e] at hbi
  by_cases e2 : i = k
  ·rw [if_pos e2] at hbj
   have h1 := ho.lt b hbj
   have h2 := (h.own j (by omega)).lt b hbi
   omega
  ·rw [if_neg e2] at hbj
   exact h.apart j k (by omega) (by omega) hij b hbi hbj
def iM (e : Le) (ls ls' : List Le) : Prop := ∃ i, i ≤ ls.length ∧ (∀ j, j < i → ¬ e.a < (aM ls j).a) ∧ (i < ls.length → e.a < (aM ls i).a) ∧ ls' = ls.take i ++ [e] ++ ls.drop i
theorem iM.len {ls : List Le} (h : iM e ls ls') : ls'.length = ls.length + 1 := by
 obtain ⟨i, hi, -, -, rfl⟩ := h
 simp
 omega
def QO (e : Le) (base g n cap : Nat) (qs : List Po) (i : Nat) (w : World) (r : Ending) (w' : World) : Prop :=
 r = .returned (.tuple #[]) ∧ ∃ x' c' ls', iM e (poAt qs i).ls ls' ∧ dN w' base (.slice (some ⟨g, 0, none⟩) n cap) (qs.set i (aQ (poAt qs i) x' ls'.length c' ls')) (qs.set i (aQ (poAt qs i) x' ls'.length c' ls')).length ∧ w.grownBy w' (some g)
theorem sC (e : Le) (base g n cap : Nat) (qs : List Po) (i : Nat) (w : World) (h : dN w base (.slice (some ⟨g, 0, none⟩) n cap) qs qs.length) (hi : i < qs.length) (hn : (poAt qs i).n ≤ 32) (hwb : base ≤ w.heap.size) :
  Calls Tryz.prog 86 #[.pointer (some ⟨g, i * 9, none⟩), .agg #[.int .i64 e.a, .int .i64 e.l, .int .i64 e.kd, .int .i64 e.ow, .int .i64 e.un]] w (QO e base g n cap qs i w) := by
 obtain ⟨hbg, cur, hg⟩ := h.row.block
 have hgl : g < w.heap.size := (Array.getElem?_eq_some_iff.1 hg).1
 obtain ⟨xv, cv, he2, -, -, -, hm⟩ := h.row.mem
 obtain ⟨b2, o2, he3, -, -, -, -, -, -, -, -, c8⟩ := hm i hi
 simp only [Value.slice.injEq] at he2
 obtain ⟨hx2, -, -⟩ := he2
 rw [← hx2] at he3
 simp only [Option.some.injEq, Addr.mk.injEq] at he3
 obtain ⟨rfl, rfl, -⟩ := he3
 clear hx2 hm
 have hO := h.own i hi
 obtain ⟨hLS, hll, hnc, hc63⟩ := hO.ls
 have hx : ((poAt qs i).x = none ∧ (poAt qs i).c = 0) ∨ ∃ b o, (poAt qs i).x = some ⟨b, o, none⟩ := by
  rcases hO.2 with ⟨hv, -⟩ | ⟨g2, cap2, cur2, hv, -⟩
  ·simp only [Value.slice.injEq] at hv; exact .inl ⟨hv.1, hv.2.2⟩
  ·simp only [Value.slice.injEq] at hv; exact .inr ⟨_, _, hv.1⟩
 go_enter Tryz.func86, Tryz.ntmps86
 go_upto_region 1 with fail
 obtain ⟨w0, hw0⟩ : ∃ w0, w0 = w.alloc (.cells #[.int .i64 e.a, .int .i64 e.l, .int .i64 e.kd, .int .i64 e.ow, .int .i64 e.un] 138) := ⟨_, rfl⟩
 rw [← hw0]
 have hB0 : Below w.heap.size w w0 := by rw [hw0]; exact bl1 w _
 have hb0 : w0.heap[w.heap.size]? = some (.cells #[.int .i64 e.a, .int .i64 e.l, .int .i64 e.kd, .int .i64 e.ow, .int .i64 e.un] 138) := by rw [hw0]; exact aC _ rfl
 clear hw0
 have c8' : w.cell? ⟨g, i * 9 + 8, none⟩ = some (.slice (poAt qs i).x (poAt qs i).n (poAt qs i).c) := by simpa using c8
 have d8 : w0.cell? ⟨g, i * 9 + 8, none⟩ = some (.slice (poAt qs i).x (poAt qs i).n (poAt qs i).c) := aE hB0 c8'
 have a8 : ∀ o, (w0.alloc o).cell? ⟨g, i * 9 + 8, none⟩ = some (.slice (poAt qs i).x (poAt qs i).n (poAt qs i).c) := fun o => aE (bl1 w0 o) d8
 have d0 := aU hb0 0 rfl
 have a0 : ∀ o, (w0.alloc o).cell? ⟨w.heap.size, 0, none⟩ = some (.int .i64 e.a) := fun o => aE (bl1 w0 o) d0
 have d1 := aU hb0 1 rfl
 have a1 : ∀ o, (w0.alloc o).cell? ⟨w.heap.size, 1, none⟩ = some (.int .i64 e.l) := fun o => aE (bl1 w0 o) d1
 have d2 := aU hb0 2 rfl
 have a2 : ∀ o, (w0.alloc o).cell? ⟨w.heap.size, 2, none⟩ = some (.int .i64 e.kd) := fun o => aE (bl1 w0 o) d2
 have d3 := aU hb0 3 rfl
 have a3 : ∀ o, (w0.alloc o).cell? ⟨w.heap.size, 3, none⟩ = some (.int .i64 e.ow) := fun o => aE (bl1 w0 o) d3
 have d4 := aU hb0 4 rfl
 have a4 : ∀ o, (w0.alloc o).cell? ⟨w.heap.size, 4, none⟩ = some (.int .i64 e.un) := fun o => aE (bl1 w0 o) d4
 have hput := M3 e (poAt qs i).x (poAt qs i).n (poAt qs i).c (poAt qs i).ls w0.heap.size 1 (w0.alloc (.cells #[.func (.func 130) #[] #[]] 192)).drew ((hLS.later hB0).later (bl1 w0 _).drew) hn hnc hc63 hx (by simp)
 have hgo : ∀ w1, Below (w0.alloc (.cells #[.func (.func 130) #[] #[]] 192)).drew.heap.size (w0.alloc (.cells #[.func (.func 130) #[] #[]] 192)).drew w1 → Below w.heap.size w w1 := fun w1 hb1 =>
  (hB0.trans ((bl1 w0 _).mono hB0.size)).trans (Below.mono (B := w0.heap.size + 1) ⟨hb1.os, hb1.tape, hb1.output, hb1.size, fun k hk => hb1.block k (by simpa using hk)⟩ (by have := hB0.size; omega))
 go_region_with (go_at_call 129; refine hput.mono ?_; rintro e' w1 ⟨v1, rfl, hb1, i1, hi1, hlow, hup, hO1⟩; obtain ⟨ls', hls⟩ : ∃ ls', Hid (ls' = (poAt qs i).ls.take i1 ++ [e] ++ (poAt qs i).ls.drop i1) := ⟨_, rfl⟩; rw [← hls.out] at hO1; obtain ⟨x1, c1, rfl, h11, h12, h13, h14⟩ := hO1.mem; have hb2 : Below w.heap.size w w1 := hgo w1 hb1; have f8 := aE hb2 c8'; have df : w1.frozen? ⟨g, i * 9 + 8, none⟩ = false := (h.row.later hb2).frozen _)
 all_goals have hp2 : iM e (poAt qs i).ls ls' := ⟨i1, by rw [hll]; exact hi1, fun j hj => by have := hlow j hj; omega, fun hq => hup (by rw [← hll]; exact hq), hls.out⟩
 all_goals have hO2 : cJ w1 w.heap.size (.slice x1 ls'.length c1) ls' := hO1.low (by have := hB0.size; simp; omega)
 all_goals have hsw := h.swap hi hb2 hO2 hwb
 all_goals refine bodyPost_end (results_none Tryz.results86 _ _ _) rfl ?_
 all_goals exact ⟨rfl, x1, c1, ls', hp2, hsw, hb2.os, hb2.tape, hb2.output, by have := hb2.size; simpa using this, fun k hk hne => (heap_setCell_other _ _ _ _ (fun e => hne (by rw [e]))).trans (hb2.block k hk)⟩
def M4 (e : Po) (n : Nat) (ps : List Po) (w : World) (r : Ending) (w' : World) : Prop :=
 ∃ v, r = .returned v ∧ Below w.heap.size w w' ∧ ∃ i, i ≤ n ∧ (∀ j, j < i → ¬ e.id < (poAt ps j).id) ∧ (i < n → e.id < (poAt ps i).id) ∧ dL w' w.heap.size v (ps.take i ++ [e] ++ ps.drop i)
theorem M5 (e : Po) (x : Option Addr) (n c : Nat) (ps : List Po) (bf k : Nat) (w : World) (hp : qA w x n ps) (hn : n ≤ 32) (hnc : n ≤ c) (hc63 : c ≤ 9223372036854775807) (hx : (x = none ∧ c = 0) ∨ ∃ b o, x = some ⟨b, o, none⟩)
  (hby : w.cell? ⟨bf, 0, none⟩ = some (.func (.func 67) #[] #[])) :
  Calls Tryz.prog 127 #[.slice x n c, .agg #[.int .i64 e.id, .int .i64 e.up, .int .i64 e.a, .int .i64 e.l, .int .i64 e.mn, .int .i64 e.mx, .int .i64 e.us, .int .i64 e.co, .slice e.x e.n e.c], .slice (some ⟨bf, 0, none⟩) 1 k] w (M4 e n ps w) := by
 have hB2 := cB w (.cells #[.int .i64 e.id, .int .i64 e.up, .int .i64 e.a, .int .i64 e.l, .int .i64 e.mn, .int .i64 e.mx, .int .i64 e.us, .int .i64 e.co, .slice e.x e.n e.c] 59) (.cells #[.slice (some ⟨bf, 0, none⟩) 1 k] 182)
 refine (DQ.2.1 _ _ SP e x n c bf 1 k (flatP ps) (fun i => decide (e.id < (poAt ps i).id)) w hp.rw (pH [e]) hn hnc hc63 hx (iV _ _ x n c ps _ _ (hp.later hB2) (by omega) (fun i hi W hW => ?_) jA.2.1.2)).mono ?_
 ·obtain ⟨v, hv, hd⟩ := qW e.id (poAt ps i).id
  exact (jA.2.1.1 e (poAt ps i) v w.heap.size (w.heap.size + 1) bf 1 k W (fun i => (hW.cell (p := ⟨w.heap.size, i, none⟩) (by show w.heap.size < _; simp; omega)).trans (by simp)) (cell_later hW (by simp)) fun W9 h9 => rX e _ v hv bf k W9 (cell_later h9 (cell_later hW (cell_later hB2 hby)))).mono fun _ _ h => ⟨h.1.trans (congrArg (fun t => Ending.returned (.bool t)) hd.symm), h.2⟩
 ·rintro r w1 ⟨v, rfl, hb, i, hi, hlow, hup, ho⟩
  exact ⟨v, rfl, hb, i, hi, fun j hj => of_decide_eq_false (hlow j hj), fun h => of_decide_eq_true (hup h), kQ flatP eF AS hp.len hi ho⟩
end Go.Proofs.YtndpilfpejfloaaGreat
