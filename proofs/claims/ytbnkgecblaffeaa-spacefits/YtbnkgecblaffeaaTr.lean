/- The law SpaceTrue answers true, whatever it is handed. -/
import Derived.Test.YtbnkgecblaffeaaTm
namespace Go.Proofs.Ytbnkgecblaffeaa
open Go.RowKit Go.Shelf

/-- The boxes of a space and a prefix. -/
structure S2 (w w1 : World) (a l c m : Int) (x : Option Addr) (n k : Nat) : Prop where
  s : w1.heap[w.heap.size]? = some (.cells #[.int .i64 a, .int .i64 l, .slice x n k] 26)
  p : w1.heap[w.heap.size + 1]? = some (.cells #[.int .i64 c, .int .i64 m] 23)
  b : Below w.heap.size w w1
theorem S2.start (w : World) (a l c m : Int) (x : Option Addr) (n k : Nat) : S2 w ((w.alloc (.cells #[.int .i64 a, .int .i64 l, .slice x n k] 26)).alloc (.cells #[.int .i64 c, .int .i64 m] 23)) a l c m x n k :=
  ⟨heap_old _ (heap_new _ rfl), heap_new _ (by simp), bl2 w _ _⟩
theorem S2.later {w w1 w2 : World} {a l c m : Int} {x : Option Addr} {n k : Nat} (h : S2 w w1 a l c m x n k) (hb : Below w1.heap.size w1 w2) : S2 w w2 a l c m x n k :=
  ⟨(hb.block _ (Array.getElem?_eq_some_iff.1 h.s).1).trans h.s, (hb.block _ (Array.getElem?_eq_some_iff.1 h.p).1).trans h.p, h.b.trans (hb.mono h.b.size)⟩
theorem S2.cells {w V : World} {a l c m : Int} {x : Option Addr} {n k : Nat} (h : S2 w V a l c m x n k) : V.cell? ⟨w.heap.size, 0, none⟩ = some (.int .i64 a) ∧ V.cell? ⟨w.heap.size, 1, none⟩ = some (.int .i64 l) ∧ V.cell? ⟨w.heap.size, 2, none⟩ = some (.slice x n k) ∧ V.cell? ⟨w.heap.size + 1, 0, none⟩ = some (.int .i64 c) ∧ V.cell? ⟨w.heap.size + 1, 1, none⟩ = some (.int .i64 m) :=
  ⟨(box3 h.s).1, (box3 h.s).2.1, (box3 h.s).2.2.1, (box2 h.p).1, (box2 h.p).2.1⟩
theorem S2.cells1 {w V : World} {a l c m : Int} {x : Option Addr} {n k : Nat} (h : S2 w V a l c m x n k) : (∀ o, (V.alloc o).cell? ⟨w.heap.size, 0, none⟩ = some (.int .i64 a)) ∧ (∀ o, (V.alloc o).cell? ⟨w.heap.size, 1, none⟩ = some (.int .i64 l)) ∧ (∀ o, (V.alloc o).cell? ⟨w.heap.size, 2, none⟩ = some (.slice x n k)) ∧ (∀ o, (V.alloc o).cell? ⟨w.heap.size + 1, 0, none⟩ = some (.int .i64 c)) ∧ (∀ o, (V.alloc o).cell? ⟨w.heap.size + 1, 1, none⟩ = some (.int .i64 m)) :=
  ⟨fun o => ((h.later (bl1 V o)).cells).1, fun o => ((h.later (bl1 V o)).cells).2.1, fun o => ((h.later (bl1 V o)).cells).2.2.1, fun o => ((h.later (bl1 V o)).cells).2.2.2.1, fun o => ((h.later (bl1 V o)).cells).2.2.2.2⟩

/-- Whether a prefix is inside of one of the first k. -/
def insTo (H : List (Int × Int)) (c m : Int) (k : Nat) : Bool := (H.take k).any fun h => ins c m h.1 h.2
theorem insTo_step (H : List (Int × Int)) (c m : Int) (k : Nat) (hk : k < H.length) : insTo H c m (k + 1) = (insTo H c m k || ins c m (at0 H k) (at1 H k)) := by
  unfold insTo
  rw [List.take_add_one, List.any_append, List.getElem?_eq_getElem hk, at0_get hk, at1_get hk]
  simp
theorem insTo_all (H : List (Int × Int)) (c m : Int) : insTo H c m H.length = true ↔ ∃ h ∈ H, ins c m h.1 h.2 = true := by
  simp [insTo]

theorem begun_is (w : World) : Calls Try.prog 12 #[] w fun e w' => e = .returned (.bool true) ∧ Below w.heap.size w w' := begun_any w

set_option maxRecDepth 100000 in
set_option maxHeartbeats 3200000 in
theorem true_any (a l c m z : Int) (x : Option Addr) (n k : Nat) (ps : List (Int × Int)) (w : World) (hp : n ≤ 32 → PS w x n ps) (hnc : n ≤ k) (hk63 : k ≤ 9223372036854775807) (hx : (x = none ∧ k = 0) ∨ (∃ q, x = some q ∧ k = 0) ∨ ∃ b o, x = some ⟨b, o, none⟩) :
    Calls Try.prog 5 #[.agg #[.int .i64 a, .int .i64 l, .slice x n k], .agg #[.int .i64 c, .int .i64 m], .int .i64 z] w fun e w' => e = .returned (.bool true) ∧ Below w.heap.size w w' := by
  have hh := holes_any a l x n k ps
  by_cases hv : chkS a l n ps = 0
  · obtain ⟨hn, hr, hap⟩ := chkS_ok hv
    have hp' := hp hn
    have hU := used_of hap
    obtain ⟨l0, l1, a0, a1, -⟩ := rt_range hr
    have hH := hol_are ps (16 - l).toNat a l hr (by omega)
    have hlen : (hol ps (16 - l).toNat a l).length ≤ 65536 := Nat.le_trans (hol_len ps _ a l) (Nat.le_trans (Nat.pow_le_pow_right (by omega) (show (16 - l).toNat ≤ 16 by omega)) (by decide))
    have hS : holS a l n ps = hol ps (16 - l).toNat a l := by unfold holS; rw [if_pos hv]
    rw [hS, hv] at hh
    clear hS
    by_cases h32 : n = 32
    · have h32b : ((n : Int) == 32) = true := by rw [h32]; rfl
      clear h32
      go_enter Try.func5, Try.ntmps5
      go_wp2_with fail
      refine (hh _ (fun h => (hp h).later (S2.start w a l c m x n k).b)).mono ?_
      rintro e w1 ⟨x1, c1, rfl, hb1, hp1⟩
      have hB := (S2.start w a l c m x n k).later hb1
      clear hb1
      obtain ⟨s0, s1, s2, p0, p1⟩ := hB.cells
      go_wp2_with (go_at_call 12; refine (begun_is _).mono ?_; rintro e w9 ⟨rfl, hb9⟩)
      go_ret
      exact ⟨rfl, (hB.b).trans (hb9.mono (hB.b).size)⟩
    · have h32b : ((n : Int) == 32) = false := by simp; omega
      have hZ : fitE a l n ps z = 0 → l ≤ z ∧ z ≤ 16 := fun h => by
        unfold fitE at h
        rw [if_pos hv] at h
        by_cases h2 : z < l ∨ 16 < z
        · rw [if_pos h2] at h; cases h
        · omega
      have hFS : fitE a l n ps z = 0 → FitIs ps a l z (fitS a l n ps z) := fun h => by
        unfold fitS
        rw [if_pos h]
        exact fit_hol hH (hZ h).2
      have hQn : fitE a l n ps z ≠ 0 → fitS a l n ps z = none := fun h => by
        unfold fitS
        rw [if_neg h]
      have hCE : ∀ e d : Int, ins e d a l = true → mtsAny e d ps = false → claimE a l n ps e d = 0 := fun e d h1 h2 => by
        unfold claimE
        rw [if_pos hv, if_neg (by rw [h1]; decide), if_neg (by rw [h2]; decide), if_neg h32]
      generalize hol ps (16 - l).toNat a l = H at hh hH hlen
      go_enter Try.func5, Try.ntmps5
      go_wp2_with fail
      refine (hh _ (fun h => (hp h).later (S2.start w a l c m x n k).b)).mono ?_
      rintro e w1 ⟨x1, c1, rfl, hb1, hp1⟩
      have hB := (S2.start w a l c m x n k).later hb1
      clear hb1
      obtain ⟨s0, s1, s2, p0, p1⟩ := hB.cells
      go_wp2
      go_loopw [10, 9] (fun i t wr => ∃ q : Nat, q ≤ H.length ∧ i = .int .i64 q ∧ t = .bool (insTo H c m q) ∧ Below w1.heap.size w1 wr) (fun i _ _ => H.length - (intOf i).toNat)
      case atStart => exact ⟨0, by omega, rfl, rfl, Below.refl _ _⟩
      case round =>
        obtain ⟨q, hq, rfl, rfl, hC⟩ := hrel
        replace hB := hB.later hC
        clear s0 s1 s2 p0 p1
        obtain ⟨s0, s1, s2, p0, p1⟩ := hB.cells
        have hz := hC.size
        by_cases hlt : q < H.length
        · obtain ⟨b, o, rfl, c0, c1'⟩ := (hp1.later hC).cells q hlt
          have hst := insTo_step H c m q hlt
          have hlt' := hlt
          have g0 := Ws.here p0
          have g1 := Ws.here p1
          have g2 := Ws.here c0
          have g3 := Ws.here c1'
          go_upto_region 8 with fail
          clear c0 c1' s0 s1 s2 p0 p1
          refine wp_region_ws wr.heap.size (by kernel_rfl) (by kernel_rfl) ?_
          cases hi : insTo H c m q
          · cases hI : ins c m (at0 H q) (at1 H q)
            all_goals repeat (go_big_quiet_step ((go_at_call 20; exact Calls.in_ws (Nat.le_refl _) (inside_is _ _ _ _ _ hI _))))
            all_goals refine wpQuiet_nil ?_
            all_goals rintro _ ⟨u, rfl⟩
            all_goals have hu := hC.trans (u.property.mono hz)
            all_goals generalize u.val = wu at hu ⊢
            all_goals clear u g0 g1 g2 g3
            all_goals rw [hi, hI] at hst
            all_goals go_wp2
            all_goals go_roundw
            case rel => exact ⟨q + 1, hlt', by go_num, by rw [hst]; rfl, hu⟩
            case measure => simp [intOf]; omega
            case rel => exact ⟨q + 1, hlt', by go_num, by rw [hst]; rfl, hu⟩
            case measure => simp [intOf]; omega
          · repeat (go_big_quiet_step (fail))
            refine wpQuiet_nil ?_
            rintro _ ⟨u, rfl⟩
            have hu := hC.trans (u.property.mono hz)
            generalize u.val = wu at hu ⊢
            clear u g0 g1 g2 g3
            rw [hi] at hst
            go_wp2
            go_roundw
            case rel => exact ⟨q + 1, hlt', by go_num, by rw [hst]; rfl, hu⟩
            case measure => simp [intOf]; omega
        · obtain rfl : q = H.length := by omega
          clear hp1 hC hz
          have hcl := claim_any a l c m x n k ps wr (fun _ => hp'.later hB.b) hnc hk63 hx
          have hiff := insTo_all H c m
          rw [in_hole hH] at hiff
          cases hi : insTo H c m H.length
          · have hEn : claimE a l n ps c m ≠ 0 := fun h => by
              have h1 : ins c m a l = true ∧ mtsAny c m ps = false := by
                unfold claimE at h
                rw [if_pos hv] at h
                cases h2 : ins c m a l <;> cases h3 : mtsAny c m ps <;> simp [h2, h3] at h
                exact ⟨rfl, rfl⟩
              have := hiff.2 h1
              rw [this] at hi; cases hi
            have hEb : (claimE a l n ps c m == 0) = false := by simpa using hEn
            clear hiff hi
            go_wp2_with fail
            refine hcl.mono ?_
            rintro e w2 ⟨hb2, hpost⟩
            obtain rfl := hpost.resolve_right (fun h => hEn h.1) |>.2
            clear hpost
            replace hB := hB.later hb2
            clear s0 s1 s2 p0 p1 hb2 hcl
            generalize claimE a l n ps c m = E at hEn hEb
            obtain ⟨s0, s1, s2, p0, p1⟩ := hB.cells1
            go_wp2_with fail
            have hBV := hB.later (bl1 w2 (.cells #[.int .i64 0, .int .i64 0, .slice none 0 0] 26))
            refine (fit_any a l x n k ps z _ (fun _ => hp'.later hBV.b)).mono ?_
            rintro e w6 ⟨rfl, hb6⟩
            replace hB := hBV.later hb6
            clear hb6 hBV s0 s1 s2 p0 p1
            obtain ⟨s0, s1, s2, p0, p1⟩ := hB.cells1
            by_cases hF : fitE a l n ps z = 0
            · have hFI := hFS hF
              rw [hF]
              cases hQ : fitS a l n ps z with
              | none =>
                rw [hQ] at hFI
                simp only [fitV]
                by_cases hmz : m = z
                · have hmb : (m == z) = true := by simpa using hmz
                  have hB6 := hB.b.trans ((bl1 w6 (.cells #[.int .i64 0, .int .i64 0] 23)).mono hB.b.size)
                  go_wp2_with (go_at_call 12; refine (begun_is _).mono ?_; rintro e w9 ⟨rfl, hb9⟩)
                  go_ret
                  exact ⟨rfl, hB6.trans (hb9.mono hB6.size)⟩
                · have hmb : (m == z) = false := by simpa using hmz
                  have hB6 := hB.b.trans ((bl1 w6 (.cells #[.int .i64 0, .int .i64 0] 23)).mono hB.b.size)
                  go_wp2_with (go_at_call 12; refine (begun_is _).mono ?_; rintro e w9 ⟨rfl, hb9⟩)
                  go_ret
                  exact ⟨rfl, hB6.trans (hb9.mono hB6.size)⟩
              | some q =>
                rw [hQ] at hFI
                obtain ⟨⟨hq1, hq2⟩, hq3⟩ := hFI
                have hEq := hCE q z hq1 hq2
                simp only [fitV]
                by_cases hmz : m = z
                · have hmb : (m == z) = true := by simpa using hmz
                  go_wp2_with fail
                  have hB7 := hB.later (bl1 w6 (.cells #[.int .i64 q, .int .i64 z] 23))
                  have hq7 : (w6.alloc (.cells #[.int .i64 q, .int .i64 z] 23)).heap[w6.heap.size]? = some (.cells #[.int .i64 q, .int .i64 z] 23) := heap_new _ rfl
                  refine (claim_any a l q z x n k ps _ (fun _ => hp'.later hB7.b) hnc hk63 hx).mono ?_
                  rintro e w8 ⟨hb8, hpost⟩
                  obtain ⟨-, x8, c8, q8, rfl, -⟩ := hpost.resolve_left (fun h => h.1 hEq)
                  have hq8 := (hb8.block _ (Array.getElem?_eq_some_iff.1 hq7).1).trans hq7
                  replace hB := hB7.later hb8
                  clear hb8 hpost hB7 hq7 s0 s1 s2 p0 p1
                  have hq9 := fun o => (box2 (heap_old o hq8)).2.1
                  go_wp2_with fail
                  refine (begun_is _).mono ?_
                  rintro e w9 ⟨rfl, hb9⟩
                  have hB9 := hB.b.trans ((bl1 w8 (.cells #[.int .i64 a, .int .i64 l, .slice x8 (n + 1) c8] 26)).mono hB.b.size)
                  have hq10 := (box2 ((hb9.block _ (Array.getElem?_eq_some_iff.1 (heap_old (.cells #[.int .i64 a, .int .i64 l, .slice x8 (n + 1) c8] 26) hq8)).1).trans (heap_old _ hq8))).2.1
                  clear hq9
                  go_wp2
                  go_ret
                  exact ⟨rfl, hB9.trans (hb9.mono hB9.size)⟩
                · have hmb : (m == z) = false := by simpa using hmz
                  go_wp2_with fail
                  have hB7 := hB.later (bl1 w6 (.cells #[.int .i64 q, .int .i64 z] 23))
                  have hq7 : (w6.alloc (.cells #[.int .i64 q, .int .i64 z] 23)).heap[w6.heap.size]? = some (.cells #[.int .i64 q, .int .i64 z] 23) := heap_new _ rfl
                  refine (claim_any a l q z x n k ps _ (fun _ => hp'.later hB7.b) hnc hk63 hx).mono ?_
                  rintro e w8 ⟨hb8, hpost⟩
                  obtain ⟨-, x8, c8, q8, rfl, -⟩ := hpost.resolve_left (fun h => h.1 hEq)
                  have hq8 := (hb8.block _ (Array.getElem?_eq_some_iff.1 hq7).1).trans hq7
                  replace hB := hB7.later hb8
                  clear hb8 hpost hB7 hq7 s0 s1 s2 p0 p1
                  have hq9 := fun o => (box2 (heap_old o hq8)).2.1
                  go_wp2_with fail
                  refine (begun_is _).mono ?_
                  rintro e w9 ⟨rfl, hb9⟩
                  have hB9 := hB.b.trans ((bl1 w8 (.cells #[.int .i64 a, .int .i64 l, .slice x8 (n + 1) c8] 26)).mono hB.b.size)
                  have hq10 := (box2 ((hb9.block _ (Array.getElem?_eq_some_iff.1 (heap_old (.cells #[.int .i64 a, .int .i64 l, .slice x8 (n + 1) c8] 26) hq8)).1).trans (heap_old _ hq8))).2.1
                  clear hq9
                  go_wp2
                  go_ret
                  exact ⟨rfl, hB9.trans (hb9.mono hB9.size)⟩
            · have hQ0 := hQn hF
              rw [hQ0]
              simp only [fitV]
              have hFb : (fitE a l n ps z != 0) = true := by simpa using hF
              generalize fitE a l n ps z = F at hFb hF
              have hB6 := hB.b.trans ((bl1 w6 (.cells #[.int .i64 0, .int .i64 0] 23)).mono hB.b.size)
              go_wp2_with (go_at_call 12; refine (begun_is _).mono ?_; rintro e w9 ⟨rfl, hb9⟩)
              go_ret
              exact ⟨rfl, hB6.trans (hb9.mono hB6.size)⟩
          · replace hiff := hiff.1 hi
            have hE0 := hCE c m hiff.1 hiff.2
            clear hi
            go_wp2_with fail
            refine hcl.mono ?_
            rintro e w2 ⟨hb2, hpost⟩
            obtain ⟨-, x2, c2, qs, rfl, hput, hpq, hc2, hc2', b2, o2, rfl⟩ := hpost.resolve_left (fun h => h.1 hE0)
            clear hpost hcl
            replace hB := hB.later hb2
            have hck : chkS a l (n + 1) qs = 0 := by
              unfold chkS
              rw [if_neg (by omega), hr, apart_of (put_used hU hiff.1 hiff.2 hput)]
              rfl
            have hback := put_back (ins_nums hiff.1).1 hiff.2 hput
            rw [hpq.len] at hback
            clear s0 s1 s2 p0 p1 hb2
            obtain ⟨s0, s1, s2, p0, p1⟩ := hB.cells1
            go_wp2_with fail
            refine (free_any a l c m (some ⟨b2, o2, none⟩) (n + 1) c2 qs _ (fun _ => hpq.later (bl1 w2 _)) hc2 hc2').mono ?_
            rintro e w4 ⟨hb4, hpost⟩
            obtain ⟨-, i, hi', heq, -, x4, c4, rfl, hp4⟩ := (hpost.resolve_left (fun h => h.1 hck)).resolve_left (fun h => hback.1 h.2.1)
            rw [hback.2 i hi' heq] at hp4
            clear hpost
            replace hB := (hB.later (bl1 w2 (.cells #[.int .i64 a, .int .i64 l, .slice (some ⟨b2, o2, none⟩) (n + 1) c2] 26))).later hb4
            clear s0 s1 s2 p0 p1 hb4 hback hck hpq hput
            obtain ⟨s0, s1, s2, p0, p1⟩ := hB.cells1
            go_wp2_with fail
            refine (sameSpaces_is a l x4 x n n c4 k ps _ (hp4.later (bl1 w4 _)) (hp'.later (hB.later (bl1 w4 _)).b) (by omega) (by omega)).mono ?_
            rintro e w5 ⟨rfl, hb5⟩
            replace hB := (hB.later (bl1 w4 (.cells #[.int .i64 a, .int .i64 l, .slice x4 n c4] 26))).later hb5
            clear s0 s1 s2 p0 p1 hb5 hp4
            obtain ⟨s0, s1, s2, p0, p1⟩ := hB.cells
            go_wp2_with fail
            have hBV := hB
            refine (fit_any a l x n k ps z _ (fun _ => hp'.later hBV.b)).mono ?_
            rintro e w6 ⟨rfl, hb6⟩
            replace hB := hBV.later hb6
            clear hb6 hBV s0 s1 s2 p0 p1
            obtain ⟨s0, s1, s2, p0, p1⟩ := hB.cells1
            by_cases hF : fitE a l n ps z = 0
            · have hFI := hFS hF
              rw [hF]
              cases hQ : fitS a l n ps z with
              | none =>
                rw [hQ] at hFI
                simp only [fitV]
                by_cases hmz : m = z
                · exact absurd (show okFit ps a l z c from ⟨hmz ▸ hiff.1, hmz ▸ hiff.2⟩) (hFI c)
                · have hmb : (m == z) = false := by simpa using hmz
                  have hB6 := hB.b.trans ((bl1 w6 (.cells #[.int .i64 0, .int .i64 0] 23)).mono hB.b.size)
                  go_wp2_with (go_at_call 12; refine (begun_is _).mono ?_; rintro e w9 ⟨rfl, hb9⟩)
                  go_ret
                  exact ⟨rfl, hB6.trans (hb9.mono hB6.size)⟩
              | some q =>
                rw [hQ] at hFI
                obtain ⟨⟨hq1, hq2⟩, hq3⟩ := hFI
                have hEq := hCE q z hq1 hq2
                simp only [fitV]
                by_cases hmz : m = z
                · have hmb : (m == z) = true := by simpa using hmz
                  have hqc : ¬ c < q := by have := hq3 c ⟨hmz ▸ hiff.1, hmz ▸ hiff.2⟩; omega
                  go_wp2_with fail
                  have hB7 := hB.later (bl1 w6 (.cells #[.int .i64 q, .int .i64 z] 23))
                  have hq7 : (w6.alloc (.cells #[.int .i64 q, .int .i64 z] 23)).heap[w6.heap.size]? = some (.cells #[.int .i64 q, .int .i64 z] 23) := heap_new _ rfl
                  refine (claim_any a l q z x n k ps _ (fun _ => hp'.later hB7.b) hnc hk63 hx).mono ?_
                  rintro e w8 ⟨hb8, hpost⟩
                  obtain ⟨-, x8, c8, q8, rfl, -⟩ := hpost.resolve_left (fun h => h.1 hEq)
                  have hq8 := (hb8.block _ (Array.getElem?_eq_some_iff.1 hq7).1).trans hq7
                  replace hB := hB7.later hb8
                  clear hb8 hpost hB7 hq7 s0 s1 s2 p0 p1
                  have hq9 := fun o => (box2 (heap_old o hq8)).2.1
                  go_wp2_with fail
                  refine (begun_is _).mono ?_
                  rintro e w9 ⟨rfl, hb9⟩
                  have hB9 := hB.b.trans ((bl1 w8 (.cells #[.int .i64 a, .int .i64 l, .slice x8 (n + 1) c8] 26)).mono hB.b.size)
                  have hq10 := (box2 ((hb9.block _ (Array.getElem?_eq_some_iff.1 (heap_old (.cells #[.int .i64 a, .int .i64 l, .slice x8 (n + 1) c8] 26) hq8)).1).trans (heap_old _ hq8))).2.1
                  clear hq9
                  go_wp2
                  go_ret
                  exact ⟨rfl, hB9.trans (hb9.mono hB9.size)⟩
                · have hmb : (m == z) = false := by simpa using hmz
                  go_wp2_with fail
                  have hB7 := hB.later (bl1 w6 (.cells #[.int .i64 q, .int .i64 z] 23))
                  have hq7 : (w6.alloc (.cells #[.int .i64 q, .int .i64 z] 23)).heap[w6.heap.size]? = some (.cells #[.int .i64 q, .int .i64 z] 23) := heap_new _ rfl
                  refine (claim_any a l q z x n k ps _ (fun _ => hp'.later hB7.b) hnc hk63 hx).mono ?_
                  rintro e w8 ⟨hb8, hpost⟩
                  obtain ⟨-, x8, c8, q8, rfl, -⟩ := hpost.resolve_left (fun h => h.1 hEq)
                  have hq8 := (hb8.block _ (Array.getElem?_eq_some_iff.1 hq7).1).trans hq7
                  replace hB := hB7.later hb8
                  clear hb8 hpost hB7 hq7 s0 s1 s2 p0 p1
                  have hq9 := fun o => (box2 (heap_old o hq8)).2.1
                  go_wp2_with fail
                  refine (begun_is _).mono ?_
                  rintro e w9 ⟨rfl, hb9⟩
                  have hB9 := hB.b.trans ((bl1 w8 (.cells #[.int .i64 a, .int .i64 l, .slice x8 (n + 1) c8] 26)).mono hB.b.size)
                  have hq10 := (box2 ((hb9.block _ (Array.getElem?_eq_some_iff.1 (heap_old (.cells #[.int .i64 a, .int .i64 l, .slice x8 (n + 1) c8] 26) hq8)).1).trans (heap_old _ hq8))).2.1
                  clear hq9
                  go_wp2
                  go_ret
                  exact ⟨rfl, hB9.trans (hb9.mono hB9.size)⟩
            · have hQ0 := hQn hF
              rw [hQ0]
              simp only [fitV]
              have hFb : (fitE a l n ps z != 0) = true := by simpa using hF
              generalize fitE a l n ps z = F at hFb hF
              have hB6 := hB.b.trans ((bl1 w6 (.cells #[.int .i64 0, .int .i64 0] 23)).mono hB.b.size)
              go_wp2_with (go_at_call 12; refine (begun_is _).mono ?_; rintro e w9 ⟨rfl, hb9⟩)
              go_ret
              exact ⟨rfl, hB6.trans (hb9.mono hB6.size)⟩
  · have hb : (chkS a l n ps != 0) = true := by simpa using hv
    generalize chkS a l n ps = v at hh hb hv
    go_enter Try.func5, Try.ntmps5
    go_wp2_with fail
    refine (hh _ (fun h => (hp h).later (S2.start w a l c m x n k).b)).mono ?_
    rintro e w1 ⟨x1, c1, rfl, hb1, hp1⟩
    have hB := (S2.start w a l c m x n k).later hb1
    clear hb1
    obtain ⟨s0, s1, s2, p0, p1⟩ := hB.cells
    go_wp2_with (go_at_call 12; refine (begun_is _).mono ?_; rintro e w9 ⟨rfl, hb9⟩)
    go_ret
    exact ⟨rfl, (hB.b).trans (hb9.mono (hB.b).size)⟩
end Go.Proofs.Ytbnkgecblaffeaa
