/- What Claim and Free of package space come to. -/
import Derived.Test.YtbnkgecblaffeaaM
import Derived.Test.YtbnkgecblaffeaaI
import Derived.Test.YtbnkgecblaffeaaN
import Derived.Test.YtbnkgecblaffeaaY
namespace Go.Proofs.Ytbnkgecblaffeaa
open Go.RowKit Go.Shelf

theorem box3 {V : World} {b : Nat} {t : TypeId} {p q r : Value} (h : V.heap[b]? = some (.cells #[p, q, r] t)) : V.cell? ⟨b, 0, none⟩ = some p ∧ V.cell? ⟨b, 1, none⟩ = some q ∧ V.cell? ⟨b, 2, none⟩ = some r ∧ V.frozen? ⟨b, 0, none⟩ = false ∧ V.frozen? ⟨b, 1, none⟩ = false ∧ V.frozen? ⟨b, 2, none⟩ = false := by
  simp [World.cell?, World.frozen?, h]
theorem below_set3 {w V : World} (h : Below w.heap.size w V) {b : Nat} (hb : w.heap.size ≤ b) (p q r : Value) : Below w.heap.size w (((V.setCell ⟨b, 0, none⟩ p).setCell ⟨b, 1, none⟩ q).setCell ⟨b, 2, none⟩ r) :=
  ((h.setCell (p := ⟨b, 0, none⟩) hb p).setCell (p := ⟨b, 1, none⟩) hb q).setCell (p := ⟨b, 2, none⟩) hb r

theorem PS.set3 {V : World} {x : Option Addr} {n b : Nat} {ps : List (Int × Int)} (h : PS V x n ps) (hb : ∀ q, x = some q → q.block ≠ b) (p q r : Value) : PS (((V.setCell ⟨b, 0, none⟩ p).setCell ⟨b, 1, none⟩ q).setCell ⟨b, 2, none⟩ r) x n ps where
  len := h.len
  cells := fun i hi => by
    obtain ⟨b', o, hx, c0, c1⟩ := h.cells i hi
    have hne : b' ≠ b := hb _ hx
    exact ⟨b', o, hx, by rw [cell_set_ne hne, cell_set_ne hne, cell_set_ne hne]; exact c0, by rw [cell_set_ne hne, cell_set_ne hne, cell_set_ne hne]; exact c1⟩

/-- The boxes of a call with a space and a prefix, and of its answer. -/
structure SB (w w1 : World) (a l c m : Int) (x : Option Addr) (n k : Nat) : Prop where
  s : w1.heap[w.heap.size]? = some (.cells #[.int .i64 a, .int .i64 l, .slice x n k] 26)
  p : w1.heap[w.heap.size + 1]? = some (.cells #[.int .i64 c, .int .i64 m] 23)
  r : w1.heap[w.heap.size + 1 + 1]? = some (.cells #[.int .i64 0, .int .i64 0, .slice none 0 0] 26)
  b : Below w.heap.size w w1
theorem SB.start (w : World) (a l c m : Int) (x : Option Addr) (n k : Nat) : SB w (((w.alloc (.cells #[.int .i64 a, .int .i64 l, .slice x n k] 26)).alloc (.cells #[.int .i64 c, .int .i64 m] 23)).alloc (.cells #[.int .i64 0, .int .i64 0, .slice none 0 0] 26)) a l c m x n k :=
  ⟨heap_old _ (heap_old _ (heap_new _ rfl)), heap_old _ (heap_new _ (by simp)), heap_new _ (by simp), (bl2 w _ _).alloc (by simp; omega) _⟩
theorem SB.later {w w1 w2 : World} {a l c m : Int} {x : Option Addr} {n k : Nat} (h : SB w w1 a l c m x n k) (hb : Below w1.heap.size w1 w2) : SB w w2 a l c m x n k :=
  ⟨(hb.block _ (Array.getElem?_eq_some_iff.1 h.s).1).trans h.s, (hb.block _ (Array.getElem?_eq_some_iff.1 h.p).1).trans h.p, (hb.block _ (Array.getElem?_eq_some_iff.1 h.r).1).trans h.r, h.b.trans (hb.mono h.b.size)⟩

theorem meetsU_is (a l : Int) (x : Option Addr) (n c : Nat) (ps : List (Int × Int)) (t : Bool) (h : mtsAny a l ps = t) (w : World) (hp : PS w x n ps) (hn : n ≤ 64) :
    Calls Try.prog 38 #[.agg #[.int .i64 a, .int .i64 l], .slice x n c] w fun e w' => e = .returned (.bool t) ∧ Below w.heap.size w w' := by
  subst h
  exact meetsU_any a l x n c ps w hp hn

def claimE (a l : Int) (n : Nat) (ps : List (Int × Int)) (c m : Int) : Int :=
  if chkS a l n ps = 0 then (if ins c m a l = false then 3 else if mtsAny c m ps = true then 6 else if n = 32 then 2 else 0) else chkS a l n ps

/-- The prefix stands ahead of the first one that begins behind it. -/
structure PutAt (ps : List (Int × Int)) (c m : Int) (qs : List (Int × Int)) : Prop where
  ex : ∃ i, i ≤ ps.length ∧ (∀ j, j < i → ¬ c < at0 ps j) ∧ (i < ps.length → c < at0 ps i) ∧ qs = ps.take i ++ [(c, m)] ++ ps.drop i

def ClaimPost (a l : Int) (n : Nat) (ps : List (Int × Int)) (c m : Int) (w : World) (e : Ending) (w' : World) : Prop :=
  Below w.heap.size w w' ∧ ((claimE a l n ps c m ≠ 0 ∧ e = .returned (.tuple #[.agg #[.int .i64 0, .int .i64 0, .slice none 0 0], .int .i64 (claimE a l n ps c m)])) ∨
    (claimE a l n ps c m = 0 ∧ ∃ x' c' qs, e = .returned (.tuple #[.agg #[.int .i64 a, .int .i64 l, .slice x' (n + 1) c'], .int .i64 0]) ∧ PutAt ps c m qs ∧ PS w' x' (n + 1) qs ∧ n + 1 ≤ c' ∧ c' ≤ 9223372036854775807 ∧ ∃ b o, x' = some ⟨b, o, none⟩))

set_option maxRecDepth 20000 in
set_option maxHeartbeats 1600000 in
theorem claim_any (a l c m : Int) (x : Option Addr) (n k : Nat) (ps : List (Int × Int)) (w : World) (hp : n ≤ 32 → PS w x n ps) (hnc : n ≤ k) (hk63 : k ≤ 9223372036854775807) (hx : (x = none ∧ k = 0) ∨ (∃ q, x = some q ∧ k = 0) ∨ ∃ b o, x = some ⟨b, o, none⟩) :
    Calls Try.prog 15 #[.agg #[.int .i64 a, .int .i64 l, .slice x n k], .agg #[.int .i64 c, .int .i64 m]] w (ClaimPost a l n ps c m w) := by
  have hck := checkS_any a l x n k ps
  by_cases hv : chkS a l n ps = 0
  · obtain ⟨hn, hr, -⟩ := chkS_ok hv
    have hp' := hp hn
    rw [hv] at hck
    go_enter Try.func15, Try.ntmps15
    go_wp2_with fail
    refine (hck _ (fun _ => hp'.later (SB.start w a l c m x n k).b)).mono ?_
    rintro e w1 ⟨rfl, hb1⟩
    have hS := (SB.start w a l c m x n k).later hb1
    clear hb1
    obtain ⟨s0, s1, s2, -⟩ := box3 hS.s
    obtain ⟨p0, p1, -⟩ := box2 hS.p
    obtain ⟨r0, r1, r2, z0, z1, z2⟩ := box3 hS.r
    cases hI : ins c m a l
    · have hE : claimE a l n ps c m = 3 := by unfold claimE; rw [if_pos hv, if_pos hI]
      go_wp2_with fail
      refine (inside_is _ _ _ _ _ hI _).mono ?_
      rintro e w2 ⟨rfl, hb2⟩
      replace hS := hS.later hb2
      clear hb2
      clear s0 s1 s2 p0 p1 r0 r1 r2 z0 z1 z2
      obtain ⟨s0, s1, s2, -⟩ := box3 hS.s
      obtain ⟨p0, p1, -⟩ := box2 hS.p
      obtain ⟨r0, r1, r2, z0, z1, z2⟩ := box3 hS.r
      go_wp2
      refine bodyPost_ret (v := .tuple #[.agg #[.int .i64 0, .int .i64 0, .slice none 0 0], .int .i64 3]) (by simp [results, Try.results15, go_sem, r0, r1, r2]) rfl ?_
      unfold ClaimPost
      rw [hE]
      exact ⟨below_set3 hS.b (by omega) _ _ _, .inl ⟨by decide, rfl⟩⟩
    · cases hM : mtsAny c m ps
      · by_cases h32 : n = 32
        · have hE : claimE a l n ps c m = 2 := by unfold claimE; rw [if_pos hv, if_neg (by rw [hI]; decide), if_neg (by rw [hM]; decide), if_pos h32]
          have h32b : ((n : Int) == 32) = true := by rw [h32]; rfl
          clear h32
          go_wp2_with fail
          refine (inside_is _ _ _ _ _ hI _).mono ?_
          rintro e w2 ⟨rfl, hb2⟩
          replace hS := hS.later hb2
          clear hb2
          clear s0 s1 s2 p0 p1 r0 r1 r2 z0 z1 z2
          obtain ⟨s0, s1, s2, -⟩ := box3 hS.s
          obtain ⟨p0, p1, -⟩ := box2 hS.p
          obtain ⟨r0, r1, r2, z0, z1, z2⟩ := box3 hS.r
          go_wp2_with fail
          have hpw := hp'.later hS.b
          refine (meetsU_is c m x n k ps _ hM _ hpw (by omega)).mono ?_
          rintro e w3 ⟨rfl, hb3⟩
          replace hS := hS.later hb3
          clear hb3 hpw
          clear s0 s1 s2 p0 p1 r0 r1 r2 z0 z1 z2
          obtain ⟨s0, s1, s2, -⟩ := box3 hS.s
          obtain ⟨p0, p1, -⟩ := box2 hS.p
          obtain ⟨r0, r1, r2, z0, z1, z2⟩ := box3 hS.r
          go_wp2
          refine bodyPost_ret (v := .tuple #[.agg #[.int .i64 0, .int .i64 0, .slice none 0 0], .int .i64 2]) (by simp [results, Try.results15, go_sem, r0, r1, r2]) rfl ?_
          unfold ClaimPost
          rw [hE]
          exact ⟨below_set3 hS.b (by omega) _ _ _, .inl ⟨by decide, rfl⟩⟩
        · have hE : claimE a l n ps c m = 0 := by unfold claimE; rw [if_pos hv, if_neg (by rw [hI]; decide), if_neg (by rw [hM]; decide), if_neg h32]
          have h32b : ((n : Int) == 32) = false := by simp; omega
          go_wp2_with fail
          refine (inside_is _ _ _ _ _ hI _).mono ?_
          rintro e w2 ⟨rfl, hb2⟩
          replace hS := hS.later hb2
          clear hb2
          clear s0 s1 s2 p0 p1 r0 r1 r2 z0 z1 z2
          obtain ⟨s0, s1, s2, -⟩ := box3 hS.s
          obtain ⟨p0, p1, -⟩ := box2 hS.p
          obtain ⟨r0, r1, r2, z0, z1, z2⟩ := box3 hS.r
          go_wp2_with fail
          have hpw := hp'.later hS.b
          refine (meetsU_is c m x n k ps _ hM _ hpw (by omega)).mono ?_
          rintro e w3 ⟨rfl, hb3⟩
          replace hS := hS.later hb3
          clear hb3 hpw
          clear s0 s1 s2 p0 p1 r0 r1 r2 z0 z1 z2
          obtain ⟨s0, s1, s2, -⟩ := box3 hS.s
          obtain ⟨p0, p1, -⟩ := box2 hS.p
          obtain ⟨r0, r1, r2, z0, z1, z2⟩ := box3 hS.r
          go_wp2_with fail
          have hpw := hp'.later hS.b
          go_region_held3 (fun w' => w'.cell? ⟨w.heap.size, 0, none⟩ = some (.int .i64 a) ∧ w'.cell? ⟨w.heap.size, 1, none⟩ = some (.int .i64 l) ∧ w'.cell? ⟨w.heap.size, 2, none⟩ = some (.slice x n k) ∧ w'.cell? ⟨w.heap.size + 1, 0, none⟩ = some (.int .i64 c) ∧ w'.cell? ⟨w.heap.size + 1, 1, none⟩ = some (.int .i64 m)) (first | (go_keep; done) | (exact ⟨cell_later (bl1 _ _) s0, cell_later (bl1 _ _) s1, cell_later (bl1 _ _) s2, cell_later (bl1 _ _) p0, cell_later (bl1 _ _) p1⟩) | (exact ⟨(box3 hS4.s).1, (box3 hS4.s).2.1, (box3 hS4.s).2.2.1, (box2 hS4.p).1, (box2 hS4.p).2.1⟩) | (refine ⟨?_, ?_, ?_, ?_, ?_⟩ <;> ((repeat rw [cell_set_ne (by omega)]); first | exact (box3 hS4.s).1 | exact (box3 hS4.s).2.1 | exact (box3 hS4.s).2.2.1 | exact (box2 hS4.p).1 | exact (box2 hS4.p).2.1))) (first | (go_at_call 39; refine (put_any c m x n k ps w3.heap.size 1 _ (hpw.later (bl1 w3 _).drew) hn hnc hk63 hx (by simp)).mono ?_; rintro e w4 ⟨x', c', rfl, hb4, i, hin, hlow, hup, hps, hfr, hlc, hcm⟩; have hS4 := (hS.later (bl1 w3 (.cells #[.func (.func 40) #[] #[]] 46)).drew).later hb4; obtain ⟨y0, y1, y2, v0, v1, v2⟩ := box3 hS4.r) | fail)
          go_wp2
          refine bodyPost_ret (v := .tuple #[.agg #[.int .i64 a, .int .i64 l, .slice x' (n + 1) c'], .int .i64 0]) (by simp [results, Try.results15, go_sem, y0, y1, y2]) rfl ?_
          unfold ClaimPost
          have hr3 : w.heap.size + 1 + 1 < w3.heap.size := (Array.getElem?_eq_some_iff.1 hS.r).1
          have hpl := hp'.len
          refine ⟨below_set3 hS4.b (by omega) _ _ _, .inr ⟨hE, x', c', _, rfl, ⟨i, by omega, fun j hj => by have := hlow j hj; omega, fun h => hup (by omega), rfl⟩, ?_, hlc, hcm, ?_⟩⟩
          · exact hps.set3 (fun q hq => by have := hfr q hq; have hs : (w3.alloc (.cells #[.func (.func 40) #[] #[]] 46)).drew.heap.size = w3.heap.size + 1 := by simp
                                           omega) _ _ _
          · obtain ⟨b, o, hx', -⟩ := hps.cells 0 (by omega)
            exact ⟨b, o, hx'⟩
      · have hE : claimE a l n ps c m = 6 := by unfold claimE; rw [if_pos hv, if_neg (by rw [hI]; decide), if_pos hM]
        go_wp2_with fail
        refine (inside_is _ _ _ _ _ hI _).mono ?_
        rintro e w2 ⟨rfl, hb2⟩
        replace hS := hS.later hb2
        clear hb2
        clear s0 s1 s2 p0 p1 r0 r1 r2 z0 z1 z2
        obtain ⟨s0, s1, s2, -⟩ := box3 hS.s
        obtain ⟨p0, p1, -⟩ := box2 hS.p
        obtain ⟨r0, r1, r2, z0, z1, z2⟩ := box3 hS.r
        go_wp2_with fail
        have hpw := hp'.later hS.b
        refine (meetsU_is c m x n k ps _ hM _ hpw (by omega)).mono ?_
        rintro e w3 ⟨rfl, hb3⟩
        replace hS := hS.later hb3
        clear hb3 hpw
        clear s0 s1 s2 p0 p1 r0 r1 r2 z0 z1 z2
        obtain ⟨s0, s1, s2, -⟩ := box3 hS.s
        obtain ⟨p0, p1, -⟩ := box2 hS.p
        obtain ⟨r0, r1, r2, z0, z1, z2⟩ := box3 hS.r
        go_wp2
        refine bodyPost_ret (v := .tuple #[.agg #[.int .i64 0, .int .i64 0, .slice none 0 0], .int .i64 6]) (by simp [results, Try.results15, go_sem, r0, r1, r2]) rfl ?_
        unfold ClaimPost
        rw [hE]
        exact ⟨below_set3 hS.b (by omega) _ _ _, .inl ⟨by decide, rfl⟩⟩
  · have hE : claimE a l n ps c m = chkS a l n ps := by unfold claimE; rw [if_neg hv]
    have hb : (chkS a l n ps != 0) = true := by simpa using hv
    generalize chkS a l n ps = v at hck hb hv hE
    go_enter Try.func15, Try.ntmps15
    go_wp2_with fail
    refine (hck _ (fun h => (hp h).later (SB.start w a l c m x n k).b)).mono ?_
    rintro e w1 ⟨rfl, hb1⟩
    have hS := (SB.start w a l c m x n k).later hb1
    clear hb1
    obtain ⟨s0, s1, s2, -⟩ := box3 hS.s
    obtain ⟨p0, p1, -⟩ := box2 hS.p
    obtain ⟨r0, r1, r2, z0, z1, z2⟩ := box3 hS.r
    go_wp2
    refine bodyPost_ret (v := .tuple #[.agg #[.int .i64 0, .int .i64 0, .slice none 0 0], .int .i64 v]) (by simp [results, Try.results15, go_sem, r0, r1, r2]) rfl ?_
    unfold ClaimPost
    rw [hE]
    exact ⟨below_set3 hS.b (by omega) _ _ _, .inl ⟨hv, rfl⟩⟩

def FreePost (a l : Int) (n : Nat) (ps : List (Int × Int)) (c m : Int) (w : World) (e : Ending) (w' : World) : Prop :=
  Below w.heap.size w w' ∧ ((chkS a l n ps ≠ 0 ∧ e = .returned (.tuple #[.agg #[.int .i64 0, .int .i64 0, .slice none 0 0], .int .i64 (chkS a l n ps)])) ∨
    (chkS a l n ps = 0 ∧ (∀ j, j < n → eqAt ps c m j = false) ∧ e = .returned (.tuple #[.agg #[.int .i64 0, .int .i64 0, .slice none 0 0], .int .i64 5])) ∨
    (chkS a l n ps = 0 ∧ ∃ i, i < n ∧ eqAt ps c m i = true ∧ (∀ j, j < i → eqAt ps c m j = false) ∧ ∃ x' c', e = .returned (.tuple #[.agg #[.int .i64 a, .int .i64 l, .slice x' (n - 1) c'], .int .i64 0]) ∧ PS w' x' (n - 1) (ps.take i ++ ps.drop (i + 1))))

set_option maxRecDepth 20000 in
set_option maxHeartbeats 1600000 in
theorem free_any (a l c m : Int) (x : Option Addr) (n k : Nat) (ps : List (Int × Int)) (w : World) (hp : n ≤ 32 → PS w x n ps) (hnc : n ≤ k) (hk63 : k ≤ 9223372036854775807) :
    Calls Try.prog 16 #[.agg #[.int .i64 a, .int .i64 l, .slice x n k], .agg #[.int .i64 c, .int .i64 m]] w (FreePost a l n ps c m w) := by
  have hck := checkS_any a l x n k ps
  by_cases hv : chkS a l n ps = 0
  · obtain ⟨hn, hr, -⟩ := chkS_ok hv
    have hp' := hp hn
    rw [hv] at hck
    go_enter Try.func16, Try.ntmps16
    go_wp2_with fail
    refine (hck _ (fun h => (hp h).later (SB.start w a l c m x n k).b)).mono ?_
    rintro e w1 ⟨rfl, hb1⟩
    have hS := (SB.start w a l c m x n k).later hb1
    clear hb1
    obtain ⟨s0, s1, s2, -⟩ := box3 hS.s
    obtain ⟨p0, p1, -⟩ := box2 hS.p
    obtain ⟨r0, r1, r2, z0, z1, z2⟩ := box3 hS.r
    go_wp2_with fail
    refine (index_any c m x n k ps _ (hp'.later hS.b) (by omega)).mono ?_
    rintro e w2 ⟨⟨r, rfl, hri⟩, hb2⟩
    replace hS := hS.later hb2
    clear hb2
    clear s0 s1 s2 p0 p1 r0 r1 r2 z0 z1 z2
    obtain ⟨s0, s1, s2, -⟩ := box3 hS.s
    obtain ⟨p0, p1, -⟩ := box2 hS.p
    obtain ⟨r0, r1, r2, z0, z1, z2⟩ := box3 hS.r
    rcases hri with ⟨i, hin, heq, hno, rfl⟩ | ⟨hno, rfl⟩
    · have hneg : ¬ ((i : Int) < 0) := by omega
      obtain ⟨b, o, rfl, -, -⟩ := hp'.cells i hin
      by_cases hki : k = i + 1
      · subst hki
        obtain rfl : n = i + 1 := by omega
        have hi1 : ((i : Int)) ≤ (i : Int) + 1 := by omega
        have hi0 : (0 : Int) ≤ (i : Int) + 1 := by omega
        have hi2 : (0 : Int) ≤ (i : Int) := by omega
        have hwr : IntKind.i64.wrap ((i : Int) + 1) = (i : Int) + 1 := by rw [IntKind.wrap_i64]; omega
        have hdr : ps.drop (i + 1) = [] := List.drop_eq_nil_of_le (by rw [hp'.len]; omega)
        go_wp2_with fail
        have hpw := hp'.later hS.b
        go_region_held3 (fun w' => w'.cell? ⟨w.heap.size, 0, none⟩ = some (.int .i64 a) ∧ w'.cell? ⟨w.heap.size, 1, none⟩ = some (.int .i64 l) ∧ w'.cell? ⟨w.heap.size, 2, none⟩ = some (.slice (some ⟨b, o, none⟩) (i + 1) (i + 1))) (first | (go_keep; done) | (exact ⟨cell_later (bl1 _ _) s0, cell_later (bl1 _ _) s1, cell_later (bl1 _ _) s2⟩) | (exact ⟨(box3 hS4.s).1, (box3 hS4.s).2.1, (box3 hS4.s).2.2.1⟩) | (refine ⟨?_, ?_, ?_⟩ <;> ((repeat rw [cell_set_ne (by omega)]); first | exact (box3 hS4.s).1 | exact (box3 hS4.s).2.1 | exact (box3 hS4.s).2.2.1))) (first | (go_at_call 42; refine (concat2 (some ⟨b, o, none⟩) (some ⟨b, o, none⟩) i (i + 1) 0 0 (ps.take i) [] w2 (hpw.take (by omega)) ⟨rfl, fun j hj => by cases hj⟩ (by omega) (by omega) (fun h => by cases h) (fun h => by cases h)).mono ?_; rintro e w4 ⟨x', c', rfl, hb4, hps, hfr, hlc, hcm⟩; have hS4 := hS.later hb4; obtain ⟨y0, y1, y2, v0, v1, v2⟩ := box3 hS4.r) | fail)
        go_wp2
        refine bodyPost_ret (v := .tuple #[.agg #[.int .i64 a, .int .i64 l, .slice x' (i + 1 - 1) c'], .int .i64 0]) (by simp [results, Try.results16, go_sem, y0, y1, y2]) rfl ?_
        unfold FreePost
        have hr3 : w.heap.size + 1 + 1 < w2.heap.size := (Array.getElem?_eq_some_iff.1 hS.r).1
        refine ⟨below_set3 hS4.b (by omega) _ _ _, .inr (.inr ⟨hv, i, hin, heq, fun j hj => hno j hj, x', c', rfl, ?_⟩)⟩
        rw [hdr]
        exact hps.set3 (fun q hq => by have := hfr q hq; omega) _ _ _
      · have hi1 : (i : Int) ≤ (k : Int) := by omega
        have hi3 : (i : Int) + 1 ≤ (n : Int) := by omega
        have hi0 : (0 : Int) ≤ (i : Int) + 1 := by omega
        have hi2 : (0 : Int) ≤ (i : Int) := by omega
        have hwr : IntKind.i64.wrap ((i : Int) + 1) = (i : Int) + 1 := by rw [IntKind.wrap_i64]; omega
        have htn : ((i : Int) + 1).toNat = i + 1 := by omega
        go_wp2_with fail
        have hpw := hp'.later hS.b
        go_region_held3 (fun w' => w'.cell? ⟨w.heap.size, 0, none⟩ = some (.int .i64 a) ∧ w'.cell? ⟨w.heap.size, 1, none⟩ = some (.int .i64 l) ∧ w'.cell? ⟨w.heap.size, 2, none⟩ = some (.slice (some ⟨b, o, none⟩) n k)) (first | (go_keep; done) | (exact ⟨cell_later (bl1 _ _) s0, cell_later (bl1 _ _) s1, cell_later (bl1 _ _) s2⟩) | (exact ⟨(box3 hS4.s).1, (box3 hS4.s).2.1, (box3 hS4.s).2.2.1⟩) | (refine ⟨?_, ?_, ?_⟩ <;> ((repeat rw [cell_set_ne (by omega)]); first | exact (box3 hS4.s).1 | exact (box3 hS4.s).2.1 | exact (box3 hS4.s).2.2.1))) (first | (go_at_call 42; refine (concat2 (some ⟨b, o, none⟩) (some ⟨b, o + (i + 1) * 2, none⟩) i k (n - (i + 1)) (k - (i + 1)) (ps.take i) (ps.drop (i + 1)) w2 (hpw.take (by omega)) (by have := hpw.drop (i := i + 1) (c := k) (by omega) hnc; rwa [if_neg hki] at this) (by omega) (by omega) (fun h => by cases h) (fun h => by cases h)).mono ?_; rintro e w4 ⟨x', c', rfl, hb4, hps, hfr, hlc, hcm⟩; have hS4 := hS.later hb4; obtain ⟨y0, y1, y2, v0, v1, v2⟩ := box3 hS4.r) | fail)
        go_wp2
        have hl : i + (n - (i + 1)) = n - 1 := by omega
        rw [hl] at hps ⊢
        refine bodyPost_ret (v := .tuple #[.agg #[.int .i64 a, .int .i64 l, .slice x' (n - 1) c'], .int .i64 0]) (by simp [results, Try.results16, go_sem, y0, y1, y2]) rfl ?_
        unfold FreePost
        have hr3 : w.heap.size + 1 + 1 < w2.heap.size := (Array.getElem?_eq_some_iff.1 hS.r).1
        refine ⟨below_set3 hS4.b (by omega) _ _ _, .inr (.inr ⟨hv, i, hin, heq, fun j hj => hno j hj, x', c', rfl, ?_⟩)⟩
        exact hps.set3 (fun q hq => by have := hfr q hq; omega) _ _ _
    · go_wp2
      refine bodyPost_ret (v := .tuple #[.agg #[.int .i64 0, .int .i64 0, .slice none 0 0], .int .i64 5]) (by simp [results, Try.results16, go_sem, r0, r1, r2]) rfl ?_
      unfold FreePost
      exact ⟨below_set3 hS.b (by omega) _ _ _, .inr (.inl ⟨hv, hno, rfl⟩)⟩
  · have hb : (chkS a l n ps != 0) = true := by simpa using hv
    obtain ⟨v, hvv⟩ : ∃ v, chkS a l n ps = v := ⟨_, rfl⟩
    rw [hvv] at hck hb hv
    go_enter Try.func16, Try.ntmps16
    go_wp2_with fail
    refine (hck _ (fun h => (hp h).later (SB.start w a l c m x n k).b)).mono ?_
    rintro e w1 ⟨rfl, hb1⟩
    have hS := (SB.start w a l c m x n k).later hb1
    clear hb1
    obtain ⟨s0, s1, s2, -⟩ := box3 hS.s
    obtain ⟨p0, p1, -⟩ := box2 hS.p
    obtain ⟨r0, r1, r2, z0, z1, z2⟩ := box3 hS.r
    go_wp2
    refine bodyPost_ret (v := .tuple #[.agg #[.int .i64 0, .int .i64 0, .slice none 0 0], .int .i64 v]) (by simp [results, Try.results16, go_sem, r0, r1, r2]) rfl ?_
    unfold FreePost
    exact ⟨below_set3 hS.b (by omega) _ _ _, .inl (by rw [hvv]; exact ⟨hv, rfl⟩)⟩
end Go.Proofs.Ytbnkgecblaffeaa
