/- What ClaimOf and FreeOf of package parcelwayref come to. -/
import Derived.Test.YtbnkgecblaffeaaRb
namespace Go.Proofs.Ytbnkgecblaffeaa
open Go.RowKit Go.Shelf

/-- The box of the space that is being laid: it holds these so far, in memory of the call's own. -/
def OutAt (w V : World) (a l : Int) (o : List (Int × Int)) (x : Option Addr) (c : Nat) : Prop :=
  V.heap[w.heap.size]? = some (.cells #[.int .i64 a, .int .i64 l, .slice x o.length c] 26) ∧ V.ownsRow (w.heap.size + 1) 23 2 (.slice x o.length c) o.length (flat o) ∧ Below w.heap.size w V
theorem OutAt.start (w : World) (a l : Int) : OutAt w (w.alloc (.cells #[.int .i64 a, .int .i64 l, .slice none 0 0] 26)) a l [] none 0 :=
  ⟨heap_new _ rfl, World.ownsRow_nil _ _ _ _, bl1 w _⟩
theorem OutAt.later {w V V' : World} {a l : Int} {o : List (Int × Int)} {x : Option Addr} {c : Nat} (h : OutAt w V a l o x c) (hb : Below V.heap.size V V') : OutAt w V' a l o x c :=
  ⟨(hb.block _ (Array.getElem?_eq_some_iff.1 h.1).1).trans h.1, own_row (B := 0) () V V' none h.2.1 (grown_of_below hb) (fun r e => by cases e), h.2.2.trans (hb.mono h.2.2.size)⟩
theorem OutAt.append {w V w5 : World} {a l c m : Int} {o : List (Int × Int)} {x : Option Addr} {k : Nat} {v' : Value} (h : OutAt w V a l o x k)
    (hown : w5.ownsRow (w.heap.size + 1) 23 2 v' (o.length + 1) (flat o ++ [.int .i64 c, .int .i64 m])) (hg : (V.alloc (.cells #[.int .i64 c, .int .i64 m] 23)).grownBy w5 (Value.slice x o.length k).ownBlock) :
    ∃ x' k', v' = .slice x' (o.length + 1) k' ∧ w5.cell? ⟨w.heap.size, 2, none⟩ = some (.slice x o.length k) ∧ w5.frozen? ⟨w.heap.size, 2, none⟩ = false ∧ Below w.heap.size w w5 ∧
      OutAt w (w5.setCell ⟨w.heap.size, 2, none⟩ (.slice x' (o.length + 1) k')) a l (o ++ [(c, m)]) x' k' := by
  have hne : (Value.slice x o.length k).ownBlock ≠ some w.heap.size := fun e => by have := (h.2.1.lt _ e).1; omega
  have hlt : w.heap.size < V.heap.size := (Array.getElem?_eq_some_iff.1 h.1).1
  have e5 : w5.heap[w.heap.size]? = some (.cells #[.int .i64 a, .int .i64 l, .slice x o.length k] 26) := (hg.block _ (by simp; omega) (fun e => hne e.symm)).trans (heap_old _ h.1)
  have hgs := hg.size
  rw [World.size_alloc] at hgs
  have hb5 : Below w.heap.size w w5 := ⟨hg.os.trans h.2.2.os, hg.tape.trans h.2.2.tape, hg.output.trans h.2.2.output, by omega, fun j hj =>
    ((hg.block j (by simp; omega) (fun e => by have := (h.2.1.lt _ e.symm).1; omega)).trans (Below.heap_alloc _ _ _ (by omega))).trans (h.2.2.block j hj)⟩
  have hv : v'.ownBlock ≠ some w.heap.size := fun e => by have := (hown.lt _ e).1; omega
  obtain ⟨x', k', rfl⟩ : ∃ x' k', v' = .slice x' (o.length + 1) k' := by
    rcases hown.2 with ⟨_, h0⟩ | ⟨g, cap, cur, rfl, _⟩
    · omega
    · exact ⟨_, _, rfl⟩
  refine ⟨x', k', rfl, (box3 e5).2.2.1, (box3 e5).2.2.2.2.2, hb5, ?_, ?_, hb5.setCell (p := ⟨w.heap.size, 2, none⟩) (Nat.le_refl _) _⟩
  · have := heap_setCell_same w5 w.heap.size 2 _ _ (.slice x' (o.length + 1) k') e5
    rw [List.length_append, List.length_singleton]
    simpa using this
  · rw [List.length_append, List.length_singleton, flat_append]
    exact ownsRow_setCell_other hown hv _
theorem grown_drew {X Y : World} {r : Option Nat} (h : X.drew.grownBy Y r) : X.grownBy Y r := ⟨h.os, h.tape, h.output, h.size, h.block⟩
theorem OutAt.ps {w V : World} {a l : Int} {o : List (Int × Int)} {x : Option Addr} {c : Nat} (h : OutAt w V a l o x c) : PS V x o.length o ∧ (∀ q, x = some q → w.heap.size + 1 ≤ q.block) := by
  obtain ⟨x', c', e, hps, hfr, _⟩ := PS.of_own h.2.1
  cases e
  exact ⟨hps, fun q hq => (hfr q hq).1⟩

def ClaimPostR (a l : Int) (n : Nat) (ps : List (Int × Int)) (c m : Int) (w : World) (e : Ending) (w' : World) : Prop :=
  Below w.heap.size w w' ∧ ((claimE a l n ps c m ≠ 0 ∧ e = .returned (.tuple #[.agg #[.int .i64 0, .int .i64 0, .slice none 0 0], .int .i64 (claimE a l n ps c m)])) ∨
    (claimE a l n ps c m = 0 ∧ ∃ x' c' qs, e = .returned (.tuple #[.agg #[.int .i64 a, .int .i64 l, .slice x' qs.length c'], .int .i64 0]) ∧ PutAt ps c m qs ∧ PS w' x' qs.length qs))

set_option maxRecDepth 100000 in
set_option maxHeartbeats 1600000 in
theorem claimOf_any (a l c m : Int) (x : Option Addr) (n k : Nat) (ps : List (Int × Int)) (w : World) (hp : n ≤ 32 → PS w x n ps) :
    Calls Try.prog 17 #[.agg #[.int .i64 a, .int .i64 l, .slice x n k], .agg #[.int .i64 c, .int .i64 m]] w (ClaimPostR a l n ps c m w) := by
  obtain ⟨i0, hi, hz0, hz1, hz2⟩ := info_prefix'
  have hck := checkR_any a l x n k ps
  by_cases hv : chkS a l n ps = 0
  · obtain ⟨hn, hr, -⟩ := chkS_ok hv
    have hp' := hp hn
    rw [hv] at hck
    go_enter Try.func17, Try.ntmps17
    go_wp2_with fail
    refine (hck _ (fun h => (hp h).later (SB.start w a l c m x n k).b)).mono ?_
    rintro e w1 ⟨rfl, hb1⟩
    have hS := (SB.start w a l c m x n k).later hb1
    clear hb1
    obtain ⟨s0, s1, s2, -⟩ := box3 hS.s
    obtain ⟨p0, p1, -⟩ := box2 hS.p
    obtain ⟨r0, r1, r2, z0, z1, z2⟩ := box3 hS.r
    cases hI : ins c m a l
    · have hE : claimE a l n ps c m = 3 := by unfold claimE; rw [if_pos hv, if_pos hI]
      go_wp2_with fail
      refine (insideOf_is _ _ _ _ _ hI _).mono ?_
      rintro e w2 ⟨rfl, hb2⟩
      replace hS := hS.later hb2
      clear hb2
      clear s0 s1 s2 p0 p1 r0 r1 r2 z0 z1 z2
      obtain ⟨s0, s1, s2, -⟩ := box3 hS.s
      obtain ⟨p0, p1, -⟩ := box2 hS.p
      obtain ⟨r0, r1, r2, z0, z1, z2⟩ := box3 hS.r
      go_wp2
      refine bodyPost_ret (v := .tuple #[.agg #[.int .i64 0, .int .i64 0, .slice none 0 0], .int .i64 3]) (by simp [results, Try.results17, go_sem, r0, r1, r2]) rfl ?_
      unfold ClaimPostR
      rw [hE]
      exact ⟨below_set3 hS.b (by omega) _ _ _, .inl ⟨by decide, rfl⟩⟩
    · cases hM : mtsAny c m ps
      · by_cases h32 : n = 32
        · have hE : claimE a l n ps c m = 2 := by unfold claimE; rw [if_pos hv, if_neg (by rw [hI]; decide), if_neg (by rw [hM]; decide), if_pos h32]
          have h32b : (32 : Int) ≤ (n : Int) := by omega
          clear h32
          go_wp2_with fail
          refine (insideOf_is _ _ _ _ _ hI _).mono ?_
          rintro e w2 ⟨rfl, hb2⟩
          replace hS := hS.later hb2
          clear hb2
          clear s0 s1 s2 p0 p1 r0 r1 r2 z0 z1 z2
          obtain ⟨s0, s1, s2, -⟩ := box3 hS.s
          obtain ⟨p0, p1, -⟩ := box2 hS.p
          obtain ⟨r0, r1, r2, z0, z1, z2⟩ := box3 hS.r
          go_wp2_with fail
          refine (meetsUsed_is a l c m x n k ps _ hM _ (hp'.later hS.b) (by omega)).mono ?_
          rintro e w3 ⟨rfl, hb3⟩
          replace hS := hS.later hb3
          clear hb3
          clear s0 s1 s2 p0 p1 r0 r1 r2 z0 z1 z2
          obtain ⟨s0, s1, s2, -⟩ := box3 hS.s
          obtain ⟨p0, p1, -⟩ := box2 hS.p
          obtain ⟨r0, r1, r2, z0, z1, z2⟩ := box3 hS.r
          go_wp2
          refine bodyPost_ret (v := .tuple #[.agg #[.int .i64 0, .int .i64 0, .slice none 0 0], .int .i64 2]) (by simp [results, Try.results17, go_sem, r0, r1, r2]) rfl ?_
          unfold ClaimPostR
          rw [hE]
          exact ⟨below_set3 hS.b (by omega) _ _ _, .inl ⟨by decide, rfl⟩⟩
        · have hE : claimE a l n ps c m = 0 := by unfold claimE; rw [if_pos hv, if_neg (by rw [hI]; decide), if_neg (by rw [hM]; decide), if_neg h32]
          have h32b : ¬ (32 : Int) ≤ (n : Int) := by omega
          go_wp2_with fail
          refine (insideOf_is _ _ _ _ _ hI _).mono ?_
          rintro e w2 ⟨rfl, hb2⟩
          replace hS := hS.later hb2
          clear hb2
          clear s0 s1 s2 p0 p1 r0 r1 r2 z0 z1 z2
          obtain ⟨s0, s1, s2, -⟩ := box3 hS.s
          obtain ⟨p0, p1, -⟩ := box2 hS.p
          obtain ⟨r0, r1, r2, z0, z1, z2⟩ := box3 hS.r
          go_wp2_with fail
          refine (meetsUsed_is a l c m x n k ps _ hM _ (hp'.later hS.b) (by omega)).mono ?_
          rintro e w3 ⟨rfl, hb3⟩
          replace hS := hS.later hb3
          clear hb3
          clear s0 s1 s2 p0 p1 r0 r1 r2 z0 z1 z2
          obtain ⟨s0, s1, s2, -⟩ := box3 hS.s
          obtain ⟨p0, p1, -⟩ := box2 hS.p
          obtain ⟨r0, r1, r2, z0, z1, z2⟩ := box3 hS.r
          have hsr : w.heap.size + 1 + 1 < w3.heap.size := (Array.getElem?_eq_some_iff.1 hS.r).1
          go_wp2
          go_loopw [9, 8] (fun i t wr => ∃ (q : Nat) (d : Bool) (o : List (Int × Int)) (xo : Option Addr) (co : Nat), q ≤ n ∧ i = .int .i64 q ∧ t = .bool d ∧ clDone ps c m q d o ∧ OutAt w3 wr a l o xo co) (fun i _ _ => n - (intOf i).toNat)
          case atStart => exact ⟨0, false, [], none, 0, by omega, rfl, rfl, clDone_start ps c m, OutAt.start w3 a l⟩
          case round =>
            obtain ⟨q, d, o, xo, co, hq, rfl, rfl, hcl, hO⟩ := hrel
            have hol := clDone_len hcl
            have hpl := hp'.len
            have hSr := hS.later hO.2.2
            clear s0 s1 s2 p0 p1 r0 r1 r2 z0 z1 z2
            obtain ⟨s0, s1, s2, -⟩ := box3 hSr.s
            obtain ⟨p0, p1, -⟩ := box2 hSr.p
            obtain ⟨r0, r1, r2, z0, z1, z2⟩ := box3 hSr.r
            obtain ⟨o0, o1, o2, y0, y1, y2⟩ := box3 hO.1
            by_cases hlt : q < n
            · obtain ⟨b, of, rfl, c0, c1⟩ := (hp'.later hSr.b).cells q hlt
              have hlt' := hlt
              have g0 := Ws.here c0
              have g1 := Ws.here s2
              have g2 := Ws.here p0
              cases d
              · by_cases hcc : c < at0 ps q
                · go_upto_region 15 with fail
                  refine wp_region_ws wr.heap.size (by kernel_rfl) (by kernel_rfl) ?_
                  repeat (go_big_quiet_step (fail))
                  refine wpQuiet_nil ?_
                  rintro _ ⟨u, rfl⟩
                  have hu : Below wr.heap.size wr u.val := u.property
                  generalize u.val = wu at hu ⊢
                  clear u g0 g1 g2
                  replace hO := hO.later hu
                  have hSu := hSr.later hu
                  replace c0 := cell_later hu c0
                  replace c1 := cell_later hu c1
                  clear s0 s1 s2 p0 p1 r0 r1 r2 z0 z1 z2 o0 o1 o2 y0 y1 y2 hSr hu
                  obtain ⟨p0, p1, -, -⟩ := box2 hSu.p
                  obtain ⟨-, -, o2, -, -, y2⟩ := box3 hO.1
                  have hwu := hO.2.2.size
                  go_wp2_with (at_builtin; refine Hid.out ?_)
                  unfold Hid
                  refine wpList_append_own _ rfl _ _ 24 rfl (w3.heap.size + 1) 23 i0 (.agg #[.int .i64 0, .int .i64 0]) 2 16 under_prefixes hi hz0 hz1 hz2 rfl (by decide) _ _ _ rfl (hO.2.1.alloc _) ⟨wu.heap.size, 0, none⟩ 1 1 [.int .i64 c, .int .i64 m] rfl rfl ?_ (by simp [Value.oneCell']) (by unfold maxLen; omega) (by omega) (by have := (Array.getElem?_eq_some_iff.1 hO.1).1; simp; omega) ?_
                  · intro j u hj
                    rcases j with _ | _ | j
                    · simp at hj; subst hj; simp [Addr.add]
                    · simp at hj; subst hj; simp [Addr.add]
                    · simp at hj
                  · intro v' w6 hown' hgrow _
                    obtain ⟨x6, c6, rfl, f6, y6, hb6, hO6⟩ := OutAt.append hO hown' hgrow
                    have hSu6 := hS.later hO6.2.2
                    have hpq6 := (hp'.later hSu6.b)
                    clear hO c0 c1 o2 y2 p0 p1 hSu
                    go_upto_region 18 with fail
                    obtain ⟨o7, ho7⟩ : ∃ o7, o7 = o ++ [(c, m)] := ⟨_, rfl⟩
                    have hol7 : o7.length ≤ q + 1 + 1 := by rw [ho7]; simp; omega
                    rw [← ho7] at hO6
                    have ho8 : Hid (o7 = o ++ [(c, m)]) := ho7
                    clear ho7
                    generalize w6.setCell ⟨w3.heap.size, 2, none⟩ (.slice x6 (o.length + 1) c6) = w7 at hO6 hSu6 hpq6 ⊢
                    clear f6 y6 hb6 hown' hgrow
                    obtain ⟨b7, of7, hx7, c0, c1⟩ := hpq6.cells q hlt'
                    cases hx7
                    obtain ⟨-, -, s2, -⟩ := box3 hSu6.s
                    obtain ⟨-, -, o2, -, -, y2⟩ := box3 hO6.1
                    have k2 : ∀ e, (w7.alloc e).cell? ⟨w3.heap.size, 2, none⟩ = some (.slice x6 o7.length c6) := fun e => cell_later (bl1 w7 e) o2
                    go_region_law (refine step_append_own rfl (.tmp 64) (.tmp 70) 24 rfl (w3.heap.size + 1) 23 i0 (.agg #[.int .i64 0, .int .i64 0]) 2 16 under_prefixes hi hz0 hz1 hz2 rfl (by decide) (.slice x6 o7.length c6) o7.length (flat o7) rfl (hO6.2.1.alloc _) ⟨w7.heap.size, 0, none⟩ 1 1 [.int .i64 (at0 ps q), .int .i64 (at1 ps q)] rfl rfl ?_ (by simp [Value.oneCell']) (by unfold maxLen; omega) (by omega) (by have := hO6.2.2.size; simp; omega) ?_; (intro j u hj; rcases j with _ | _ | j <;> simp at hj <;> subst hj <;> simp [Addr.add]); intro v' w5 hown' hgrow; obtain ⟨x5, c5, rfl, f5, y5, hb5, hO5⟩ := OutAt.append hO6 hown' (grown_drew hgrow))
                    all_goals go_wp2
                    all_goals go_roundw
                    all_goals first | exact ⟨q + 1, true, _, x5, c5, hlt', by go_num, rfl, (by rw [ho8.out]; exact clDone_put (by omega) hcl hcc), hO5⟩ | (simp [intOf]; omega)
                · go_upto_region 15 with fail
                  refine wp_region_ws wr.heap.size (by kernel_rfl) (by kernel_rfl) ?_
                  repeat (go_big_quiet_step (fail))
                  refine wpQuiet_nil ?_
                  rintro _ ⟨u, rfl⟩
                  have hu : Below wr.heap.size wr u.val := u.property
                  generalize u.val = wu at hu ⊢
                  clear u g0 g1 g2
                  replace hO := hO.later hu
                  have hSu := hSr.later hu
                  replace c0 := cell_later hu c0
                  replace c1 := cell_later hu c1
                  clear s0 s1 s2 p0 p1 r0 r1 r2 z0 z1 z2 o0 o1 o2 y0 y1 y2 hSr hu
                  obtain ⟨-, -, s2, -⟩ := box3 hSu.s
                  obtain ⟨-, -, o2, -, -, y2⟩ := box3 hO.1
                  have k2 : ∀ e, (wu.alloc e).cell? ⟨w3.heap.size, 2, none⟩ = some (.slice xo o.length co) := fun e => cell_later (bl1 wu e) o2
                  go_upto_region 18 with fail
                  go_region_law (refine step_append_own rfl (.tmp 64) (.tmp 70) 24 rfl (w3.heap.size + 1) 23 i0 (.agg #[.int .i64 0, .int .i64 0]) 2 16 under_prefixes hi hz0 hz1 hz2 rfl (by decide) (.slice xo o.length co) o.length (flat o) rfl (hO.2.1.alloc _) ⟨wu.heap.size, 0, none⟩ 1 1 [.int .i64 (at0 ps q), .int .i64 (at1 ps q)] rfl rfl ?_ (by simp [Value.oneCell']) (by unfold maxLen; omega) (by omega) (by have := hO.2.2.size; simp; omega) ?_; (intro j u hj; rcases j with _ | _ | j <;> simp at hj <;> subst hj <;> simp [Addr.add]); intro v' w5 hown' hgrow; obtain ⟨x5, c5, rfl, f5, y5, hb5, hO5⟩ := OutAt.append hO hown' (grown_drew hgrow))
                  all_goals go_wp2
                  all_goals go_roundw
                  all_goals first | exact ⟨q + 1, false, _, x5, c5, hlt', by go_num, rfl, clDone_skip (by omega) hcl hcc, hO5⟩ | (simp [intOf]; omega)
              · go_upto_region 15 with fail
                refine wp_region_ws wr.heap.size (by kernel_rfl) (by kernel_rfl) ?_
                repeat (go_big_quiet_step (fail))
                refine wpQuiet_nil ?_
                rintro _ ⟨u, rfl⟩
                have hu : Below wr.heap.size wr u.val := u.property
                generalize u.val = wu at hu ⊢
                clear u g0 g1 g2
                replace hO := hO.later hu
                have hSu := hSr.later hu
                replace c0 := cell_later hu c0
                replace c1 := cell_later hu c1
                clear s0 s1 s2 p0 p1 r0 r1 r2 z0 z1 z2 o0 o1 o2 y0 y1 y2 hSr hu
                obtain ⟨-, -, s2, -⟩ := box3 hSu.s
                obtain ⟨-, -, o2, -, -, y2⟩ := box3 hO.1
                have k2 : ∀ e, (wu.alloc e).cell? ⟨w3.heap.size, 2, none⟩ = some (.slice xo o.length co) := fun e => cell_later (bl1 wu e) o2
                go_upto_region 18 with fail
                go_region_law (refine step_append_own rfl (.tmp 64) (.tmp 70) 24 rfl (w3.heap.size + 1) 23 i0 (.agg #[.int .i64 0, .int .i64 0]) 2 16 under_prefixes hi hz0 hz1 hz2 rfl (by decide) (.slice xo o.length co) o.length (flat o) rfl (hO.2.1.alloc _) ⟨wu.heap.size, 0, none⟩ 1 1 [.int .i64 (at0 ps q), .int .i64 (at1 ps q)] rfl rfl ?_ (by simp [Value.oneCell']) (by unfold maxLen; omega) (by omega) (by have := hO.2.2.size; simp; omega) ?_; (intro j u hj; rcases j with _ | _ | j <;> simp at hj <;> subst hj <;> simp [Addr.add]); intro v' w5 hown' hgrow; obtain ⟨x5, c5, rfl, f5, y5, hb5, hO5⟩ := OutAt.append hO hown' (grown_drew hgrow))
                all_goals go_wp2
                all_goals go_roundw
                all_goals first | exact ⟨q + 1, true, _, x5, c5, hlt', by go_num, rfl, clDone_more (by omega) hcl, hO5⟩ | (simp [intOf]; omega)
            · obtain rfl : q = n := by omega
              have hend := clDone_end (by rw [hpl]; exact hcl)
              have hE' := hE
              cases d
              · go_wp2_with (at_builtin; refine Hid.out ?_)
                unfold Hid
                refine wpList_append_own _ rfl _ _ 24 rfl (w3.heap.size + 1) 23 i0 (.agg #[.int .i64 0, .int .i64 0]) 2 16 under_prefixes hi hz0 hz1 hz2 rfl (by decide) _ _ _ rfl (hO.2.1.alloc _) ⟨wr.heap.size, 0, none⟩ 1 1 [.int .i64 c, .int .i64 m] rfl rfl ?_ (by simp [Value.oneCell']) (by unfold maxLen; omega) (by omega) (by have := (Array.getElem?_eq_some_iff.1 hO.1).1; simp; omega) ?_
                · intro j u hj
                  rcases j with _ | _ | j
                  · simp at hj; subst hj; simp [Addr.add]
                  · simp at hj; subst hj; simp [Addr.add]
                  · simp at hj
                · intro v' w6 hown' hgrow _
                  obtain ⟨x6, c6, rfl, f6, y6, hb6, hO6⟩ := OutAt.append hO hown' hgrow
                  have hS6 := hS.later hO6.2.2
                  clear hO s0 s1 s2 p0 p1 r0 r1 r2 z0 z1 z2 o0 o1 o2 y0 y1 y2
                  go_upto_region 21 with fail
                  rw [show o.length + 1 = (o ++ [(c, m)]).length by simp] at hO6 hS6 ⊢
                  generalize w6.setCell ⟨w3.heap.size, 2, none⟩ (.slice x6 (o ++ [(c, m)]).length c6) = w7 at hO6 hS6 ⊢
                  replace hend : PutAt ps c m (o ++ [(c, m)]) := hend
                  generalize o ++ [(c, m)] = o7 at hend hO6 ⊢
                  obtain ⟨hp7, hf7⟩ := OutAt.ps hO6
                  obtain ⟨u0, u1, u2, -⟩ := box3 hO6.1
                  obtain ⟨r0, r1, r2, z0, z1, z2⟩ := box3 hS6.r
                  go_wp2
                  refine bodyPost_ret (v := .tuple #[.agg #[.int .i64 a, .int .i64 l, .slice x6 o7.length c6], .int .i64 0]) (by simp [results, Try.results17, go_sem, r0, r1, r2]) rfl ?_
                  unfold ClaimPostR
                  refine ⟨below_set3 hS6.b (by omega) _ _ _, .inr ⟨hE', x6, c6, o7, rfl, hend, ?_⟩⟩
                  exact hp7.set3 (fun q hq => by have := hf7 q hq; omega) _ _ _
              · replace hend : PutAt ps c m o := hend
                go_upto_region 21 with fail
                obtain ⟨hp7, hf7⟩ := OutAt.ps hO
                obtain ⟨u0, u1, u2, -⟩ := box3 hO.1
                clear s0 s1 s2 p0 p1 r0 r1 r2 z0 z1 z2 o0 o1 o2 y0 y1 y2
                obtain ⟨r0, r1, r2, z0, z1, z2⟩ := box3 hSr.r
                go_wp2
                refine bodyPost_ret (v := .tuple #[.agg #[.int .i64 a, .int .i64 l, .slice xo o.length co], .int .i64 0]) (by simp [results, Try.results17, go_sem, r0, r1, r2]) rfl ?_
                unfold ClaimPostR
                refine ⟨below_set3 hSr.b (by omega) _ _ _, .inr ⟨hE', xo, co, o, rfl, hend, ?_⟩⟩
                exact hp7.set3 (fun q hq => by have := hf7 q hq; omega) _ _ _
      · have hE : claimE a l n ps c m = 6 := by unfold claimE; rw [if_pos hv, if_neg (by rw [hI]; decide), if_pos hM]
        go_wp2_with fail
        refine (insideOf_is _ _ _ _ _ hI _).mono ?_
        rintro e w2 ⟨rfl, hb2⟩
        replace hS := hS.later hb2
        clear hb2
        clear s0 s1 s2 p0 p1 r0 r1 r2 z0 z1 z2
        obtain ⟨s0, s1, s2, -⟩ := box3 hS.s
        obtain ⟨p0, p1, -⟩ := box2 hS.p
        obtain ⟨r0, r1, r2, z0, z1, z2⟩ := box3 hS.r
        go_wp2_with fail
        refine (meetsUsed_is a l c m x n k ps _ hM _ (hp'.later hS.b) (by omega)).mono ?_
        rintro e w3 ⟨rfl, hb3⟩
        replace hS := hS.later hb3
        clear hb3
        clear s0 s1 s2 p0 p1 r0 r1 r2 z0 z1 z2
        obtain ⟨s0, s1, s2, -⟩ := box3 hS.s
        obtain ⟨p0, p1, -⟩ := box2 hS.p
        obtain ⟨r0, r1, r2, z0, z1, z2⟩ := box3 hS.r
        go_wp2
        refine bodyPost_ret (v := .tuple #[.agg #[.int .i64 0, .int .i64 0, .slice none 0 0], .int .i64 6]) (by simp [results, Try.results17, go_sem, r0, r1, r2]) rfl ?_
        unfold ClaimPostR
        rw [hE]
        exact ⟨below_set3 hS.b (by omega) _ _ _, .inl ⟨by decide, rfl⟩⟩
  · have hE : claimE a l n ps c m = chkS a l n ps := by unfold claimE; rw [if_neg hv]
    have hb : (chkS a l n ps != 0) = true := by simpa using hv
    generalize chkS a l n ps = v at hck hb hv hE
    go_enter Try.func17, Try.ntmps17
    go_wp2_with fail
    refine (hck _ (fun h => (hp h).later (SB.start w a l c m x n k).b)).mono ?_
    rintro e w1 ⟨rfl, hb1⟩
    have hS := (SB.start w a l c m x n k).later hb1
    clear hb1
    obtain ⟨s0, s1, s2, -⟩ := box3 hS.s
    obtain ⟨p0, p1, -⟩ := box2 hS.p
    obtain ⟨r0, r1, r2, z0, z1, z2⟩ := box3 hS.r
    go_wp2
    refine bodyPost_ret (v := .tuple #[.agg #[.int .i64 0, .int .i64 0, .slice none 0 0], .int .i64 v]) (by simp [results, Try.results17, go_sem, r0, r1, r2]) rfl ?_
    unfold ClaimPostR
    rw [hE]
    exact ⟨below_set3 hS.b (by omega) _ _ _, .inl ⟨hv, rfl⟩⟩
end Go.Proofs.Ytbnkgecblaffeaa
