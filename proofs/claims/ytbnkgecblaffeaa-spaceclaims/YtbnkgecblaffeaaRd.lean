/- What FreeOf of package parcelwayref comes to. -/
import Derived.Test.YtbnkgecblaffeaaRc
namespace Go.Proofs.Ytbnkgecblaffeaa
open Go.RowKit Go.Shelf

def keepP (c m : Int) (u : Int × Int) : Bool := !(decide (u.1 = c) && decide (u.2 = m))
/-- The first k but that one. -/
def flt (ps : List (Int × Int)) (c m : Int) (k : Nat) : List (Int × Int) := (ps.take k).filter (keepP c m)
theorem flt_yes {ps : List (Int × Int)} {c m : Int} {k : Nat} (hk : k < ps.length) (h : (!(decide (at0 ps k = c) && decide (at1 ps k = m))) = true) : flt ps c m (k + 1) = flt ps c m k ++ [(at0 ps k, at1 ps k)] := by
  unfold flt
  rw [take_next hk, List.filter_append, List.filter_cons_of_pos (by exact h)]
  rfl
theorem flt_no {ps : List (Int × Int)} {c m : Int} {k : Nat} (hk : k < ps.length) (h : (!(decide (at0 ps k = c) && decide (at1 ps k = m))) = false) : flt ps c m (k + 1) = flt ps c m k := by
  unfold flt
  rw [take_next hk, List.filter_append, List.filter_cons_of_neg (by unfold keepP; rw [h]; decide)]
  simp
theorem flt_len (ps : List (Int × Int)) (c m : Int) (k : Nat) : (flt ps c m k).length ≤ k := by
  unfold flt
  refine Nat.le_trans (List.length_filter_le _ _) ?_
  rw [List.length_take]
  omega
theorem eqAt_keep {ps : List (Int × Int)} {c m : Int} {j : Nat} (hj : j < ps.length) : eqAt ps c m j = !(keepP c m ps[j]) := by
  unfold eqAt keepP
  rw [at0_get hj, at1_get hj, Bool.not_not, Bool.eq_iff_iff]
  simp only [Bool.and_eq_true, decide_eq_true_eq]
  constructor <;> (rintro ⟨h1, h2⟩; exact ⟨h1.symm, h2.symm⟩)
theorem flt_all {ps : List (Int × Int)} {c m : Int} (h : ∀ j, j < ps.length → eqAt ps c m j = false) : flt ps c m ps.length = ps := by
  unfold flt
  rw [List.take_length, List.filter_eq_self]
  intro u hu
  obtain ⟨j, hj, rfl⟩ := List.getElem_of_mem hu
  have := h j hj
  rw [eqAt_keep hj] at this
  simpa using this
theorem flt_one {ps : List (Int × Int)} {a l c m : Int} {i : Nat} (hU : Used ps a l) (hi : i < ps.length) (h : eqAt ps c m i = true) : flt ps c m ps.length = ps.take i ++ ps.drop (i + 1) := by
  have hpi : ps[i] = (c, m) := by
    unfold eqAt at h
    rw [at0_get hi, at1_get hi] at h
    simp only [Bool.and_eq_true, decide_eq_true_eq] at h
    exact Prod.ext h.1.symm h.2.symm
  have hps : ps = ps.take i ++ ps[i] :: ps.drop (i + 1) := by simp
  have hne : ∀ j (hj : j < ps.length), j ≠ i → keepP c m ps[j] = true := fun j hj hji => by
    have h1 : ps[j].1 ≠ c := fun e => by
      have hc : ps[i].1 = c := by rw [hpi]
      rcases Nat.lt_or_gt_of_ne hji with h2 | h2
      · have := List.pairwise_iff_getElem.1 hU.rise j i hj hi h2
        have := sp_pos ps[j].2
        omega
      · have := List.pairwise_iff_getElem.1 hU.rise i j hi hj h2
        have := sp_pos ps[i].2
        omega
    unfold keepP
    simp [h1]
  unfold flt
  rw [List.take_length]
  conv => lhs; rw [hps]
  rw [List.filter_append, List.filter_cons_of_neg (by rw [hpi]; simp [keepP])]
  congr 1
  · rw [List.filter_eq_self]
    intro u hu
    obtain ⟨j, hj, rfl⟩ := List.getElem_of_mem hu
    rw [List.length_take] at hj
    rw [List.getElem_take]
    exact hne j (by omega) (by omega)
  · rw [List.filter_eq_self]
    intro u hu
    obtain ⟨j, hj, rfl⟩ := List.getElem_of_mem hu
    rw [List.length_drop] at hj
    rw [List.getElem_drop]
    exact hne (i + 1 + j) (by omega) (by omega)

def FreePostR (a l : Int) (n : Nat) (ps : List (Int × Int)) (c m : Int) (w : World) (e : Ending) (w' : World) : Prop :=
  Below w.heap.size w w' ∧ ((chkS a l n ps ≠ 0 ∧ e = .returned (.tuple #[.agg #[.int .i64 0, .int .i64 0, .slice none 0 0], .int .i64 (chkS a l n ps)])) ∨
    (chkS a l n ps = 0 ∧ (flt ps c m n).length = n ∧ e = .returned (.tuple #[.agg #[.int .i64 0, .int .i64 0, .slice none 0 0], .int .i64 5])) ∨
    (chkS a l n ps = 0 ∧ (flt ps c m n).length ≠ n ∧ ∃ x' c', e = .returned (.tuple #[.agg #[.int .i64 a, .int .i64 l, .slice x' (flt ps c m n).length c'], .int .i64 0]) ∧ PS w' x' (flt ps c m n).length (flt ps c m n)))

set_option maxRecDepth 100000 in
set_option maxHeartbeats 1600000 in
theorem freeOf_any (a l c m : Int) (x : Option Addr) (n k : Nat) (ps : List (Int × Int)) (w : World) (hp : n ≤ 32 → PS w x n ps) :
    Calls Try.prog 18 #[.agg #[.int .i64 a, .int .i64 l, .slice x n k], .agg #[.int .i64 c, .int .i64 m]] w (FreePostR a l n ps c m w) := by
  obtain ⟨i0, hi, hz0, hz1, hz2⟩ := info_prefix'
  have hck := checkR_any a l x n k ps
  by_cases hv : chkS a l n ps = 0
  · obtain ⟨hn, hr, -⟩ := chkS_ok hv
    have hp' := hp hn
    rw [hv] at hck
    go_enter Try.func18, Try.ntmps18
    go_wp2_with fail
    refine (hck _ (fun h => (hp h).later (SB.start w a l c m x n k).b)).mono ?_
    rintro e w1 ⟨rfl, hb1⟩
    have hS := (SB.start w a l c m x n k).later hb1
    clear hb1
    obtain ⟨s0, s1, s2, -⟩ := box3 hS.s
    obtain ⟨p0, p1, -⟩ := box2 hS.p
    obtain ⟨r0, r1, r2, z0, z1, z2⟩ := box3 hS.r
    have hsr : w.heap.size + 1 + 1 < w1.heap.size := (Array.getElem?_eq_some_iff.1 hS.r).1
    go_wp2
    go_loopw [8] (fun i wr => ∃ (q : Nat) (o : List (Int × Int)) (xo : Option Addr) (co : Nat), q ≤ n ∧ i = .int .i64 q ∧ Hid (o = flt ps c m q) ∧ OutAt w1 wr a l o xo co) (fun i _ => n - (intOf i).toNat)
    case atStart => exact ⟨0, [], none, 0, by omega, rfl, rfl, OutAt.start w1 a l⟩
    case round =>
      obtain ⟨q, o, xo, co, hq, rfl, ho, hO⟩ := hrel
      have hol : o.length ≤ q := by rw [ho.out]; exact flt_len ps c m q
      have hpl := hp'.len
      have hSr := hS.later hO.2.2
      clear s0 s1 s2 p0 p1 r0 r1 r2 z0 z1 z2
      obtain ⟨s0, s1, s2, -⟩ := box3 hSr.s
      obtain ⟨p0, p1, -⟩ := box2 hSr.p
      obtain ⟨r0, r1, r2, z0, z1, z2⟩ := box3 hSr.r
      obtain ⟨o0, o1, o2, y0, y1, y2⟩ := box3 hO.1
      by_cases hlt : q < n
      · obtain ⟨b, of, rfl, c0, c1⟩ := (hp'.later hSr.b).cells q hlt
        have hlt' := hlt
        have g0 := Ws.here c0
        have g1 := Ws.here c1
        have g2 := Ws.here s2
        have g3 := Ws.here p0
        have g4 := Ws.here p1
        go_upto_region 8 with fail
        refine wp_region_ws wr.heap.size (by kernel_rfl) (by kernel_rfl) ?_
        repeat (go_big_quiet_step (fail))
        refine quiet_neq _ _ _ (at0 ps q) (at1 ps q) c m rfl rfl rfl rfl ?_
        refine wpQuiet_nil ?_
        rintro _ ⟨u, rfl⟩
        have hu : Below wr.heap.size wr u.val := u.property
        generalize u.val = wu at hu ⊢
        clear u g0 g1 g2 g3 g4
        replace hO := hO.later hu
        have hSu := hSr.later hu
        replace c0 := cell_later hu c0
        replace c1 := cell_later hu c1
        clear s0 s1 s2 p0 p1 r0 r1 r2 z0 z1 z2 o0 o1 o2 y0 y1 y2 hSr hu
        cases hk : (!(decide (at0 ps q = c) && decide (at1 ps q = m)))
        · have hf := flt_no (by omega) hk
          go_wp2
          go_roundw
          case rel => exact ⟨q + 1, o, xo, co, hlt', by go_num, (by rw [hf]; exact ho), hO⟩
          case measure => simp [intOf]; omega
        · have hf : Hid (flt ps c m (q + 1) = flt ps c m q ++ [(at0 ps q, at1 ps q)]) := flt_yes (by omega) hk
          obtain ⟨-, -, s2, -⟩ := box3 hSu.s
          obtain ⟨-, -, o2, -, -, y2⟩ := box3 hO.1
          have k2 : ∀ e, (wu.alloc e).cell? ⟨w1.heap.size, 2, none⟩ = some (.slice xo o.length co) := fun e => cell_later (bl1 wu e) o2
          clear hk
          go_upto_region 9 with fail
          go_region_law (refine step_append_own rfl (.tmp 33) (.tmp 39) 24 rfl (w1.heap.size + 1) 23 i0 (.agg #[.int .i64 0, .int .i64 0]) 2 16 under_prefixes hi hz0 hz1 hz2 rfl (by decide) (.slice xo o.length co) o.length (flat o) rfl (hO.2.1.alloc _) ⟨wu.heap.size, 0, none⟩ 1 1 [.int .i64 (at0 ps q), .int .i64 (at1 ps q)] rfl rfl ?_ (by simp [Value.oneCell']) (by unfold maxLen; omega) (by omega) (by have := (Array.getElem?_eq_some_iff.1 hO.1).1; simp; omega) ?_; (intro j u hj; rcases j with _ | _ | j <;> simp at hj <;> subst hj <;> simp [Addr.add]); intro v' w5 hown' hgrow; obtain ⟨x5, c5, rfl, f5, y5, hb5, hO5⟩ := OutAt.append hO hown' (grown_drew hgrow))
          all_goals go_wp2
          all_goals go_roundw
          all_goals first | exact ⟨q + 1, _, x5, c5, hlt', by go_num, (by rw [hf.out, ← ho.out]; rfl), hO5⟩ | (simp [intOf]; omega)
      · obtain rfl : q = n := by omega
        have hfl : (flt ps c m q).length = o.length := by rw [ho.out]
        by_cases hln : o.length = q
        · have hlb : ((o.length : Int) == (q : Int)) = true := by rw [hln]; exact beq_self_eq_true _
          have hln' : Hid (o.length = q) := hln
          clear hln hfl
          go_wp2
          refine bodyPost_ret (v := .tuple #[.agg #[.int .i64 0, .int .i64 0, .slice none 0 0], .int .i64 5]) (by simp [results, Try.results18, go_sem, r0, r1, r2]) rfl ?_
          unfold FreePostR
          exact ⟨below_set3 hSr.b (by omega) _ _ _, .inr (.inl ⟨hv, by rw [← ho.out]; exact hln'.out, rfl⟩)⟩
        · have hlb : ((o.length : Int) == (q : Int)) = false := by simp; omega
          have hln' : Hid (o.length ≠ q) := hln
          clear hln hfl
          obtain ⟨hp7, hf7⟩ := OutAt.ps hO
          go_wp2
          refine bodyPost_ret (v := .tuple #[.agg #[.int .i64 a, .int .i64 l, .slice xo o.length co], .int .i64 0]) (by simp [results, Try.results18, go_sem, r0, r1, r2]) rfl ?_
          unfold FreePostR
          rw [← ho.out]
          refine ⟨below_set3 hSr.b (by omega) _ _ _, .inr (.inr ⟨hv, hln'.out, xo, co, rfl, ?_⟩)⟩
          exact hp7.set3 (fun q hq => by have := hf7 q hq; omega) _ _ _
  · have hb : (chkS a l n ps != 0) = true := by simpa using hv
    obtain ⟨v, hvv⟩ : ∃ v, chkS a l n ps = v := ⟨_, rfl⟩
    rw [hvv] at hck hb hv
    go_enter Try.func18, Try.ntmps18
    go_wp2_with fail
    refine (hck _ (fun h => (hp h).later (SB.start w a l c m x n k).b)).mono ?_
    rintro e w1 ⟨rfl, hb1⟩
    have hS := (SB.start w a l c m x n k).later hb1
    clear hb1
    obtain ⟨s0, s1, s2, -⟩ := box3 hS.s
    obtain ⟨p0, p1, -⟩ := box2 hS.p
    obtain ⟨r0, r1, r2, z0, z1, z2⟩ := box3 hS.r
    go_wp2
    refine bodyPost_ret (v := .tuple #[.agg #[.int .i64 0, .int .i64 0, .slice none 0 0], .int .i64 v]) (by simp [results, Try.results18, go_sem, r0, r1, r2]) rfl ?_
    unfold FreePostR
    exact ⟨below_set3 hS.b (by omega) _ _ _, .inl (by rw [hvv]; exact ⟨hv, rfl⟩)⟩
end Go.Proofs.Ytbnkgecblaffeaa
