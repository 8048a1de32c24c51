/- What HolesOf of package parcelwayref comes to. -/
import Derived.Test.YtbnkgecblaffeaaFa
namespace Go.Proofs.Ytbnkgecblaffeaa
open Go.RowKit Go.Shelf

/-- HolesOf's box of the space, and what it has laid so far. -/
def HoAt (w : World) (a l : Int) (x : Option Addr) (n k : Nat) (o : List (Int × Int)) (v : Value) (V : World) : Prop :=
  Below w.heap.size w V ∧ V.heap[w.heap.size]? = some (.cells #[.int .i64 a, .int .i64 l, .slice x n k] 26) ∧ V.ownsRow (w.heap.size + 1) 23 2 v o.length (flat o)
theorem HoAt.start (w : World) (a l : Int) (x : Option Addr) (n k : Nat) : HoAt w a l x n k [] (.slice none 0 0) (w.alloc (.cells #[.int .i64 a, .int .i64 l, .slice x n k] 26)) :=
  ⟨bl1 w _, heap_new _ rfl, World.ownsRow_nil _ _ _ _⟩
theorem HoAt.later {w : World} {a l : Int} {x : Option Addr} {n k : Nat} {o : List (Int × Int)} {v : Value} {V V' : World} (h : HoAt w a l x n k o v V) (hb : Below V.heap.size V V') : HoAt w a l x n k o v V' :=
  ⟨h.1.trans (hb.mono h.1.size), (hb.block _ (Array.getElem?_eq_some_iff.1 h.2.1).1).trans h.2.1, own_row (B := 0) () V V' none h.2.2 (grown_of_below hb) (fun r e => by cases e)⟩

theorem place {ps H o : List (Int × Int)} {a l y : Int} (h : HInv ps a l H y o) (hr : rt a l = true) (hH : HolesAre ps a l H) (hU : Used ps a l) (hy : y < a + sp l) :
    ∃ m, l ≤ m ∧ m ≤ 17 ∧ (∀ k, l ≤ k → k ≤ 16 → (rt y k && ins y k a l && !mtsAny y k ps) = decide (m ≤ k)) ∧ (m ≤ 16 → rt y m = true ∧ HInv ps a l H (y + sp m) (o ++ [(y, m)])) ∧ (¬ m ≤ 16 → ∃ u ∈ ps, hld u.1 u.2 y = true) := by
  have hl := rt_range hr
  cases hf : mtsAny y 16 ps
  · obtain ⟨m, h1, h2, h3, h4⟩ := h.free hr hH hU hy hf
    have h5 := rt_range h1
    exact ⟨m, h2, by omega, h3, fun _ => ⟨h1, h4⟩, fun h => absurd h5.2.1 h⟩
  · obtain ⟨h1, h2⟩ := busy_at hf
    refine ⟨17, by omega, by omega, fun k hk hk2 => ?_, fun h => by omega, fun _ => h1⟩
    have hd : decide ((17 : Int) ≤ k) = false := by simp; omega
    rw [hd]
    cases h3 : rt y k
    · rfl
    · rw [h2 k h3]; simp

theorem holdsIt_is (a l y : Int) (t : Bool) (h : hld a l y = t) (w : World) :
    Calls Try.prog 34 #[.agg #[.int .i64 a, .int .i64 l], .int .i64 y] w fun e w' => e = .returned (.bool t) ∧ Below w.heap.size w w' := by
  subst h
  exact holdsIt_any a l y w

def HolesPostR (H : List (Int × Int)) (w : World) (e : Ending) (w' : World) : Prop := ∃ x' c', e = .returned (.slice x' H.length c') ∧ Below w.heap.size w w' ∧ PS w' x' H.length H

set_option maxRecDepth 100000 in
set_option maxHeartbeats 3200000 in
theorem holesOf_any (a l : Int) (x : Option Addr) (n k : Nat) (ps H : List (Int × Int)) (w : World) (hp : PS w x n ps) (hn : n ≤ 32) (hr : rt a l = true) (hU : Used ps a l) (hH : HolesAre ps a l H) (hlen : H.length ≤ 65536) :
    Calls Try.prog 11 #[.agg #[.int .i64 a, .int .i64 l, .slice x n k]] w (HolesPostR H w) := by
  obtain ⟨i0, hi, hz0, hz1, hz2⟩ := info_prefix'
  obtain ⟨q0, q1, q2, q3, q4⟩ := rt_range hr
  have htop := rt_top hr
  generalize hla : a + sp l - 1 = la
  have Hla : Hid (a + sp l - 1 = la) := hla
  have hla1 : la ≤ 65535 := by omega
  clear hla
  go_enter Try.func11, Try.ntmps11
  go_wp2
  go_loopw [4, 3] (fun i t wr => ∃ (y : Int) (o : List (Int × Int)), i = .int .i64 y ∧ Hid (HInv ps a l H y o) ∧ HoAt w a l x n k o t wr) (fun i _ _ => (200000 - intOf i).toNat)
  case atStart => exact ⟨a, [], rfl, HInv.start hH hU, HoAt.start w a l x n k⟩
  case round =>
    obtain ⟨y, o, rfl, hI, hO⟩ := hrel
    have hy0 : 0 ≤ y := by have := hI.out.low; omega
    have hy1 : y ≤ 65536 := by have := hI.out.high; omega
    have hol : o.length ≤ 65536 := by obtain ⟨rest, h1, -⟩ := hI.out.parts; have := congrArg List.length h1; rw [List.length_append] at this; omega
    obtain ⟨s0, s1, s2, -⟩ := box3 hO.2.1
    go_wp2_with fail
    refine (last_is _ _ _ Hla.out hr _).mono ?_
    rintro e w1 ⟨rfl, hu⟩
    replace hO := hO.later hu
    clear hu s0 s1 s2
    obtain ⟨s0, s1, s2, -⟩ := box3 hO.2.1
    have hwl : w.heap.size < w1.heap.size := (Array.getElem?_eq_some_iff.1 hO.2.1).1
    by_cases hle : y ≤ la
    · obtain ⟨m, hm0, hm1, hm2, hm3, hm4⟩ := place hI.out hr hH hU (by have := Hla.out; omega)
      have hmH : Hid (∀ k, l ≤ k → k ≤ 16 → (rt y k && ins y k a l && !mtsAny y k ps) = decide (m ≤ k)) := hm2
      have h17 : max m (16 + 1) = 17 := by omega
      clear hm2
      go_wp2
      clear s0 s1 s2
      go_loopw [6] (fun i wq => ∃ s : Int, i = .int .i64 s ∧ l - 1 ≤ s ∧ s ≤ 16 ∧ Below w1.heap.size w1 wq ∧ wq.heap[w1.heap.size]? = some (.cells #[.int .i64 y, .int .i64 (max m (s + 1))] 23)) (fun i _ => (intOf i + 1).toNat)
      case atStart => exact ⟨16, rfl, by omega, by omega, bl1 w1 _, by rw [h17]; exact heap_new _ rfl⟩
      case round =>
        obtain ⟨s, rfl, hs0, hs1, hB, hb⟩ := hrel
        have hQ := hO.later hB
        have hBs := hB.size
        obtain ⟨s0, s1, s2, -⟩ := box3 hQ.2.1
        obtain ⟨b0, b1, f0, f1⟩ := box2 hb
        by_cases hge : l ≤ s
        · have hge' := hge
          go_upto_region 9 with fail
          have hB2 : Below w1.heap.size w1 (wr.alloc (.cells #[.int .i64 y, .int .i64 s] 23)) := hB.trans ((bl1 wr _).mono hBs)
          have hb2 : (wr.alloc (.cells #[.int .i64 y, .int .i64 s] 23)).heap[wr.heap.size]? = some (.cells #[.int .i64 y, .int .i64 s] 23) := heap_new _ rfl
          have hb3 := heap_old (.cells #[.int .i64 y, .int .i64 s] 23) hb
          generalize wr.alloc (.cells #[.int .i64 y, .int .i64 s] 23) = V at hB2 hb2 hb3 ⊢
          clear s0 s1 s2 b0 b1 f0 f1 hQ hb
          have hQ := hO.later hB2
          obtain ⟨s0, s1, s2, -⟩ := box3 hQ.2.1
          obtain ⟨p0, p1, -⟩ := box2 hb2
          have g0 := Ws.here s0
          have g1 := Ws.here s1
          have g2 := Ws.here s2
          have g3 := Ws.here p0
          have g4 := Ws.here p1
          have gp : ∀ u : Ws V.heap.size V, PS u.val x n ps := fun u => (hp.later hQ.1).later u.property
          have hts := hmH.out s hge' hs1
          clear s0 s1 s2 p0 p1 hge
          refine wp_region_wf V.heap.size ?_
          cases h1 : rt y s
          · rw [h1] at hts
            have hts' : ¬ m ≤ s := by simpa using hts.symm
            have hmx : max m (s + 1) = max m (s - 1 + 1) := by omega
            repeat (go_big_quiet_step ((go_at_call 28; exact Calls.in_ws (Nat.le_refl _) (right_is _ _ _ h1 _))))
            refine wpQuiet_nil ?_
            rintro _ ⟨u, rfl⟩
            have hu : Below V.heap.size V u.val := u.property
            generalize u.val = wu at hu ⊢
            clear u g0 g1 g2 g3 g4 gp
            replace hb3 := (hu.block _ (Array.getElem?_eq_some_iff.1 hb3).1).trans hb3
            replace hB2 := hB2.trans (hu.mono hB2.size)
            rw [hmx] at hb3
            go_wp2
            go_roundw
            case rel => exact ⟨s - 1, by go_num, by omega, by omega, hB2, hb3⟩
            case measure => simp [intOf]; omega
          · cases h2 : ins y s a l
            · rw [h1, h2] at hts
              have hts' : ¬ m ≤ s := by simpa using hts.symm
              have hmx : max m (s + 1) = max m (s - 1 + 1) := by omega
              repeat (go_big_quiet_step (first | (go_at_call 28; exact Calls.in_ws (Nat.le_refl _) (right_is _ _ _ h1 _)) | (go_at_call 29; exact Calls.in_ws (Nat.le_refl _) (insideOf_is _ _ _ _ _ h2 _))))
              refine wpQuiet_nil ?_
              rintro _ ⟨u, rfl⟩
              have hu : Below V.heap.size V u.val := u.property
              generalize u.val = wu at hu ⊢
              clear u g0 g1 g2 g3 g4 gp
              replace hb3 := (hu.block _ (Array.getElem?_eq_some_iff.1 hb3).1).trans hb3
              replace hB2 := hB2.trans (hu.mono hB2.size)
              rw [hmx] at hb3
              go_wp2
              go_roundw
              case rel => exact ⟨s - 1, by go_num, by omega, by omega, hB2, hb3⟩
              case measure => simp [intOf]; omega
            · cases h3 : mtsAny y s ps
              · rw [h1, h2, h3] at hts
                have hts' : m ≤ s := by simpa using hts.symm
                have hmx : max m (s - 1 + 1) = s := by omega
                repeat (go_big_quiet_step (first | (go_at_call 28; exact Calls.in_ws (Nat.le_refl _) (right_is _ _ _ h1 _)) | (go_at_call 29; exact Calls.in_ws (Nat.le_refl _) (insideOf_is _ _ _ _ _ h2 _)) | (go_at_call 33; exact Calls.in_ws (Nat.le_refl _) (meetsUsed_is a l y s x n k ps _ h3 _ (gp _) (by omega)))))
                refine wpQuiet_nil ?_
                rintro _ ⟨u, rfl⟩
                have hu : Below V.heap.size V u.val := u.property
                generalize u.val = wu at hu ⊢
                clear u g0 g1 g2 g3 g4 gp
                replace hb3 := (hu.block _ (Array.getElem?_eq_some_iff.1 hb3).1).trans hb3
                replace hb2 := (hu.block _ (Array.getElem?_eq_some_iff.1 hb2).1).trans hb2
                replace hB2 := hB2.trans (hu.mono hB2.size)
                obtain ⟨p0, p1, -⟩ := box2 hb2
                obtain ⟨b0, b1, f0, f1⟩ := box2 hb3
                go_wp2
                go_roundw
                case rel => exact ⟨s - 1, by go_num, by omega, by omega, below_set2 hB2 (Nat.le_refl _) _ _, by rw [hmx]; exact box2_set _ _ hb3⟩
                case measure => simp [intOf]; omega
              · rw [h1, h2, h3] at hts
                have hts' : ¬ m ≤ s := by simpa using hts.symm
                have hmx : max m (s + 1) = max m (s - 1 + 1) := by omega
                repeat (go_big_quiet_step (first | (go_at_call 28; exact Calls.in_ws (Nat.le_refl _) (right_is _ _ _ h1 _)) | (go_at_call 29; exact Calls.in_ws (Nat.le_refl _) (insideOf_is _ _ _ _ _ h2 _)) | (go_at_call 33; exact Calls.in_ws (Nat.le_refl _) (meetsUsed_is a l y s x n k ps _ h3 _ (gp _) (by omega)))))
                refine wpQuiet_nil ?_
                rintro _ ⟨u, rfl⟩
                have hu : Below V.heap.size V u.val := u.property
                generalize u.val = wu at hu ⊢
                clear u g0 g1 g2 g3 g4 gp
                replace hb3 := (hu.block _ (Array.getElem?_eq_some_iff.1 hb3).1).trans hb3
                replace hB2 := hB2.trans (hu.mono hB2.size)
                rw [hmx] at hb3
                go_wp2
                go_roundw
                case rel => exact ⟨s - 1, by go_num, by omega, by omega, hB2, hb3⟩
                case measure => simp [intOf]; omega
        · have hmx : max m (s + 1) = m := by omega
          rw [hmx] at b1 hb
          by_cases hm : m ≤ 16
          · obtain ⟨hrm, hI2⟩ := hm3 hm
            have hI2' : Hid (HInv ps a l H (y + sp m) (o ++ [(y, m)])) := hI2
            have hol2 : (o ++ [(y, m)]).length ≤ 65536 := by obtain ⟨rest, h1, -⟩ := hI2.parts; have := congrArg List.length h1; rw [List.length_append] at this; omega
            rw [List.length_append, List.length_singleton] at hol2
            have hhi := hI2.high
            have pm := sp_pos m
            have hwr : w.heap.size < wr.heap.size := by omega
            clear hI2 hm4
            go_wp2_with (at_builtin; refine Hid.out ?_)
            unfold Hid
            refine wpList_append_own _ rfl _ _ 24 rfl (w.heap.size + 1) 23 i0 (.agg #[.int .i64 0, .int .i64 0]) 2 16 under_prefixes hi hz0 hz1 hz2 rfl (by decide) _ _ _ rfl (hQ.2.2.alloc _) ⟨wr.heap.size, 0, none⟩ 1 1 [.int .i64 y, .int .i64 m] rfl rfl ?_ (by simp [Value.oneCell']) (by unfold maxLen; omega) (by omega) (by simp; omega) ?_
            · intro j u hj
              rcases j with _ | _ | j
              · simp at hj; subst hj; simp [Addr.add]
              · simp at hj; subst hj; simp [Addr.add]
              · simp at hj
            · intro v' w5 hown' hgrow' _
              have hgrow : (wr.alloc (.cells #[.int .i64 y, .int .i64 m] 23)).grownBy w5 u3.ownBlock := hgrow'
              clear hgrow'
              have hlt5 := hO.2.2.lt
              have hgs := hgrow.size
              rw [World.size_alloc] at hgs
              have hb5 : w5.heap[w1.heap.size]? = some (.cells #[.int .i64 y, .int .i64 m] 23) := (hgrow.block _ (by have := (Array.getElem?_eq_some_iff.1 hb).1; simp; omega) (fun e => by have := (hlt5 _ e.symm).2; omega)).trans (heap_old _ hb)
              have hs5 : w5.heap[w.heap.size]? = some (.cells #[.int .i64 a, .int .i64 l, .slice x n k] 26) := (hgrow.block _ (by simp; omega) (fun e => by have := (hlt5 _ e.symm).1; omega)).trans (heap_old _ hQ.2.1)
              have hB5 : Below w.heap.size w w5 := ⟨hgrow.os.trans hQ.1.os, hgrow.tape.trans hQ.1.tape, hgrow.output.trans hQ.1.output, by omega, fun j hj =>
                ((hgrow.block j (by simp; omega) (fun e => by have := (hlt5 _ e.symm).1; omega)).trans (Below.heap_alloc _ _ _ (by omega))).trans (hQ.1.block j hj)⟩
              have hO5 : HoAt w a l x n k (o ++ [(y, m)]) v' w5 := ⟨hB5, hs5, by rw [List.length_append, List.length_singleton, flat_append]; exact hown'⟩
              clear hown' hlt5
              obtain ⟨t0, t1, -⟩ := box2 hb5
              clear b0 b1 f0 f1 s0 s1 s2 hb hB hQ hO
              go_wp2_with fail
              refine (last_is y m _ rfl hrm _).mono ?_
              rintro e w6 ⟨rfl, hu⟩
              replace hO5 := hO5.later hu
              clear hu t0 t1
              go_wp2
              exact ⟨⟨y + sp m, _, rfl, hI2', hO5⟩, by simp only [intOf]; omega⟩
          · obtain ⟨uu, huu, hhu⟩ := hm4 (by omega)
            have hpl := hp.len
            clear hm3 hm4
            go_wp2
            clear s0 s1 s2 b0 b1 f0 f1 hb hQ
            go_loopw [8, 4] (fun i t wq => ∃ q : Nat, q ≤ n ∧ i = .int .i64 q ∧ t = .int .i64 y ∧ Below w1.heap.size w1 wq ∧ (∀ j, j < q → hld (at0 ps j) (at1 ps j) y = false)) (fun i _ _ => n - (intOf i).toNat)
            case atStart => exact ⟨0, by omega, rfl, rfl, hB, fun j hj => by omega⟩
            case round =>
              obtain ⟨q, hq, rfl, rfl, hC, hno⟩ := hrel
              have hS := hO.later hC
              obtain ⟨s0, s1, s2, -⟩ := box3 hS.2.1
              by_cases hlt : q < n
              · obtain ⟨b, of, rfl, c0, c1⟩ := (hp.later hS.1).cells q hlt
                have hlt' := hlt
                cases hM : hld (at0 ps q) (at1 ps q) y
                · go_wp2_with fail
                  refine (holdsIt_is _ _ _ _ hM _).mono ?_
                  rintro e w2 ⟨rfl, hu⟩
                  replace hC := hC.trans (hu.mono hC.size)
                  clear hu c0 c1 s0 s1 s2
                  go_wp2
                  go_roundw
                  case rel => exact ⟨q + 1, hlt', by go_num, rfl, hC, fun j hj => by
                    by_cases hj2 : j < q
                    · exact hno j hj2
                    · obtain rfl : j = q := by omega
                      exact hM⟩
                  case measure => simp [intOf]; omega
                · have hN := hld_nums.1 hM
                  have hI2 : Hid (HInv ps a l H (at0 ps q + sp (at1 ps q)) o) := by
                    have hq' : q < ps.length := by omega
                    rw [at0_get hq', at1_get hq'] at hN ⊢
                    exact hI.out.skip hH hU (List.getElem_mem hq') hN.2.1 hN.2.2
                  have hhi := hI2.out.high
                  have hlo := hI2.out.low
                  obtain ⟨hN1, hN2, hN3⟩ := hN
                  go_wp2_with fail
                  refine (holdsIt_is _ _ _ _ hM _).mono ?_
                  rintro e w2 ⟨rfl, hu⟩
                  replace hC := hC.trans (hu.mono hC.size)
                  replace c0 := cell_later hu c0
                  replace c1 := cell_later hu c1
                  replace s2 := cell_later hu s2
                  clear hu s0 s1
                  go_wp2_with fail
                  refine (last_is _ _ _ rfl hN1 _).mono ?_
                  rintro e w3 ⟨rfl, hu⟩
                  replace hC := hC.trans (hu.mono hC.size)
                  clear hu s2 c0 c1
                  have hO3 := hO.later hC
                  go_wp2
                  exact ⟨⟨at0 ps q + sp (at1 ps q), o, rfl, hI2, hO3⟩, by simp only [intOf]; omega⟩
              · exfalso
                obtain ⟨j, hj, rfl⟩ := List.getElem_of_mem huu
                have h1 := hno j (by omega)
                rw [at0_get hj, at1_get hj, hhu] at h1
                cases h1
    · have hdone := hI.out.done hH (by have := Hla.out; omega)
      subst hdone
      obtain ⟨x', c', rfl, hps, -⟩ := PS.of_own hO.2.2
      go_wp2
      refine bodyPost_ret (v := .slice x' o.length c') (by simp [results, Try.results11, go_sem]) rfl ?_
      unfold HolesPostR
      exact ⟨x', c', rfl, hO.1, hps⟩
end Go.Proofs.Ytbnkgecblaffeaa
