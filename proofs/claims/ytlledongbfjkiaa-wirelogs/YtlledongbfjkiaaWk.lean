/- What ReplayOf of package parcelwayref comes to. -/
import Derived.Test.YtlledongbfjkiaaWj
namespace Go.Proofs.Ytlledongbfjkiaa
open Go.RowKit

theorem Ws.here {w : World} {b o : Nat} {v : Value} (h : w.cell? ⟨b, o, none⟩ = some v) (u : Ws w.heap.size w) : u.val.cell? ⟨b, o, none⟩ = some v := cell_later u.property h
theorem bs_inj {s t : ByteArray} (h : bs s = bs t) : s = t := by rw [← str_bs s, h, str_bs]
theorem ext_ext (s : ByteArray) (a b c : Nat) : (s.extract a s.size).extract b c = s.extract (a + b) (a + c) := by
  refine bs_inj ?_
  rw [bs_extract, bs_from, List.drop_drop, bs_extract, show a + c - (a + b) = c - b by omega]
theorem okF_at (s : ByteArray) (a : Nat) (h : a + 42 ≤ s.size) : ((strOfNums (frameB (cmdB (readC (bs (s.extract (a + 1) (a + 38))))))).toList == (s.extract a (a + 42)).toList) = okF ((bs s).drop a) := by
  have hz : (s.extract a s.size).size = s.size - a := size_sub s a s.size (Nat.le_refl _) (by omega)
  have h1 := okF_str (s.extract a s.size) (by rw [hz]; omega)
  rw [bs_from, ext_ext s a 1 38, ext_ext s a 0 42, show a + 0 = a from rfl] at h1
  rw [h1, str_eq, cmdB_read (by rw [bs_len, size_sub s _ _ (by omega) (by omega)]; omega) (isB_bs _)]
theorem fiC_at (s : ByteArray) (a : Nat) (h : okF ((bs s).drop a) = true) : readC (bs (s.extract (a + 1) (a + 38))) = fiC ((bs s).drop a) := by
  rw [(fi_yes h).1, List.drop_drop, bs_extract, show a + 38 - (a + 1) = 37 by omega]
theorem replayOf_many (s : ByteArray) (w : World) (hs : 16384 < s.size) :
    Calls Try.prog 17 #[.string s] w fun e w' => e = .returned (.tuple #[.slice none 0 0, .int .i64 0, .int .i64 2]) ∧ Below w.heap.size w w' := by
  go_enter Try.func17, Try.ntmps17
  go_wp2
  exact bodyPost_ret (v := .tuple #[.slice none 0 0, .int .i64 0, .int .i64 2]) (by simp [results, Try.results17, go_sem]) rfl ⟨rfl, Below.refl _ _⟩
set_option maxRecDepth 20000 in
set_option maxHeartbeats 1600000 in
theorem replayOf_few (s : ByteArray) (w : World) (hs : s.size ≤ 16384) :
    Calls Try.prog 17 #[.string s] w (RpPost s w) := by
  have hbl : Hid ((bs s).length = s.size) := bs_len s
  go_enter Try.func17, Try.ntmps17
  go_wp2
  go_loopw [5, 6] (fun v i wr => ∃ cs : List Cm, cs.length ≤ 200 ∧ 42 * cs.length ≤ s.size ∧ i = .int .i64 (42 * cs.length : Nat) ∧ Hid (rp 200 (bs s) = cs ++ rp (200 - cs.length) ((bs s).drop (42 * cs.length))) ∧ OC wr w.heap.size v cs ∧ Below w.heap.size w wr) (fun _ i _ => 10000 - (intOf i).toNat)
  case atStart => exact ⟨[], by simp, by simp, rfl, by unfold Hid; simp, OC.nil _ _, Below.refl _ _⟩
  case round =>
    obtain ⟨cs, h200, hsz, rfl, hrp, hO, hB⟩ := hrel
    obtain ⟨x, cap, rfl, hcap, hcap2, hCS⟩ := hO.shape
    generalize hk : cs.length = k at h200 hsz hcap hCS ⊢
    have hk' : Hid (cs.length = k) := hk
    clear hk
    by_cases h42 : 42 * k + 42 ≤ s.size
    · by_cases hlt : k < 200
      · have hlt' := hlt
        have hok := okF_at s (42 * k) h42
        have htz : (s.extract (42 * k + 1) (42 * k + 38)).size = 37 := by rw [size_sub s _ _ (by omega) (by omega)]; omega
        have hcf := fun W => cmdFrom_yes (s.extract (42 * k + 1) (42 * k + 38)) W htz
        have hfc : okF ((bs s).drop (42 * k)) = true → Hid (readC (bs (s.extract (42 * k + 1) (42 * k + 38))) = fiC ((bs s).drop (42 * k))) := fiC_at s (42 * k)
        generalize readC (bs (s.extract (42 * k + 1) (42 * k + 38))) = c at hok hcf hfc
        clear htz
        go_upto_region 7 with (go_at_call 10; refine (hcf _).mono ?_; rintro e w1 ⟨rfl, hb1⟩)
        clear hcf
        obtain ⟨w2, hw2⟩ : ∃ w2, w2 = w1.alloc (.cells #[.int .i64 c.op, .int .i64 c.a, .int .i64 c.b, .int .i64 c.c, .int .i64 c.p, .int .i64 c.l, .int .i64 c.mn, .int .i64 c.mx, .int .i64 c.us, .int .i64 c.co] 27) := ⟨_, rfl⟩
        rw [← hw2]
        have h02 : Below wr.heap.size wr w2 := by rw [hw2]; exact hb1.alloc hb1.size _
        have hbox : w2.heap[w1.heap.size]? = some (.cells #[.int .i64 c.op, .int .i64 c.a, .int .i64 c.b, .int .i64 c.c, .int .i64 c.p, .int .i64 c.l, .int .i64 c.mn, .int .i64 c.mx, .int .i64 c.us, .int .i64 c.co] 27) := by rw [hw2]; exact heap_new _ rfl
        clear hw2 hb1
        have hcl := (box_cells hbox).1
        have g0 := Ws.here (v := .int .i64 c.op) (hcl 0)
        have g1 := Ws.here (v := .int .i64 c.a) (hcl 1)
        have g2 := Ws.here (v := .int .i64 c.b) (hcl 2)
        have g3 := Ws.here (v := .int .i64 c.c) (hcl 3)
        have g4 := Ws.here (v := .int .i64 c.p) (hcl 4)
        have g5 := Ws.here (v := .int .i64 c.l) (hcl 5)
        have g6 := Ws.here (v := .int .i64 c.mn) (hcl 6)
        have g7 := Ws.here (v := .int .i64 c.mx) (hcl 7)
        have g8 := Ws.here (v := .int .i64 c.us) (hcl 8)
        have g9 := Ws.here (v := .int .i64 c.co) (hcl 9)
        clear hcl
        cases hf : okF ((bs s).drop (42 * k))
        · rw [hf] at hok
          refine wp_region_ws w2.heap.size (by kernel_rfl) (by kernel_rfl) ?_
          repeat (go_big_quiet_step (first | (go_at_call 8; exact Calls.in_ws (Nat.le_refl _) (cmdBytes_any c _)) | (go_at_call 12; exact Calls.in_ws (Nat.le_refl _) (frameOf_cmd c _))))
          refine wpQuiet_nil ?_
          rintro _ ⟨u, rfl⟩
          have hu := h02.trans (u.property.mono h02.size)
          generalize u.val = w3 at hu ⊢
          clear u g0 g1 g2 g3 g4 g5 g6 g7 g8 g9
          go_wp2
          refine bodyPost_ret (v := .tuple #[.slice x k cap, .int .i64 (42 * (k : Int)), .int .i64 0]) (by simp [results, Try.results17, go_sem]) rfl ?_
          exact rpPost_of hk'.out (by rw [hrp.out, hk'.out, rp_no hf, List.append_nil]) (hB.trans (hu.mono hB.size)) hcap hcap2 (hCS.later hu)
        · rw [hf] at hok
          refine wp_region_ws w2.heap.size (by kernel_rfl) (by kernel_rfl) ?_
          repeat (go_big_quiet_step (first | (go_at_call 8; exact Calls.in_ws (Nat.le_refl _) (cmdBytes_any c _)) | (go_at_call 12; exact Calls.in_ws (Nat.le_refl _) (frameOf_cmd c _))))
          refine wpQuiet_nil ?_
          rintro _ ⟨u, rfl⟩
          have hu0 : Below w2.heap.size w2 u.val := u.property
          generalize u.val = w3 at hu0 ⊢
          clear u g0 g1 g2 g3 g4 g5 g6 g7 g8 g9
          have hbox3 := heap_later hu0 hbox
          have hu := h02.trans (hu0.mono h02.size)
          obtain ⟨hc3, hf3⟩ := box_cells hbox3
          go_wp2_with (at_builtin; refine Hid.out ?_)
          unfold Hid
          have h03 : Below wr.heap.size wr (w3.alloc _) := hu.alloc hu.size (.cells (cellsC c).toArray 27)
          have hO2 := hO.later h03
          rw [hk'.out] at hO2
          refine wpList_append_oc rfl _ _ rfl w.heap.size _ cs rfl hO2 w3.heap.size 1 c rfl (fun j => ?_) (by rw [hk'.out]; omega) (Nat.le_trans hB.size h03.size) ?_
          · have hnew : (w3.alloc (.cells (cellsC c).toArray 27)).heap[w3.heap.size]? = some (.cells (cellsC c).toArray 27) := heap_new _ rfl
            exact ((box_cells hnew).1 j).trans (by simp)
          · intro v' w' hO' hg'
            have hB' := below_grown (hB.trans (h03.mono hB.size)) hg' (fun j e => (hO2.lt j e).1)
            rw [(hfc hf).out] at hO'
            clear hc3 hf3
            go_wp2
            go_roundw
            case rel => exact ⟨cs ++ [fiC ((bs s).drop (42 * k))], by simp; rw [hk'.out]; omega, by simp; rw [hk'.out]; omega, by simp; rw [hk'.out]; omega, by
              unfold Hid
              rw [hrp.out, hk'.out, List.length_append, hk'.out, show 200 - k = (200 - (k + 1)) + 1 by omega, rp_yes hf, List.drop_drop]
              simp
              rw [show 42 * k + 42 = 42 * (k + 1) by omega], hO', hB'⟩
            case measure => simp [intOf]; omega
      · obtain rfl : k = 200 := by omega
        go_wp2
        refine bodyPost_ret (v := .tuple #[.slice x 200 cap, .int .i64 (42 * ((200 : Nat) : Int)), .int .i64 0]) (by simp [results, Try.results17, go_sem]) rfl ?_
        exact rpPost_of hk'.out (by rw [hrp.out, hk'.out, show 200 - 200 = 0 from rfl]; simp [rp]) hB hcap hcap2 hCS
    · have hf : Hid (okF ((bs s).drop (42 * k)) = false) := okF_short (by rw [List.length_drop, hbl.out]; omega)
      go_wp2
      refine bodyPost_ret (v := .tuple #[.slice x k cap, .int .i64 (42 * (k : Int)), .int .i64 0]) (by simp [results, Try.results17, go_sem]) rfl ?_
      exact rpPost_of hk'.out (by rw [hrp.out, hk'.out, rp_no hf.out, List.append_nil]) hB hcap hcap2 hCS
end Go.Proofs.Ytlledongbfjkiaa
