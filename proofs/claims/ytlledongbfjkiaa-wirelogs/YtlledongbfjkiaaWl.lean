/- Whether commands are the same; what sameCmds of package parcelwaylaw comes to. -/
import Derived.Test.YtlledongbfjkiaaWk
import Derived.Laws.StructEq
namespace Go.Proofs.Ytlledongbfjkiaa
open Go.RowKit

theorem cmd_struct : Try.prog.underlying 27 = some (.struct (Try.prog.fieldsOf 27)) := by kernel_rfl
theorem cmd_held : Try.prog.stoodInHeld 27 = false := by kernel_rfl
theorem pre_struct : Try.prog.underlying 23 = some (.struct (Try.prog.fieldsOf 23)) := by kernel_rfl
theorem pre_held : Try.prog.stoodInHeld 23 = false := by kernel_rfl
theorem rule_struct : Try.prog.underlying 25 = some (.struct (Try.prog.fieldsOf 25)) := by kernel_rfl
theorem rule_held : Try.prog.stoodInHeld 25 = false := by kernel_rfl
section
variable [DecidableEq Cm]
set_option maxRecDepth 20000 in
set_option maxHeartbeats 800000 in
theorem neq_cmd (a b : Cm) (w : World) : (binOp .neq 27 (cmV a) (cmV b)).run Try.prog w = .ok (.bool (!(decide (a = b)))) w := by
  rw [run_neq_struct, show (10000 : Nat) = 9999 + 1 from rfl, run_equalIn_agg w 9999 _ _ _ cmd_struct cmd_held]
  simp only [Program.fieldsOf, Try.underlying27]
  go_simp
  by_cases h : a = b
  · subst h
    simp
  · rw [decide_eq_false h]
    have hne : a.op = b.op → a.a = b.a → a.b = b.b → a.c = b.c → a.p = b.p → a.l = b.l → a.mn = b.mn → a.mx = b.mx → a.us = b.us → a.co = b.co → False := fun h0 h1 h2 h3 h4 h5 h6 h7 h8 h9 => h (by
      cases a
      cases b
      simp only at h0 h1 h2 h3 h4 h5 h6 h7 h8 h9
      subst h0 h1 h2 h3 h4 h5 h6 h7 h8 h9
      rfl)
    by_cases h0 : a.op = b.op
    · by_cases h1 : a.a = b.a
      · by_cases h2 : a.b = b.b
        · by_cases h3 : a.c = b.c
          · by_cases h4 : a.p = b.p
            · by_cases h5 : a.l = b.l
              · by_cases h6 : a.mn = b.mn
                · by_cases h7 : a.mx = b.mx
                  · by_cases h8 : a.us = b.us
                    · by_cases h9 : a.co = b.co
                      · exact (hne h0 h1 h2 h3 h4 h5 h6 h7 h8 h9).elim
                      · simp [h0, h1, h2, h3, h4, h5, h6, h7, h8, h9]
                    · simp [h0, h1, h2, h3, h4, h5, h6, h7, h8]
                  · simp [h0, h1, h2, h3, h4, h5, h6, h7]
                · simp [h0, h1, h2, h3, h4, h5, h6]
              · simp [h0, h1, h2, h3, h4, h5]
            · simp [h0, h1, h2, h3, h4]
          · simp [h0, h1, h2, h3]
        · simp [h0, h1, h2]
      · simp [h0, h1]
    · simp [h0]
theorem eql_cmd (a b : Cm) (w : World) : (binOp .eql 27 (cmV a) (cmV b)).run Try.prog w = .ok (.bool (decide (a = b))) w := by
  have h := neq_cmd a b w
  rw [run_neq_struct] at h
  rw [run_eql_struct]
  generalize (Op.equalIn 10000 27 (cmV a) (cmV b)).run Try.prog w = r at h ⊢
  cases r with
  | ok v w' =>
    simp only [Result.andThen_ok, Result.ok.injEq, Value.bool.injEq] at h ⊢
    obtain ⟨h1, h2⟩ := h
    refine ⟨?_, h2⟩
    cases v <;> cases hd : decide (a = b) <;> simp_all
  | _ => simp [Result.andThen] at h
end
theorem same_cmds {ds cs : List Cm} {n : Nat} (h1 : ds.length = n) (h2 : cs.length = n) (h : ∀ j, j < n → cmAt ds j = cmAt cs j) : ds = cs := by
  refine List.ext_getElem (by omega) fun i hi hj => ?_
  have := h i (by omega)
  rw [cmAt_get hi, cmAt_get hj] at this
  exact this
theorem cmd_guard : Try.prog.eqGuardType Try.prog.depth 27 = false := by kernel_rfl
theorem guard_cmd (op : BinOp) (x y : Operand) (p q : Array Value) (w : World) : (eqGuard op 27 x y (.agg p) (.agg q)).run Try.prog w = .ok () w := by
  have h := cmd_guard
  unfold eqGuard
  cases op <;> simp [go_sem, h]
section
variable [DecidableEq Cm]
theorem quiet_neq_cmd {ops : Array Oper} {C : World → Prop} {Q : Act → Prop} {A : Act} {o : Oper} {rest : List Oper} (x y : Operand) (t : TypeId) (a b : Cm) (hop : o.op = .binOp .neq 27 x y t) (hg : o.guard = none)
    (hx : A.eval x = cmV a) (hy : A.eval y = cmV b) (h : wpQuiet Try.prog ops C Q rest (A.put o.dst (.bool (!(decide (a = b)))))) : wpQuiet Try.prog ops C Q (o :: rest) A := by
  unfold wpQuiet
  rw [if_pos (by simp [Region.wanted, hg])]
  refine ⟨_, fun w _ => ?_, h⟩
  unfold Oper.quietAt execOp
  rw [hop]
  simp only [hx, hy, Sem.run_bind, guard_cmd, neq_cmd, Result.andThen_ok, Sem.run_pure]
  exact ⟨rfl, rfl⟩
theorem quiet_eql_cmd {ops : Array Oper} {C : World → Prop} {Q : Act → Prop} {A : Act} {o : Oper} {rest : List Oper} (x y : Operand) (t : TypeId) (a b : Cm) (hop : o.op = .binOp .eql 27 x y t) (hg : Region.wanted o (yielded ops A.tmps) = true)
    (hx : A.eval x = cmV a) (hy : A.eval y = cmV b) (h : wpQuiet Try.prog ops C Q rest (A.put o.dst (.bool (decide (a = b))))) : wpQuiet Try.prog ops C Q (o :: rest) A := by
  unfold wpQuiet
  rw [if_pos hg]
  refine ⟨_, fun w _ => ?_, h⟩
  unfold Oper.quietAt execOp
  rw [hop]
  simp only [hx, hy, Sem.run_bind, guard_cmd, eql_cmd, Result.andThen_ok, Sem.run_pure]
  exact ⟨rfl, rfl⟩
set_option maxRecDepth 20000 in
set_option maxHeartbeats 1600000 in
theorem sameCmds_any (x y : Option Addr) (n m c d : Nat) (ds cs : List Cm) (w : World) (hp : CS w x n ds) (hq : CS w y m cs) (hn : n ≤ 100000) (hm : m ≤ 100000) :
    Calls Try.prog 18 #[.slice x n c, .slice y m d] w fun e w' => e = .returned (.bool (decide (ds = cs))) ∧ Below w.heap.size w w' := by
  by_cases hnm : n = m
  · subst hnm
    go_enter Try.func18, Try.ntmps18
    go_wp2
    go_loopw [5] (fun i wr => ∃ k : Nat, k ≤ n ∧ i = .int .i64 k ∧ Below w.heap.size w wr ∧ (∀ j, j < k → cmAt ds j = cmAt cs j)) (fun i _ => n - (intOf i).toNat)
    case atStart => exact ⟨0, by omega, rfl, Below.refl _ _, fun j hj => by omega⟩
    case round =>
      obtain ⟨k, hk, rfl, hB, hok⟩ := hrel
      have hz := hB.size
      by_cases hlt : k < n
      · obtain ⟨b, o, rfl, c0, c1, c2, c3, c4, c5, c6, c7, c8, c9⟩ := (hp.later hB).cells k hlt
        obtain ⟨b2, o2, rfl, d0, d1, d2, d3, d4, d5, d6, d7, d8, d9⟩ := (hq.later hB).cells k hlt
        have g0 := Ws.here c0
        have g1 := Ws.here d0
        have g2 := Ws.here c1
        have g3 := Ws.here d1
        have g4 := Ws.here c2
        have g5 := Ws.here d2
        have g6 := Ws.here c3
        have g7 := Ws.here d3
        have g8 := Ws.here c4
        have g9 := Ws.here d4
        have g10 := Ws.here c5
        have g11 := Ws.here d5
        have g12 := Ws.here c6
        have g13 := Ws.here d6
        have g14 := Ws.here c7
        have g15 := Ws.here d7
        have g16 := Ws.here c8
        have g17 := Ws.here d8
        have g18 := Ws.here c9
        have g19 := Ws.here d9
        have hlt' := hlt
        go_upto_region 6 with fail
        clear c0 d0 c1 d1 c2 d2 c3 d3 c4 d4 c5 d5 c6 d6 c7 d7 c8 d8 c9 d9
        refine wp_region_ws wr.heap.size (by kernel_rfl) (by kernel_rfl) ?_
        repeat (go_big_quiet_step (fail))
        refine quiet_neq_cmd _ _ _ (cmAt ds k) (cmAt cs k) rfl rfl rfl rfl ?_
        refine wpQuiet_nil ?_
        rintro _ ⟨u, rfl⟩
        have hu := hB.trans (u.property.mono hz)
        generalize u.val = wu at hu ⊢
        clear u g0 g1 g2 g3 g4 g5 g6 g7 g8 g9 g10 g11 g12 g13 g14 g15 g16 g17 g18 g19
        cases he : decide (cmAt ds k = cmAt cs k)
        · go_wp2
          go_ret
          refine ⟨ret_bool (Eq.symm (decide_eq_false fun e => ?_)), hu⟩
          rw [e] at he
          simp at he
        · have he' : cmAt ds k = cmAt cs k := by simpa using he
          have he2 : Hid (cmAt ds k = cmAt cs k) := he'
          clear he'
          go_wp2
          go_roundw
          case rel => exact ⟨k + 1, hlt', by go_num, hu, fun j hj => by
            by_cases hj2 : j < k
            · exact hok j hj2
            · obtain rfl : j = k := by omega
              exact he2.out⟩
          case measure => simp [intOf]; omega
      · have heq : Hid (ds = cs) := same_cmds hp.len hq.len (fun j hj => hok j (by omega))
        go_wp2
        go_ret
        exact ⟨ret_bool (decide_eq_true heq.out).symm, hB⟩
  · have hne : ((n : Int) != (m : Int)) = true := by simp; omega
    go_enter Try.func18, Try.ntmps18
    go_wp2
    go_ret
    refine ⟨ret_bool (Eq.symm (decide_eq_false fun e => hnm ?_)), Below.refl _ _⟩
    rw [← hp.len, ← hq.len, e]
end
end Go.Proofs.Ytlledongbfjkiaa
