/- A part of the proof. -/
import Derived.Test.YtndpilfpejfloaaGreatMC16
set_option maxRecDepth 100000
set_option maxHeartbeats 20000000
namespace Go.Proofs.YtndpilfpejfloaaGreat
variable {w0 W w w1 wr wa wb we : World} {bb mb mo n1 c1 q bq k : Nat} {t E p net part : Int} {a : Act} {ps : List Po} {vs : List Vn} {ls : List (Int × Int)} {P : Program} {Q : Exit → Act → World → Prop} {r : fJ} {cd : Cd} {xr Xr Yr Y : Option Addr} {v0 v2 v3 v4 v5 v6 v7 v8 v10 v11 v12 v13 v14 v15 v16 v17 v18 v20 v21 v22 v23 v24 v25 v26 v27 v28 v29 v30 v31 v32 v33 v34 v35 v36 v37 v38 v39 v40 v41 v42 v43 v44 v45 v46 v47 v48 v49 v50 v51 v52 v53 v54 v55 v56 v57 v58 v59 v60 v61 v62 v63 v64 v65 v66 v67 v68 v69 v70 v71 v72 v73 v74 v75 v76 v77 v78 v79 v80 v81 v82 v83 v84 v85 v86 v87 v88 v89 v90 v91 v92 v93 v94 v95 v96 v97 v98 v99 v100 v101 v102 v103 v104 v105 v106 v107 v108 v109 v110 v111 v112 v113 v114 v115 v116 v117 v118 v119 v120 v121 v122 v123 v124 v125 v126 v127 v128 v129 v130 v131 v132 v133 v134 v135 v136 v137 v138 v139 v140 v141 v142 v143 v144 v145 v146 v147 v148 v149 v150 v151 v152 v153 v154 v155 v156 v157 v158 v159 v160 v161 v162 v163 v164 v165 v166 v167 v168 v169 v170 v171 v172 v173 v174 v175 v176 v177 v178 v179 v180 v181 v182 v183 v184 v185 v186 v187 v188 v189 v190 v191 v192 v193 v194 v195 v196 v197 v198 v199 v200 v201 v202 v203 v204 v205 v206 v207 v208 v209 v210 v211 v212 v213 v214 v215 v216 v217 v218 v219 v220 v9 v1 v19 : Value} {bA bE : Bool}
open Go.RowKit Go.Shelf
theorem cW {base base2 ba : Nat} {a l n : Int} {vB vV vK : Value} (ha : W.heap[ba]? = some (kP 0 (.slice none 0 0) (.slice none 0 0) (.slice none 0 0))) (hb : W.heap[bb]? = some (rT 0 0 0 0)) (hne : ba ≠ bb) (la : base ≤ ba) (lb : base ≤ bb) (hB : Below base w0 W) (hO : SO W base2 ps vs ls vB vV vK) :
  Below base w0 ((((((((W.setCell ⟨ba, 0, none⟩ (.int .i64 t)).setCell ⟨ba, 1, none⟩ vB).setCell ⟨ba, 2, none⟩ vV).setCell ⟨ba, 3, none⟩ vK).setCell ⟨bb, 0, none⟩ (.int .i64 E)).setCell ⟨bb, 1, none⟩ (.int .i64 a)).setCell ⟨bb, 2, none⟩ (.int .i64 l)).setCell ⟨bb, 3, none⟩ (.int .i64 n)) ∧ SO ((((((((W.setCell ⟨ba, 0, none⟩ (.int .i64 t)).setCell ⟨ba, 1, none⟩ vB).setCell ⟨ba, 2, none⟩ vV).setCell ⟨ba, 3, none⟩ vK).setCell ⟨bb, 0, none⟩ (.int .i64 E)).setCell ⟨bb, 1, none⟩ (.int .i64 a)).setCell ⟨bb, 2, none⟩ (.int .i64 l)).setCell ⟨bb, 3, none⟩ (.int .i64 n)) base2 ps vs ls vB vV vK ∧ ((((((((W.setCell ⟨ba, 0, none⟩ (.int .i64 t)).setCell ⟨ba, 1, none⟩ vB).setCell ⟨ba, 2, none⟩ vV).setCell ⟨ba, 3, none⟩ vK).setCell ⟨bb, 0, none⟩ (.int .i64 E)).setCell ⟨bb, 1, none⟩ (.int .i64 a)).setCell ⟨bb, 2, none⟩ (.int .i64 l)).setCell ⟨bb, 3, none⟩ (.int .i64 n)).heap[ba]? = some (kP t vB vV vK) ∧ ((((((((W.setCell ⟨ba, 0, none⟩ (.int .i64 t)).setCell ⟨ba, 1, none⟩ vB).setCell ⟨ba, 2, none⟩ vV).setCell ⟨ba, 3, none⟩ vK).setCell ⟨bb, 0, none⟩ (.int .i64 E)).setCell ⟨bb, 1, none⟩ (.int .i64 a)).setCell ⟨bb, 2, none⟩ (.int .i64 l)).setCell ⟨bb, 3, none⟩ (.int .i64 n)).heap[bb]? = some (rT E a l n) := by
 have hta : kQ W ba 31 := ⟨_, ha⟩
 have htb : kQ W bb 61 := ⟨_, hb⟩
 exact ⟨((((((((hB).setCell (p := ⟨ba, 0, none⟩) la _).setCell (p := ⟨ba, 1, none⟩) la _).setCell (p := ⟨ba, 2, none⟩) la _).setCell (p := ⟨ba, 3, none⟩) la _).setCell (p := ⟨bb, 0, none⟩) lb _).setCell (p := ⟨bb, 1, none⟩) lb _).setCell (p := ⟨bb, 2, none⟩) lb _).setCell (p := ⟨bb, 3, none⟩) lb _, ((((((((hO).put hta (by decide)).put hta.put (by decide)).put hta.put.put (by decide)).put hta.put.put.put (by decide)).put htb.put.put.put.put (by decide)).put htb.put.put.put.put.put (by decide)).put htb.put.put.put.put.put.put (by decide)).put htb.put.put.put.put.put.put.put (by decide), (zB hne).trans ((zB hne).trans ((zB hne).trans ((zB hne).trans (zC (zC (zC (zC (ha)))))))), zC (zC (zC (zC ((zB (Ne.symm hne)).trans ((zB (Ne.symm hne)).trans ((zB (Ne.symm hne)).trans ((zB (Ne.symm hne)).trans (hb))))))))⟩
theorem CH {c d : Code} (h : d = c) (hw : Code.wp P c Q a w) : Code.wp P d Q a w := h ▸ hw
def gQ (n : Nat) : Code → Option Code
 | .region id ops b => if id = n then some (.region id ops b) else none
 | .seq a b => match gQ n a with
  | some c => some c
  | none => gQ n b
 | .block _ c => gQ n c
 | .scope c => gQ n c
 | .loop c => gQ n c
 | .cond _ a b => match gQ n a with
  | some c => some c
  | none => gQ n b
 | _ => none
theorem SD {cr Cr Dr : Nat} (hBr : Below w.heap.size w wr) (hStr : kV wr w.heap.size w1.heap.size r.t r.ps r.vs r.ls (.slice xr r.ps.length cr) (.slice Xr r.vs.length Cr) (.slice Yr r.ls.length Dr)) (c0 : wr.cell? ⟨mb, mo + q * 10, none⟩ = some (.int .i64 cd.op)) (c1' : wr.cell? ⟨mb, mo + q * 10 + 1, none⟩ = some (.int .i64 cd.A)) (c2 : wr.cell? ⟨mb, mo + q * 10 + 2, none⟩ = some (.int .i64 cd.B)) (c3 : wr.cell? ⟨mb, mo + q * 10 + 3, none⟩ = some (.int .i64 cd.C)) (c4 : wr.cell? ⟨mb, mo + q * 10 + 4, none⟩ = some (.int .i64 cd.a)) (c5 : wr.cell? ⟨mb, mo + q * 10 + 5, none⟩ = some (.int .i64 cd.l)) (c6 : wr.cell? ⟨mb, mo + q * 10 + 6, none⟩ = some (.int .i64 cd.mn)) (c7 : wr.cell? ⟨mb, mo + q * 10 + 7, none⟩ = some (.int .i64 cd.mx)) (c8 : wr.cell? ⟨mb, mo + q * 10 + 8, none⟩ = some (.int .i64 cd.us)) (c9 : wr.cell? ⟨mb, mo + q * 10 + 9, none⟩ = some (.int .i64 cd.co))
  (hdr : ∀ W, Below wr.heap.size wr W → Calls Tryz.prog 14 #[IY r.t (.slice xr r.ps.length cr) (.slice Xr r.vs.length Cr) (.slice Yr r.ls.length Dr), QJ cd] W (QH ⟨r.t, r.ps, r.vs, r.ls⟩ cd W)) (hq1 : (q : Int) < n1) (hq2 : (0 : Int) ≤ q) (hq : ∀ d v c a w, Q (.panic c) (Act.put a d v) w → Q (.panic c) a w)
  (hend : ∀ (u111 u112 u113 u114 u115 u116 u117 u118 u119 u120 : Value) (bn bb : Nat) (E an al nn : Int) (r1 : fJ) (vB vV vK : Value) (wd : World), wr.heap.size ≤ bn → wr.heap.size ≤ bb → Below wr.heap.size wr wd → SO wd w.heap.size r1.ps r1.vs r1.ls vB vV vK → wd.heap[bn]? = some (kP r1.t vB vV vK) → wd.heap[bb]? = some (rT E an al nn) → rU r cd E an al nn r1 → Q .normal ⟨#[v0, .slice (some ⟨mb, mo, none⟩) n1 c1, v2, v3, v4, v5, v6, v7, v8, .pointer (some ⟨w1.heap.size, 0, none⟩), v10, v11, v12, v13, v14, v15, v16, v17, v18, .int .i64 (q : Int), .pointer (some ⟨bn, 0, none⟩), .pointer (some ⟨bb, 0, none⟩), .int .i64 0, v23, v24, v25, v26, v27, v28, v29, v30, v31, v32, v33, v34, v35, v36, v37, v38, v39, v40, v41, v42, v43, v44, v45, v46, v47, v48, v49, v50, v51, v52, v53, v54, v55, v56, v57, v58, v59, v60, v61, v62, v63, v64, v65, v66, v67, v68, v69, v70, v71, v72, v73, v74, v75, v76, v77, v78, v79, v80, v81, v82, v83, v84, v85, v86, v87, v88, v89, v90, v91, v92, v93, v94, v95, v96, v97, v98, v99, v100, v101, v102, v103, v104, v105, v106, v107, v108, v109, v110, u111, u112, u113, u114, u115, u116, u117, u118, u119, u120, v121, v122, v123, v124, v125, v126, v127, v128, v129, v130, v131, v132, v133, v134, v135, v136, v137, v138, v139, v140, v141, v142, v143, v144, v145, v146, v147, v148, v149, v150, v151, v152, v153, v154, v155, v156, v157, v158, v159, v160, v161, v162, v163, v164, v165, v166, v167, v168, v169, v170, v171, v172, v173, v174, v175, v176, v177, v178, v179, v180, v181, v182, v183, v184, v185, v186, v187, v188, v189, v190, v191, v192, v193, v194, v195, v196, v197, v198, v199, v200, v201, v202, v203, v204, v205, v206, v207, v208, v209, v210, v211, v212, v213, v214, v215, v216, v217, v218, v219, v220], []⟩ wd) :
  Code.wp Tryz.prog ((Tryz.f4.body.bind (gQ 21)).getD .skip) Q ⟨#[v0, .slice (some ⟨mb, mo, none⟩) n1 c1, v2, v3, v4, v5, v6, v7, v8, .pointer (some ⟨w1.heap.size, 0, none⟩), v10, v11, v12, v13, v14, v15, v16, v17, v18, .int .i64 (q : Int), v20, v21, v22, v23, v24, v25, v26, v27, v28, v29, v30, v31, v32, v33, v34, v35, v36, v37, v38, v39, v40, v41, v42, v43, v44, v45, v46, v47, v48, v49, v50, v51, v52, v53, v54, v55, v56, v57, v58, v59, v60, v61, v62, v63, v64, v65, v66, v67, v68, v69, v70, v71, v72, v73, v74, v75, v76, v77, v78, v79, v80, v81, v82, v83, v84, v85, v86, v87, v88, v89, v90, v91, v92, v93, v94, v95, v96, v97, v98, v99, v100, v101, v102, v103, v104, v105, v106, v107, v108, v109, v110, v111, v112, v113, v114, v115, v116, v117, v118, v119, v120, v121, v122, v123, v124, v125, v126, v127, v128, v129, v130, v131, v132, v133, v134, v135, v136, v137, v138, v139, v140, v141, v142, v143, v144, v145, v146, v147, v148, v149, v150, v151, v152, v153, v154, v155, v156, v157, v158, v159, v160, v161, v162, v163, v164, v165, v166, v167, v168, v169, v170, v171, v172, v173, v174, v175, v176, v177, v178, v179, v180, v181, v182, v183, v184, v185, v186, v187, v188, v189, v190, v191, v192, v193, v194, v195, v196, v197, v198, v199, v200, v201, v202, v203, v204, v205, v206, v207, v208, v209, v210, v211, v212, v213, v214, v215, v216, v217, v218, v219, v220], []⟩ wr := by
 conv => arg 2; whnf
 have s0 := Ws.here (aX hStr.box 0 rfl)
 have s1 := Ws.here (aX hStr.box 1 rfl)
 have s2 := Ws.here (aX hStr.box 2 rfl)
 have s3 := Ws.here (aX hStr.box 3 rfl)
 have k0 := Ws.here c0
 have k1 := Ws.here c1'
 have k2 := Ws.here c2
 have k3 := Ws.here c3
 have k4 := Ws.here c4
 have k5 := Ws.here c5
 have k6 := Ws.here c6
 have k7 := Ws.here c7
 have k8 := Ws.here c8
 have k9 := Ws.here c9
 clear c0 c1' c2 c3 c4 c5 c6 c7 c8 c9
 refine bG (fun w' => ∃ u : Ws wr.heap.size wr, w' = u.val) (fun j => decide (j < 6) || (decide (j = 10) || decide (j = 11))) 15 _ (by kernel_rfl) rfl rfl ?_
 refine aY 10 [0, 1, 2, 3, 4] rfl _ rfl (by kernel_rfl) hq ⟨⟨_, (zD).drew⟩, rfl⟩ ?_
 simp only [zK, zM, zI, zJ]
 repeat (go_big_quiet_step (fail))
 refine wpQuiet_nil ?_
 clear s0 s1 s2 s3 k0 k1 k2 k3 k4 k5 k6 k7 k8 k9
 refine CD 5 10 11 _ _ _ (by kernel_rfl) (by kernel_rfl) rfl rfl rfl ?_ ?_ ?_
 ·have hW0 : Below wr.heap.size wr wr.drew := (zD).drew
  intro K hK
  simp only [zI, zJ]
  go_wp2_with fail
  refine (hdr wr.drew hW0).mono ?_
  rintro e y1 ⟨E, an, al, nn, r1, vB1, vV1, vK1, rfl, hby1, hO, hN⟩
  obtain ⟨x5, c5, X5, C5, Y5, D5, rfl, rfl, rfl⟩ := hO.slices
  have hO := hO.low (Nat.le_trans hBr.size hW0.size)
  go_wp2_with fail
  have hW1 : Below wr.heap.size wr y1 := hW0.trans (hby1.mono hW0.size)
  refine aD (hK.out _ _ ⟨⟨_, hW1⟩, rfl⟩ ?_)
  clear hK K
  refine fA 5 [6, 7, 8, 9] rfl _ rfl (by kernel_rfl) hq ?_
  simp only [zK, zM, zI, zJ]
  repeat (go_big_quiet_step (fail))
  refine wpQuiet_nil ?_
  refine dU 10 11 _ _ _ _ (by kernel_rfl) (by kernel_rfl) rfl rfl rfl rfl ?_ ?_
  ·intro K hK
   simp only [zI, zJ]
   go_wp2_with fail
   obtain ⟨y2, hwy2⟩ : ∃ W, W = y1.alloc (kP 0 (.slice none 0 0) (.slice none 0 0) (.slice none 0 0)) := ⟨_, rfl⟩
   rw [← hwy2]
   have hby2 : Below y1.heap.size y1 y2 := by rw [hwy2]; exact bl1 y1 _
   have hx10 : y2.heap[y1.heap.size]? = some (kP 0 (.slice none 0 0) (.slice none 0 0) (.slice none 0 0)) := by rw [hwy2]; exact aB _ rfl
   clear hwy2
   have hW2 : Below wr.heap.size wr y2 := hW1.trans (hby2.mono hW1.size)
   refine aD (hK.out _ _ ⟨⟨_, hW2⟩, rfl⟩ ?_)
   clear hK K
   refine aS 11 _ _ (by kernel_rfl) (by kernel_rfl) rfl rfl ?_
   intro K hK
   simp only [zI, zJ]
   go_wp2_with fail
   obtain ⟨y3, hwy3⟩ : ∃ W, W = y2.alloc (rT 0 0 0 0) := ⟨_, rfl⟩
   rw [← hwy3]
   have hby3 : Below y2.heap.size y2 y3 := by rw [hwy3]; exact bl1 y2 _
   have hx11 : y3.heap[y2.heap.size]? = some (rT 0 0 0 0) := by rw [hwy3]; exact aB _ rfl
   clear hwy3
   have hW3 : Below wr.heap.size wr y3 := hW2.trans (hby3.mono hW2.size)
   refine aD (hK.out _ _ ⟨⟨_, hW3⟩, rfl⟩ ?_)
   clear hK K
   have hy10 := aA hby3 (hx10)
   have hy11 := hx11
   have hO3 := ((hO).later hby2).later hby3
   have e0 : wr.heap.size ≤ y1.heap.size := hby1.size
   have e1 : y1.heap.size ≤ y2.heap.size := hby2.size
   have e2 : y2.heap.size ≤ y3.heap.size := hby3.size
   have l10 : y1.heap.size < y2.heap.size := (zG hx10)
   have l11 : y2.heap.size < y3.heap.size := (zG hx11)
   have nq1 : ¬ y1.heap.size = y2.heap.size := by omega
   have nq2 : ¬ y2.heap.size = y1.heap.size := by omega
   have hz10 : wr.heap.size ≤ y1.heap.size := hW1.size
   have hz11 : wr.heap.size ≤ y2.heap.size := hW2.size
   clear hdr hO
   refine aU [12, 13, 14] rfl (by kernel_rfl) ?_
   simp only [zK, zM, zI, zJ]
   obtain ⟨p0, p1, p2, p3⟩ := dN hy10 rfl rfl rfl rfl
   obtain ⟨pz0, pz1, pz2, pz3⟩ := iH hy10
   obtain ⟨q0, q1, q2, q3⟩ := dN hy11 rfl rfl rfl rfl
   obtain ⟨qz0, qz1, qz2, qz3⟩ := iH hy11
   go_wp2_with fail
   exact hend _ _ _ _ _ _ _ _ _ _ _ _ E an al nn r1 _ _ _ _ hz10 hz11 (cW hy10 hy11 nq1 hz10 hz11 hW3 hO3).1 (cW hy10 hy11 nq1 hz10 hz11 hW3 hO3).2.1 (cW hy10 hy11 nq1 hz10 hz11 hW3 hO3).2.2.1 (cW hy10 hy11 nq1 hz10 hz11 hW3 hO3).2.2.2 hN
  ·intro K hK
   simp only [zI, zJ]
   go_wp2_with fail
   obtain ⟨y2, hwy2⟩ : ∃ W, W = y1.alloc (rT 0 0 0 0) := ⟨_, rfl⟩
   rw [← hwy2]
   have hby2 : Below y1.heap.size y1 y2 := by rw [hwy2]; exact bl1 y1 _
   have hx11 : y2.heap[y1.heap.size]? = some (rT 0 0 0 0) := by rw [hwy2]; exact aB _ rfl
   clear hwy2
   have hW2 : Below wr.heap.size wr y2 := hW1.trans (hby2.mono hW1.size)
   refine aD (hK.out _ _ ⟨⟨_, hW2⟩, rfl⟩ ?_)
   clear hK K
   refine aS 10 _ _ (by kernel_rfl) (by kernel_rfl) rfl rfl ?_
   intro K hK
   simp only [zI, zJ]
   go_wp2_with fail
   obtain ⟨y3, hwy3⟩ : ∃ W, W = y2.alloc (kP 0 (.slice none 0 0) (.slice none 0 0) (.slice none 0 0)) := ⟨_, rfl⟩
   rw [← hwy3]
   have hby3 : Below y2.heap.size y2 y3 := by rw [hwy3]; exact bl1 y2 _
   have hx10 : y3.heap[y2.heap.size]? = some (kP 0 (.slice none 0 0) (.slice none 0 0) (.slice none 0 0)) := by rw [hwy3]; exact aB _ rfl
   clear hwy3
   have hW3 : Below wr.heap.size wr y3 := hW2.trans (hby3.mono hW2.size)
   refine aD (hK.out _ _ ⟨⟨_, hW3⟩, rfl⟩ ?_)
   clear hK K
   have hy10 := hx10
   have hy11 := aA hby3 (hx11)
   have hO3 := ((hO).later hby2).later hby3
   have e0 : wr.heap.size ≤ y1.heap.size := hby1.size
   have e1 : y1.heap.size ≤ y2.heap.size := hby2.size
   have e2 : y2.heap.size ≤ y3.heap.size := hby3.size
   have l10 : y2.heap.size < y3.heap.size := (zG hx10)
   have l11 : y1.heap.size < y2.heap.size := (zG hx11)
   have nq1 : ¬ y2.heap.size = y1.heap.size := by omega
   have nq2 : ¬ y1.heap.size = y2.heap.size := by omega
   have hz10 : wr.heap.size ≤ y2.heap.size := hW2.size
   have hz11 : wr.heap.size ≤ y1.heap.size := hW1.size
   clear hdr hO
   refine aU [12, 13, 14] rfl (by kernel_rfl) ?_
   simp only [zK, zM, zI, zJ]
   obtain ⟨p0, p1, p2, p3⟩ := dN hy10 rfl rfl rfl rfl
   obtain ⟨pz0, pz1, pz2, pz3⟩ := iH hy10
   obtain ⟨q0, q1, q2, q3⟩ := dN hy11 rfl rfl rfl rfl
   obtain ⟨qz0, qz1, qz2, qz3⟩ := iH hy11
   go_wp2_with fail
   exact hend _ _ _ _ _ _ _ _ _ _ _ _ E an al nn r1 _ _ _ _ hz10 hz11 (cW hy10 hy11 nq1 hz10 hz11 hW3 hO3).1 (cW hy10 hy11 nq1 hz10 hz11 hW3 hO3).2.1 (cW hy10 hy11 nq1 hz10 hz11 hW3 hO3).2.2.1 (cW hy10 hy11 nq1 hz10 hz11 hW3 hO3).2.2.2 hN
 ·have hW0 : Below wr.heap.size wr wr.drew := (zD).drew
  intro K hK
  simp only [zI, zJ]
  go_wp2_with fail
  obtain ⟨y1, hwy1⟩ : ∃ W, W = (wr.alloc (kP 0 (.slice none 0 0) (.slice none 0 0) (.slice none 0 0))).drew := ⟨_, rfl⟩
  rw [← hwy1]
  have hby1 : Below wr.drew.heap.size wr.drew y1 := by rw [hwy1]; exact ⟨rfl, rfl, rfl, (bl1 wr _).size, (bl1 wr _).block⟩
  have hx10 : y1.heap[wr.heap.size]? = some (kP 0 (.slice none 0 0) (.slice none 0 0) (.slice none 0 0)) := by rw [hwy1]; exact aB (W := wr) _ rfl
  clear hwy1
  have hW1 : Below wr.heap.size wr y1 := hW0.trans (hby1.mono hW0.size)
  refine aD (hK.out _ _ ⟨⟨_, hW1⟩, rfl⟩ ?_)
  clear hK K
  refine dU 5 11 _ _ _ _ (by kernel_rfl) (by kernel_rfl) rfl rfl rfl rfl ?_ ?_
  ·intro K hK
   simp only [zI, zJ]
   go_wp2_with fail
   refine (hdr y1 hW1).mono ?_
   rintro e y2 ⟨E, an, al, nn, r1, vB1, vV1, vK1, rfl, hby2, hO, hN⟩
   obtain ⟨x5, c5, X5, C5, Y5, D5, rfl, rfl, rfl⟩ := hO.slices
   have hO := hO.low (Nat.le_trans hBr.size hW1.size)
   go_wp2_with fail
   have hW2 : Below wr.heap.size wr y2 := hW1.trans (hby2.mono hW1.size)
   refine aD (hK.out _ _ ⟨⟨_, hW2⟩, rfl⟩ ?_)
   clear hK K
   refine fA 4 [6, 7, 8, 9] rfl _ rfl (by kernel_rfl) hq ?_
   simp only [zK, zM, zI, zJ]
   repeat (go_big_quiet_step (fail))
   refine wpQuiet_nil ?_
   refine aS 11 _ _ (by kernel_rfl) (by kernel_rfl) rfl rfl ?_
   intro K hK
   simp only [zI, zJ]
   go_wp2_with fail
   obtain ⟨y3, hwy3⟩ : ∃ W, W = y2.alloc (rT 0 0 0 0) := ⟨_, rfl⟩
   rw [← hwy3]
   have hby3 : Below y2.heap.size y2 y3 := by rw [hwy3]; exact bl1 y2 _
   have hx11 : y3.heap[y2.heap.size]? = some (rT 0 0 0 0) := by rw [hwy3]; exact aB _ rfl
   clear hwy3
   have hW3 : Below wr.heap.size wr y3 := hW2.trans (hby3.mono hW2.size)
   refine aD (hK.out _ _ ⟨⟨_, hW3⟩, rfl⟩ ?_)
   clear hK K
   have hy10 := aA hby3 (aA hby2 (hx10))
   have hy11 := hx11
   have hO3 := (hO).later hby3
   have e0 : wr.heap.size ≤ y1.heap.size := hby1.size
   have e1 : y1.heap.size ≤ y2.heap.size := hby2.size
   have e2 : y2.heap.size ≤ y3.heap.size := hby3.size
   have l10 : wr.heap.size < y1.heap.size := (zG hx10)
   have l11 : y2.heap.size < y3.heap.size := (zG hx11)
   have nq1 : ¬ wr.heap.size = y2.heap.size := by omega
   have nq2 : ¬ y2.heap.size = wr.heap.size := by omega
   have hz10 : wr.heap.size ≤ wr.heap.size := zE
   have hz11 : wr.heap.size ≤ y2.heap.size := hW2.size
   clear hdr hO
   refine aU [12, 13, 14] rfl (by kernel_rfl) ?_
   simp only [zK, zM, zI, zJ]
   obtain ⟨p0, p1, p2, p3⟩ := dN hy10 rfl rfl rfl rfl
   obtain ⟨pz0, pz1, pz2, pz3⟩ := iH hy10
   obtain ⟨q0, q1, q2, q3⟩ := dN hy11 rfl rfl rfl rfl
   obtain ⟨qz0, qz1, qz2, qz3⟩ := iH hy11
   go_wp2_with fail
   exact hend _ _ _ _ _ _ _ _ _ _ _ _ E an al nn r1 _ _ _ _ hz10 hz11 (cW hy10 hy11 nq1 hz10 hz11 hW3 hO3).1 (cW hy10 hy11 nq1 hz10 hz11 hW3 hO3).2.1 (cW hy10 hy11 nq1 hz10 hz11 hW3 hO3).2.2.1 (cW hy10 hy11 nq1 hz10 hz11 hW3 hO3).2.2.2 hN
  ·intro K hK
   simp only [zI, zJ]
   go_wp2_with fail
   obtain ⟨y2, hwy2⟩ : ∃ W, W = y1.alloc (rT 0 0 0 0) := ⟨_, rfl⟩
   rw [← hwy2]
   have hby2 : Below y1.heap.size y1 y2 := by rw [hwy2]; exact bl1 y1 _
   have hx11 : y2.heap[y1.heap.size]? = some (rT 0 0 0 0) := by rw [hwy2]; exact aB _ rfl
   clear hwy2
   have hW2 : Below wr.heap.size wr y2 := hW1.trans (hby2.mono hW1.size)
   refine aD (hK.out _ _ ⟨⟨_, hW2⟩, rfl⟩ ?_)
   clear hK K
   refine aS 5 _ _ (by kernel_rfl) (by kernel_rfl) rfl rfl ?_
   intro K hK
   simp only [zI, zJ]
   go_wp2_with fail
   refine (hdr y2 hW2).mono ?_
   rintro e y3 ⟨E, an, al, nn, r1, vB1, vV1, vK1, rfl, hby3, hO, hN⟩
   obtain ⟨x5, c5, X5, C5, Y5, D5, rfl, rfl, rfl⟩ := hO.slices
   have hO := hO.low (Nat.le_trans hBr.size hW2.size)
   go_wp2_with fail
   have hW3 : Below wr.heap.size wr y3 := hW2.trans (hby3.mono hW2.size)
   refine aD (hK.out _ _ ⟨⟨_, hW3⟩, rfl⟩ ?_)
   clear hK K
   refine fA 3 [6, 7, 8, 9] rfl _ rfl (by kernel_rfl) hq ?_
   simp only [zK, zM, zI, zJ]
   repeat (go_big_quiet_step (fail))
   refine wpQuiet_nil ?_
   have hy10 := aA hby3 (aA hby2 (hx10))
   have hy11 := aA hby3 (hx11)
   have hO3 := hO
   have e0 : wr.heap.size ≤ y1.heap.size := hby1.size
   have e1 : y1.heap.size ≤ y2.heap.size := hby2.size
   have e2 : y2.heap.size ≤ y3.heap.size := hby3.size
   have l10 : wr.heap.size < y1.heap.size := (zG hx10)
   have l11 : y1.heap.size < y2.heap.size := (zG hx11)
   have nq1 : ¬ wr.heap.size = y1.heap.size := by omega
   have nq2 : ¬ y1.heap.size = wr.heap.size := by omega
   have hz10 : wr.heap.size ≤ wr.heap.size := zE
   have hz11 : wr.heap.size ≤ y1.heap.size := hW1.size
   clear hdr hO
   refine aU [12, 13, 14] rfl (by kernel_rfl) ?_
   simp only [zK, zM, zI, zJ]
   obtain ⟨p0, p1, p2, p3⟩ := dN hy10 rfl rfl rfl rfl
   obtain ⟨pz0, pz1, pz2, pz3⟩ := iH hy10
   obtain ⟨q0, q1, q2, q3⟩ := dN hy11 rfl rfl rfl rfl
   obtain ⟨qz0, qz1, qz2, qz3⟩ := iH hy11
   go_wp2_with fail
   exact hend _ _ _ _ _ _ _ _ _ _ _ _ E an al nn r1 _ _ _ _ hz10 hz11 (cW hy10 hy11 nq1 hz10 hz11 hW3 hO3).1 (cW hy10 hy11 nq1 hz10 hz11 hW3 hO3).2.1 (cW hy10 hy11 nq1 hz10 hz11 hW3 hO3).2.2.1 (cW hy10 hy11 nq1 hz10 hz11 hW3 hO3).2.2.2 hN
 ·have hW0 : Below wr.heap.size wr wr.drew := (zD).drew
  intro K hK
  simp only [zI, zJ]
  go_wp2_with fail
  obtain ⟨y1, hwy1⟩ : ∃ W, W = (wr.alloc (rT 0 0 0 0)).drew := ⟨_, rfl⟩
  rw [← hwy1]
  have hby1 : Below wr.drew.heap.size wr.drew y1 := by rw [hwy1]; exact ⟨rfl, rfl, rfl, (bl1 wr _).size, (bl1 wr _).block⟩
  have hx11 : y1.heap[wr.heap.size]? = some (rT 0 0 0 0) := by rw [hwy1]; exact aB (W := wr) _ rfl
  clear hwy1
  have hW1 : Below wr.heap.size wr y1 := hW0.trans (hby1.mono hW0.size)
  refine aD (hK.out _ _ ⟨⟨_, hW1⟩, rfl⟩ ?_)
  clear hK K
  refine dU 5 10 _ _ _ _ (by kernel_rfl) (by kernel_rfl) rfl rfl rfl rfl ?_ ?_
  ·intro K hK
   simp only [zI, zJ]
   go_wp2_with fail
   refine (hdr y1 hW1).mono ?_
   rintro e y2 ⟨E, an, al, nn, r1, vB1, vV1, vK1, rfl, hby2, hO, hN⟩
   obtain ⟨x5, c5, X5, C5, Y5, D5, rfl, rfl, rfl⟩ := hO.slices
   have hO := hO.low (Nat.le_trans hBr.size hW1.size)
   go_wp2_with fail
   have hW2 : Below wr.heap.size wr y2 := hW1.trans (hby2.mono hW1.size)
   refine aD (hK.out _ _ ⟨⟨_, hW2⟩, rfl⟩ ?_)
   clear hK K
   refine fA 4 [6, 7, 8, 9] rfl _ rfl (by kernel_rfl) hq ?_
   simp only [zK, zM, zI, zJ]
   repeat (go_big_quiet_step (fail))
   refine wpQuiet_nil ?_
   refine aS 10 _ _ (by kernel_rfl) (by kernel_rfl) rfl rfl ?_
   intro K hK
   simp only [zI, zJ]
   go_wp2_with fail
   obtain ⟨y3, hwy3⟩ : ∃ W, W = y2.alloc (kP 0 (.slice none 0 0) (.slice none 0 0) (.slice none 0 0)) := ⟨_, rfl⟩
   rw [← hwy3]
   have hby3 : Below y2.heap.size y2 y3 := by rw [hwy3]; exact bl1 y2 _
   have hx10 : y3.heap[y2.heap.size]? = some (kP 0 (.slice none 0 0) (.slice none 0 0) (.slice none 0 0)) := by rw [hwy3]; exact aB _ rfl
   clear hwy3
   have hW3 : Below wr.heap.size wr y3 := hW2.trans (hby3.mono hW2.size)
   refine aD (hK.out _ _ ⟨⟨_, hW3⟩, rfl⟩ ?_)
   clear hK K
   have hy10 := hx10
   have hy11 := aA hby3 (aA hby2 (hx11))
   have hO3 := (hO).later hby3
   have e0 : wr.heap.size ≤ y1.heap.size := hby1.size
   have e1 : y1.heap.size ≤ y2.heap.size := hby2.size
   have e2 : y2.heap.size ≤ y3.heap.size := hby3.size
   have l10 : y2.heap.size < y3.heap.size := (zG hx10)
   have l11 : wr.heap.size < y1.heap.size := (zG hx11)
   have nq1 : ¬ y2.heap.size = wr.heap.size := by omega
   have nq2 : ¬ wr.heap.size = y2.heap.size := by omega
   have hz10 : wr.heap.size ≤ y2.heap.size := hW2.size
   have hz11 : wr.heap.size ≤ wr.heap.size := zE
   clear hdr hO
   refine aU [12, 13, 14] rfl (by kernel_rfl) ?_
   simp only [zK, zM, zI, zJ]
   obtain ⟨p0, p1, p2, p3⟩ := dN hy10 rfl rfl rfl rfl
   obtain ⟨pz0, pz1, pz2, pz3⟩ := iH hy10
   obtain ⟨q0, q1, q2, q3⟩ := dN hy11 rfl rfl rfl rfl
   obtain ⟨qz0, qz1, qz2, qz3⟩ := iH hy11
   go_wp2_with fail
   exact hend _ _ _ _ _ _ _ _ _ _ _ _ E an al nn r1 _ _ _ _ hz10 hz11 (cW hy10 hy11 nq1 hz10 hz11 hW3 hO3).1 (cW hy10 hy11 nq1 hz10 hz11 hW3 hO3).2.1 (cW hy10 hy11 nq1 hz10 hz11 hW3 hO3).2.2.1 (cW hy10 hy11 nq1 hz10 hz11 hW3 hO3).2.2.2 hN
  ·intro K hK
   simp only [zI, zJ]
   go_wp2_with fail
   obtain ⟨y2, hwy2⟩ : ∃ W, W = y1.alloc (kP 0 (.slice none 0 0) (.slice none 0 0) (.slice none 0 0)) := ⟨_, rfl⟩
   rw [← hwy2]
   have hby2 : Below y1.heap.size y1 y2 := by rw [hwy2]; exact bl1 y1 _
   have hx10 : y2.heap[y1.heap.size]? = some (kP 0 (.slice none 0 0) (.slice none 0 0) (.slice none 0 0)) := by rw [hwy2]; exact aB _ rfl
   clear hwy2
   have hW2 : Below wr.heap.size wr y2 := hW1.trans (hby2.mono hW1.size)
   refine aD (hK.out _ _ ⟨⟨_, hW2⟩, rfl⟩ ?_)
   clear hK K
   refine aS 5 _ _ (by kernel_rfl) (by kernel_rfl) rfl rfl ?_
   intro K hK
   simp only [zI, zJ]
   go_wp2_with fail
   refine (hdr y2 hW2).mono ?_
   rintro e y3 ⟨E, an, al, nn, r1, vB1, vV1, vK1, rfl, hby3, hO, hN⟩
   obtain ⟨x5, c5, X5, C5, Y5, D5, rfl, rfl, rfl⟩ := hO.slices
   have hO := hO.low (Nat.le_trans hBr.size hW2.size)
   go_wp2_with fail
   have hW3 : Below wr.heap.size wr y3 := hW2.trans (hby3.mono hW2.size)
   refine aD (hK.out _ _ ⟨⟨_, hW3⟩, rfl⟩ ?_)
   clear hK K
   refine fA 3 [6, 7, 8, 9] rfl _ rfl (by kernel_rfl) hq ?_
   simp only [zK, zM, zI, zJ]
   repeat (go_big_quiet_step (fail))
   refine wpQuiet_nil ?_
   have hy10 := aA hby3 (hx10)
   have hy11 := aA hby3 (aA hby2 (hx11))
   have hO3 := hO
   have e0 : wr.heap.size ≤ y1.heap.size := hby1.size
   have e1 : y1.heap.size ≤ y2.heap.size := hby2.size
   have e2 : y2.heap.size ≤ y3.heap.size := hby3.size
   have l10 : y1.heap.size < y2.heap.size := (zG hx10)
   have l11 : wr.heap.size < y1.heap.size := (zG hx11)
   have nq1 : ¬ y1.heap.size = wr.heap.size := by omega
   have nq2 : ¬ wr.heap.size = y1.heap.size := by omega
   have hz10 : wr.heap.size ≤ y1.heap.size := hW1.size
   have hz11 : wr.heap.size ≤ wr.heap.size := zE
   clear hdr hO
   refine aU [12, 13, 14] rfl (by kernel_rfl) ?_
   simp only [zK, zM, zI, zJ]
   obtain ⟨p0, p1, p2, p3⟩ := dN hy10 rfl rfl rfl rfl
   obtain ⟨pz0, pz1, pz2, pz3⟩ := iH hy10
   obtain ⟨q0, q1, q2, q3⟩ := dN hy11 rfl rfl rfl rfl
   obtain ⟨qz0, qz1, qz2, qz3⟩ := iH hy11
   go_wp2_with fail
   exact hend _ _ _ _ _ _ _ _ _ _ _ _ E an al nn r1 _ _ _ _ hz10 hz11 (cW hy10 hy11 nq1 hz10 hz11 hW3 hO3).1 (cW hy10 hy11 nq1 hz10 hz11 hW3 hO3).2.1 (cW hy10 hy11 nq1 hz10 hz11 hW3 hO3).2.2.1 (cW hy10 hy11 nq1 hz10 hz11 hW3 hO3).2.2.2 hN
theorem SE {b5 b8 b2 bB : Bool} (m0 : wr.cell? ⟨mb, mo + q * 10, none⟩ = some (.int .i64 cd.op)) (m1 : wr.cell? ⟨mb, mo + q * 10 + 1, none⟩ = some (.int .i64 cd.A)) (m2 : wr.cell? ⟨mb, mo + q * 10 + 2, none⟩ = some (.int .i64 cd.B)) (hj : wr.cell? ⟨bq, 2, none⟩ = some (.int .i64 p)) (h5 : (cd.op == 5) = b5) (h8' : (cd.op == 8) = b8) (h2' : (cd.op == 2) = b2) (hA : (cd.A == p) = bA) (hB : (cd.B == p) = bB) (hq1 : (q : Int) < n1) (hq2 : (0 : Int) ≤ q)
  (hend : ∀ (u123 u124 u125 u126 u127 u128 u129 u130 u131 u132 u133 u134 u135 u136 u137 u138 u139 u140 u141 u142 u143 u144 u145 u146 u147 u148 u149 u150 u151 u152 u153 u154 u155 u156 u157 u158 u159 u160 u161 u162 u163 u164 u165 u166 u167 u168 u169 u170 u171 u172 u173 u174 : Value) (wz : World), Below wr.heap.size wr wz → Q .normal ⟨#[v0, .slice (some ⟨mb, mo, none⟩) n1 c1, v2, v3, v4, v5, v6, v7, v8, v9, v10, v11, v12, .pointer (some ⟨bq, 0, none⟩), v14, v15, v16, v17, v18, .int .i64 (q : Int), v20, v21, v22, .bool ((b5 && bA) || (b8 && bB) || (b2 && bB)), v24, v25, v26, v27, v28, v29, v30, v31, v32, v33, v34, v35, v36, v37, v38, v39, v40, v41, v42, v43, v44, v45, v46, v47, v48, v49, v50, v51, v52, v53, v54, v55, v56, v57, v58, v59, v60, v61, v62, v63, v64, v65, v66, v67, v68, v69, v70, v71, v72, v73, v74, v75, v76, v77, v78, v79, v80, v81, v82, v83, v84, v85, v86, v87, v88, v89, v90, v91, v92, v93, v94, v95, v96, v97, v98, v99, v100, v101, v102, v103, v104, v105, v106, v107, v108, v109, v110, v111, v112, v113, v114, v115, v116, v117, v118, v119, v120, v121, v122, u123, u124, u125, u126, u127, u128, u129, u130, u131, u132, u133, u134, u135, u136, u137, u138, u139, u140, u141, u142, u143, u144, u145, u146, u147, u148, u149, u150, u151, u152, u153, u154, u155, u156, u157, u158, u159, u160, u161, u162, u163, u164, u165, u166, u167, u168, u169, u170, u171, u172, u173, u174, v175, v176, v177, v178, v179, v180, v181, v182, v183, v184, v185, v186, v187, v188, v189, v190, v191, v192, v193, v194, v195, v196, v197, v198, v199, v200, v201, v202, v203, v204, v205, v206, v207, v208, v209, v210, v211, v212, v213, v214, v215, v216, v217, v218, v219, v220], []⟩ wz) :
  Code.wp Tryz.prog ((Tryz.f4.body.bind (gQ 24)).getD .skip) Q ⟨#[v0, .slice (some ⟨mb, mo, none⟩) n1 c1, v2, v3, v4, v5, v6, v7, v8, v9, v10, v11, v12, .pointer (some ⟨bq, 0, none⟩), v14, v15, v16, v17, v18, .int .i64 (q : Int), v20, v21, v22, v23, v24, v25, v26, v27, v28, v29, v30, v31, v32, v33, v34, v35, v36, v37, v38, v39, v40, v41, v42, v43, v44, v45, v46, v47, v48, v49, v50, v51, v52, v53, v54, v55, v56, v57, v58, v59, v60, v61, v62, v63, v64, v65, v66, v67, v68, v69, v70, v71, v72, v73, v74, v75, v76, v77, v78, v79, v80, v81, v82, v83, v84, v85, v86, v87, v88, v89, v90, v91, v92, v93, v94, v95, v96, v97, v98, v99, v100, v101, v102, v103, v104, v105, v106, v107, v108, v109, v110, v111, v112, v113, v114, v115, v116, v117, v118, v119, v120, v121, v122, v123, v124, v125, v126, v127, v128, v129, v130, v131, v132, v133, v134, v135, v136, v137, v138, v139, v140, v141, v142, v143, v144, v145, v146, v147, v148, v149, v150, v151, v152, v153, v154, v155, v156, v157, v158, v159, v160, v161, v162, v163, v164, v165, v166, v167, v168, v169, v170, v171, v172, v173, v174, v175, v176, v177, v178, v179, v180, v181, v182, v183, v184, v185, v186, v187, v188, v189, v190, v191, v192, v193, v194, v195, v196, v197, v198, v199, v200, v201, v202, v203, v204, v205, v206, v207, v208, v209, v210, v211, v212, v213, v214, v215, v216, v217, v218, v219, v220], []⟩ wr := by
 conv => arg 2; whnf
 dsimp only
 have k0 := Ws.here m0
 have k1 := Ws.here m1
 have k2 := Ws.here m2
 have j2 := Ws.here hj
 have hxor : ((b5 && b8) || (b5 && b2) || (b8 && b2)) = false := by
  rw [← h5, ← h8', ← h2', Bool.eq_false_iff]
  intro h
  simp only [Bool.or_eq_true, zH, beq_iff_eq] at h
  omega
 clear m0 m1 m2 hj
 refine aK wr.heap.size (by kernel_rfl) (by kernel_rfl) ?_
 cases b5 <;> cases b8 <;> cases b2 <;> first | exact absurd hxor (by decide) | skip
 ·repeat (go_big_quiet_step (fail))
  refine wpQuiet_nil ?_
  rintro _ ⟨u, rfl⟩
  exact hend _ _ _ _ _ _ _ _ _ _ _ _ _ _ _ _ _ _ _ _ _ _ _ _ _ _ _ _ _ _ _ _ _ _ _ _ _ _ _ _ _ _ _ _ _ _ _ _ _ _ _ _ u.val u.property
 ·cases bB <;>
  ·repeat (go_big_quiet_step (fail))
   refine wpQuiet_nil ?_
   rintro _ ⟨u, rfl⟩
   exact hend _ _ _ _ _ _ _ _ _ _ _ _ _ _ _ _ _ _ _ _ _ _ _ _ _ _ _ _ _ _ _ _ _ _ _ _ _ _ _ _ _ _ _ _ _ _ _ _ _ _ _ _ u.val u.property
 ·cases bB <;>
  ·repeat (go_big_quiet_step (fail))
   refine wpQuiet_nil ?_
   rintro _ ⟨u, rfl⟩
   exact hend _ _ _ _ _ _ _ _ _ _ _ _ _ _ _ _ _ _ _ _ _ _ _ _ _ _ _ _ _ _ _ _ _ _ _ _ _ _ _ _ _ _ _ _ _ _ _ _ _ _ _ _ u.val u.property
 ·cases bA <;>
  ·repeat (go_big_quiet_step (fail))
   refine wpQuiet_nil ?_
   rintro _ ⟨u, rfl⟩
   exact hend _ _ _ _ _ _ _ _ _ _ _ _ _ _ _ _ _ _ _ _ _ _ _ _ _ _ _ _ _ _ _ _ _ _ _ _ _ _ _ _ _ _ _ _ _ _ _ _ _ _ _ _ u.val u.property
theorem SF {b3 : Bool} (m0 : wr.cell? ⟨mb, mo + q * 10, none⟩ = some (.int .i64 cd.op)) (m1 : wr.cell? ⟨mb, mo + q * 10 + 1, none⟩ = some (.int .i64 cd.A)) (hj : wr.cell? ⟨bq, 2, none⟩ = some (.int .i64 p)) (he : wr.cell? ⟨bb, 0, none⟩ = some (.int .i64 E)) (hE : (E == 0) = bE) (h3' : (cd.op == 3) = b3) (hA : (cd.A == p) = bA) (hq1 : (q : Int) < n1) (hq2 : (0 : Int) ≤ q)
  (hend : ∀ (u197 u198 u199 u200 u201 u202 u203 u204 u205 u206 u207 u208 u209 u210 u211 u212 u213 u214 u215 u216 : Value) (wz : World), Below wr.heap.size wr wz → Q .normal ⟨#[v0, .slice (some ⟨mb, mo, none⟩) n1 c1, v2, v3, v4, v5, v6, v7, v8, v9, v10, v11, v12, .pointer (some ⟨bq, 0, none⟩), v14, v15, v16, v17, v18, .int .i64 (q : Int), v20, .pointer (some ⟨bb, 0, none⟩), v22, v23, v24, v25, v26, v27, v28, v29, v30, v31, v32, v33, v34, v35, v36, v37, v38, v39, v40, v41, v42, v43, v44, v45, v46, v47, v48, v49, v50, v51, v52, v53, v54, v55, v56, v57, v58, v59, v60, v61, v62, v63, v64, v65, v66, v67, v68, v69, v70, v71, v72, v73, v74, v75, v76, v77, v78, v79, v80, v81, v82, v83, v84, v85, v86, v87, v88, v89, v90, v91, v92, v93, v94, v95, v96, v97, v98, v99, v100, v101, v102, v103, v104, v105, v106, v107, v108, v109, v110, v111, v112, v113, v114, v115, v116, v117, v118, v119, v120, v121, v122, v123, v124, v125, v126, v127, v128, v129, v130, v131, v132, v133, v134, v135, v136, v137, v138, v139, v140, v141, v142, v143, v144, v145, v146, v147, v148, v149, v150, v151, v152, v153, v154, v155, v156, v157, v158, v159, v160, v161, v162, v163, v164, v165, v166, v167, v168, v169, v170, v171, v172, v173, v174, v175, v176, v177, v178, v179, v180, v181, v182, v183, v184, v185, v186, v187, v188, v189, v190, v191, v192, v193, v194, v195, v196, u197, u198, u199, u200, u201, u202, u203, u204, u205, u206, u207, u208, u209, u210, u211, u212, u213, u214, u215, u216, .bool (bE && b3 && bA), v218, v219, v220], []⟩ wz) :
  Code.wp Tryz.prog ((Tryz.f4.body.bind (gQ 27)).getD .skip) Q ⟨#[v0, .slice (some ⟨mb, mo, none⟩) n1 c1, v2, v3, v4, v5, v6, v7, v8, v9, v10, v11, v12, .pointer (some ⟨bq, 0, none⟩), v14, v15, v16, v17, v18, .int .i64 (q : Int), v20, .pointer (some ⟨bb, 0, none⟩), v22, v23, v24, v25, v26, v27, v28, v29, v30, v31, v32, v33, v34, v35, v36, v37, v38, v39, v40, v41, v42, v43, v44, v45, v46, v47, v48, v49, v50, v51, v52, v53, v54, v55, v56, v57, v58, v59, v60, v61, v62, v63, v64, v65, v66, v67, v68, v69, v70, v71, v72, v73, v74, v75, v76, v77, v78, v79, v80, v81, v82, v83, v84, v85, v86, v87, v88, v89, v90, v91, v92, v93, v94, v95, v96, v97, v98, v99, v100, v101, v102, v103, v104, v105, v106, v107, v108, v109, v110, v111, v112, v113, v114, v115, v116, v117, v118, v119, v120, v121, v122, v123, v124, v125, v126, v127, v128, v129, v130, v131, v132, v133, v134, v135, v136, v137, v138, v139, v140, v141, v142, v143, v144, v145, v146, v147, v148, v149, v150, v151, v152, v153, v154, v155, v156, v157, v158, v159, v160, v161, v162, v163, v164, v165, v166, v167, v168, v169, v170, v171, v172, v173, v174, v175, v176, v177, v178, v179, v180, v181, v182, v183, v184, v185, v186, v187, v188, v189, v190, v191, v192, v193, v194, v195, v196, v197, v198, v199, v200, v201, v202, v203, v204, v205, v206, v207, v208, v209, v210, v211, v212, v213, v214, v215, v216, v217, v218, v219, v220], []⟩ wr := by
 conv => arg 2; whnf
 dsimp only
 have k0 := Ws.here m0
 have k1 := Ws.here m1
 have j2 := Ws.here hj
 have e0 := Ws.here he
 clear m0 m1 hj he
 refine aK wr.heap.size (by kernel_rfl) (by kernel_rfl) ?_
 cases bE
 ·repeat (go_big_quiet_step (fail))
  refine wpQuiet_nil ?_
  rintro _ ⟨u, rfl⟩
  exact hend _ _ _ _ _ _ _ _ _ _ _ _ _ _ _ _ _ _ _ _ u.val u.property
 cases b3
 ·repeat (go_big_quiet_step (fail))
  refine wpQuiet_nil ?_
  rintro _ ⟨u, rfl⟩
  exact hend _ _ _ _ _ _ _ _ _ _ _ _ _ _ _ _ _ _ _ _ u.val u.property
 cases bA <;>
 ·repeat (go_big_quiet_step (fail))
  refine wpQuiet_nil ?_
  rintro _ ⟨u, rfl⟩
  exact hend _ _ _ _ _ _ _ _ _ _ _ _ _ _ _ _ _ _ _ _ u.val u.property
theorem VC {bx ox C ln D : Nat} (s2 : wa.cell? ⟨w1.heap.size, 2, none⟩ = some (.slice (some ⟨bx, ox, none⟩) vs.length C)) (s3 : wa.cell? ⟨w1.heap.size, 3, none⟩ = some (.slice Y ln D)) (d0 : wa.cell? ⟨bx, ox + k * 3, none⟩ = some (.int .i64 (aC vs k).id)) (d1 : wa.cell? ⟨bx, ox + k * 3 + 1, none⟩ = some (.slice (aC vs k).rx (aC vs k).rn (aC vs k).rc)) (d2 : wa.cell? ⟨bx, ox + k * 3 + 2, none⟩ = some (.slice (aC vs k).sx (aC vs k).sn (aC vs k).sc)) (hch : ∀ W, Calls Tryz.prog 7 #[.int .i64 net, .int .i64 (vs.length : Nat)] W fun e w1 => e = .returned (.int .i64 (k : Nat)) ∧ w1 = W) (hi1 : (k : Int) < vs.length) (hi2 : (0 : Int) ≤ k) (hq : ∀ d v c a w, Q (.panic c) (Act.put a d v) w → Q (.panic c) a w)
  (hend : ∀ (u45 u46 u47 u48 u49 u50 u51 u52 u53 u54 u55 : Value) (bp : Nat) (wd : World), Below wa.heap.size wa wd → wd.heap[bp]? = some (T7 (aC vs k)) → Q .normal ⟨#[v0, v1, .int .i64 net, v3, v4, v5, v6, v7, v8, .pointer (some ⟨w1.heap.size, 0, none⟩), v10, v11, .pointer (some ⟨bp, 0, none⟩), v13, v14, v15, v16, v17, v18, v19, v20, v21, v22, v23, v24, v25, v26, v27, v28, v29, v30, v31, v32, v33, v34, v35, v36, v37, v38, v39, v40, v41, v42, v43, v44, u45, u46, u47, u48, u49, u50, u51, u52, u53, u54, u55, v56, v57, v58, v59, v60, v61, v62, v63, v64, v65, v66, v67, v68, v69, v70, v71, v72, v73, v74, v75, v76, v77, v78, v79, v80, v81, v82, v83, v84, v85, v86, v87, v88, v89, v90, v91, v92, v93, v94, v95, v96, v97, v98, v99, v100, v101, v102, v103, v104, v105, v106, v107, v108, v109, v110, v111, v112, v113, v114, v115, v116, v117, v118, v119, v120, v121, v122, v123, v124, v125, v126, v127, v128, v129, v130, v131, v132, v133, v134, v135, v136, v137, v138, v139, v140, v141, v142, v143, v144, v145, v146, v147, v148, v149, v150, v151, v152, v153, v154, v155, v156, v157, v158, v159, v160, v161, v162, v163, v164, v165, v166, v167, v168, v169, v170, v171, v172, v173, v174, v175, v176, v177, v178, v179, v180, v181, v182, v183, v184, v185, v186, v187, v188, v189, v190, v191, v192, v193, v194, v195, v196, v197, v198, v199, v200, v201, v202, v203, v204, v205, v206, v207, v208, v209, v210, v211, v212, v213, v214, v215, v216, v217, v218, v219, v220], []⟩ wd) :
  Code.wp Tryz.prog ((Tryz.f4.body.bind (gQ 4)).getD .skip) Q ⟨#[v0, v1, .int .i64 net, v3, v4, v5, v6, v7, v8, .pointer (some ⟨w1.heap.size, 0, none⟩), v10, v11, v12, v13, v14, v15, v16, v17, v18, v19, v20, v21, v22, v23, v24, v25, v26, v27, v28, v29, v30, v31, v32, v33, v34, v35, v36, v37, v38, v39, v40, v41, v42, v43, v44, v45, v46, v47, v48, v49, v50, v51, v52, v53, v54, v55, v56, v57, v58, v59, v60, v61, v62, v63, v64, v65, v66, v67, v68, v69, v70, v71, v72, v73, v74, v75, v76, v77, v78, v79, v80, v81, v82, v83, v84, v85, v86, v87, v88, v89, v90, v91, v92, v93, v94, v95, v96, v97, v98, v99, v100, v101, v102, v103, v104, v105, v106, v107, v108, v109, v110, v111, v112, v113, v114, v115, v116, v117, v118, v119, v120, v121, v122, v123, v124, v125, v126, v127, v128, v129, v130, v131, v132, v133, v134, v135, v136, v137, v138, v139, v140, v141, v142, v143, v144, v145, v146, v147, v148, v149, v150, v151, v152, v153, v154, v155, v156, v157, v158, v159, v160, v161, v162, v163, v164, v165, v166, v167, v168, v169, v170, v171, v172, v173, v174, v175, v176, v177, v178, v179, v180, v181, v182, v183, v184, v185, v186, v187, v188, v189, v190, v191, v192, v193, v194, v195, v196, v197, v198, v199, v200, v201, v202, v203, v204, v205, v206, v207, v208, v209, v210, v211, v212, v213, v214, v215, v216, v217, v218, v219, v220], []⟩ wa := by
 conv => arg 2; whnf
 dsimp only
 have q2 := Ws.here s2
 have q3 := Ws.here s3
 have b0 := Ws.here d0
 have b1 := Ws.here d1
 have b2 := Ws.here d2
 clear s2 s3 d0 d1 d2
 refine bG (fun w' => ∃ u : Ws wa.heap.size wa, w' = u.val) (fun j => decide (j < 12)) 13 _ (by kernel_rfl) rfl rfl ?_
 refine aY 6 [0, 1, 2, 3, 4, 5, 6] rfl _ rfl (by kernel_rfl) hq ⟨⟨_, (zD).drew⟩, rfl⟩ ?_
 simp only [zK, zM, zI, zJ]
 repeat (go_big_quiet_step (fail))
 refine wpQuiet_nil ?_
 have hzd : Below wa.heap.size wa wa.drew := (zD).drew
 refine dU 7 11 _ _ _ _ (by kernel_rfl) (by kernel_rfl) rfl rfl rfl rfl ?_ ?_
 ·intro K hK
  simp only [zI, zJ]
  go_wp2_with fail
  refine aD (hK.out _ _ ⟨⟨_, hzd⟩, rfl⟩ ?_)
  clear hK K
  refine dU 8 11 _ _ _ _ (by kernel_rfl) (by kernel_rfl) rfl rfl rfl rfl ?_ ?_
  ·intro K hK
   simp only [zI, zJ]
   go_wp2_with fail
   refine (hch _).mono ?_
   rintro e y ⟨rfl, rfl⟩
   go_wp2_with fail
   refine aD (hK.out _ _ ⟨⟨_, hzd⟩, rfl⟩ ?_)
   clear hK K
   refine aY 2 [9, 10] rfl _ rfl (by kernel_rfl) hq ⟨⟨_, hzd⟩, rfl⟩ ?_
   simp only [zK, zM, zI, zJ]
   repeat (go_big_quiet_step (fail))
   refine wpQuiet_nil ?_
   refine aS 11 _ _ (by kernel_rfl) (by kernel_rfl) rfl rfl ?_
   intro K hK
   simp only [zI, zJ]
   go_wp2_with fail
   refine aD (hK.out _ _ ⟨⟨_, (bl1 wa _).drew⟩, rfl⟩ ?_)
   clear hK K
   refine aU [12] rfl (by kernel_rfl) ?_
   simp only [zK, zM, zI, zJ]
   go_wp2_with fail
   exact hend _ _ _ _ _ _ _ _ _ _ _ _ _ ((bl1 wa _).drew) (aB (W := wa) _ rfl)
  ·intro K hK
   simp only [zI, zJ]
   go_wp2_with fail
   obtain ⟨y1, hy1⟩ : ∃ y, y = (wa.alloc (dH 0 (.slice none 0 0) (.slice none 0 0))).drew := ⟨_, rfl⟩
   rw [← hy1]
   have hzy1 : Below wa.heap.size wa y1 := by rw [hy1]; exact (bl1 wa _).drew
   have hx1 : y1.heap[wa.heap.size]? = some (dH 0 (.slice none 0 0) (.slice none 0 0)) := by rw [hy1]; exact aB (W := wa) _ rfl
   clear hy1
   refine aD (hK.out _ _ ⟨⟨_, hzy1⟩, rfl⟩ ?_)
   clear hK K
   refine aS 8 _ _ (by kernel_rfl) (by kernel_rfl) rfl rfl ?_
   intro K hK
   simp only [zI, zJ]
   go_wp2_with fail
   refine (hch _).mono ?_
   rintro e y ⟨rfl, rfl⟩
   go_wp2_with fail
   refine aD (hK.out _ _ ⟨⟨_, hzy1⟩, rfl⟩ ?_)
   clear hK K
   refine aY 1 [9, 10] rfl _ rfl (by kernel_rfl) hq ⟨⟨_, hzy1⟩, rfl⟩ ?_
   simp only [zK, zM, zI, zJ]
   repeat (go_big_quiet_step (fail))
   refine wpQuiet_nil ?_
   refine aU [12] rfl (by kernel_rfl) ?_
   simp only [zK, zM, zI, zJ]
   obtain ⟨p0, p1, p2⟩ := bL hx1 rfl rfl rfl
   obtain ⟨z0, z1, z2⟩ := dS hx1
   go_wp2_with fail
   exact hend _ _ _ _ _ _ _ _ _ _ _ _ _ ((((hzy1).setCell (p := ⟨wa.heap.size, 0, none⟩) (zE) _).setCell (p := ⟨wa.heap.size, 1, none⟩) (zE) _).setCell (p := ⟨wa.heap.size, 2, none⟩) (zE) _) (zC (zC (zC (hx1))))
 ·intro K hK
  simp only [zI, zJ]
  go_wp2_with fail
  obtain ⟨y1, hy1⟩ : ∃ y, y = (wa.alloc (dH 0 (.slice none 0 0) (.slice none 0 0))).drew := ⟨_, rfl⟩
  rw [← hy1]
  have hzy1 : Below wa.heap.size wa y1 := by rw [hy1]; exact (bl1 wa _).drew
  have hx1 : y1.heap[wa.heap.size]? = some (dH 0 (.slice none 0 0) (.slice none 0 0)) := by rw [hy1]; exact aB (W := wa) _ rfl
  clear hy1
  refine aD (hK.out _ _ ⟨⟨_, hzy1⟩, rfl⟩ ?_)
  clear hK K
  refine aS 7 _ _ (by kernel_rfl) (by kernel_rfl) rfl rfl ?_
  intro K hK
  simp only [zI, zJ]
  go_wp2_with fail
  refine aD (hK.out _ _ ⟨⟨_, hzy1⟩, rfl⟩ ?_)
  clear hK K
  refine aS 8 _ _ (by kernel_rfl) (by kernel_rfl) rfl rfl ?_
  intro K hK
  simp only [zI, zJ]
  go_wp2_with fail
  refine (hch _).mono ?_
  rintro e y ⟨rfl, rfl⟩
  go_wp2_with fail
  refine aD (hK.out _ _ ⟨⟨_, hzy1⟩, rfl⟩ ?_)
  clear hK K
  refine aY 1 [9, 10] rfl _ rfl (by kernel_rfl) hq ⟨⟨_, hzy1⟩, rfl⟩ ?_
  simp only [zK, zM, zI, zJ]
  repeat (go_big_quiet_step (fail))
  refine wpQuiet_nil ?_
  refine aU [12] rfl (by kernel_rfl) ?_
  simp only [zK, zM, zI, zJ]
  obtain ⟨p0, p1, p2⟩ := bL hx1 rfl rfl rfl
  obtain ⟨z0, z1, z2⟩ := dS hx1
  go_wp2_with fail
  exact hend _ _ _ _ _ _ _ _ _ _ _ _ _ ((((hzy1).setCell (p := ⟨wa.heap.size, 0, none⟩) (zE) _).setCell (p := ⟨wa.heap.size, 1, none⟩) (zE) _).setCell (p := ⟨wa.heap.size, 2, none⟩) (zE) _) (zC (zC (zC (hx1))))
theorem VD {rb ro j bp : Nat} (hv1 : wb.cell? ⟨bp, 1, none⟩ = some (.slice (some ⟨rb, ro, none⟩) (aC vs k).rn (aC vs k).rc)) (r0 : wb.cell? ⟨rb, ro + j * 3, none⟩ = some (.int .i64 (aJ (aC vs k).rs j).a)) (r1 : wb.cell? ⟨rb, ro + j * 3 + 1, none⟩ = some (.int .i64 (aJ (aC vs k).rs j).l)) (r2 : wb.cell? ⟨rb, ro + j * 3 + 2, none⟩ = some (.int .i64 (aJ (aC vs k).rs j).p)) (hch : ∀ W, Calls Tryz.prog 7 #[.int .i64 part, .int .i64 ((aC vs k).rn : Nat)] W fun e w1 => e = .returned (.int .i64 (j : Nat)) ∧ w1 = W) (hj1 : (j : Int) < (aC vs k).rn) (hj2 : (0 : Int) ≤ j) (hq : ∀ d v c a w, Q (.panic c) (Act.put a d v) w → Q (.panic c) a w)
  (hend : ∀ (u61 u62 u63 u64 u65 u66 u67 u68 u69 : Value) (bq : Nat) (wd : World), Below wb.heap.size wb wd → wd.heap[bq]? = some (xC (aJ (aC vs k).rs j)) → Q .normal ⟨#[v0, v1, v2, .int .i64 part, v4, v5, v6, v7, v8, v9, v10, v11, .pointer (some ⟨bp, 0, none⟩), .pointer (some ⟨bq, 0, none⟩), v14, v15, v16, v17, v18, v19, v20, v21, v22, v23, v24, v25, v26, v27, v28, v29, v30, v31, v32, v33, v34, v35, v36, v37, v38, v39, v40, v41, v42, v43, v44, v45, v46, v47, v48, v49, v50, v51, v52, v53, v54, v55, v56, v57, v58, v59, v60, u61, u62, u63, u64, u65, u66, u67, u68, u69, v70, v71, v72, v73, v74, v75, v76, v77, v78, v79, v80, v81, v82, v83, v84, v85, v86, v87, v88, v89, v90, v91, v92, v93, v94, v95, v96, v97, v98, v99, v100, v101, v102, v103, v104, v105, v106, v107, v108, v109, v110, v111, v112, v113, v114, v115, v116, v117, v118, v119, v120, v121, v122, v123, v124, v125, v126, v127, v128, v129, v130, v131, v132, v133, v134, v135, v136, v137, v138, v139, v140, v141, v142, v143, v144, v145, v146, v147, v148, v149, v150, v151, v152, v153, v154, v155, v156, v157, v158, v159, v160, v161, v162, v163, v164, v165, v166, v167, v168, v169, v170, v171, v172, v173, v174, v175, v176, v177, v178, v179, v180, v181, v182, v183, v184, v185, v186, v187, v188, v189, v190, v191, v192, v193, v194, v195, v196, v197, v198, v199, v200, v201, v202, v203, v204, v205, v206, v207, v208, v209, v210, v211, v212, v213, v214, v215, v216, v217, v218, v219, v220], []⟩ wd) :
  Code.wp Tryz.prog ((Tryz.f4.body.bind (gQ 7)).getD .skip) Q ⟨#[v0, v1, v2, .int .i64 part, v4, v5, v6, v7, v8, v9, v10, v11, .pointer (some ⟨bp, 0, none⟩), v13, v14, v15, v16, v17, v18, v19, v20, v21, v22, v23, v24, v25, v26, v27, v28, v29, v30, v31, v32, v33, v34, v35, v36, v37, v38, v39, v40, v41, v42, v43, v44, v45, v46, v47, v48, v49, v50, v51, v52, v53, v54, v55, v56, v57, v58, v59, v60, v61, v62, v63, v64, v65, v66, v67, v68, v69, v70, v71, v72, v73, v74, v75, v76, v77, v78, v79, v80, v81, v82, v83, v84, v85, v86, v87, v88, v89, v90, v91, v92, v93, v94, v95, v96, v97, v98, v99, v100, v101, v102, v103, v104, v105, v106, v107, v108, v109, v110, v111, v112, v113, v114, v115, v116, v117, v118, v119, v120, v121, v122, v123, v124, v125, v126, v127, v128, v129, v130, v131, v132, v133, v134, v135, v136, v137, v138, v139, v140, v141, v142, v143, v144, v145, v146, v147, v148, v149, v150, v151, v152, v153, v154, v155, v156, v157, v158, v159, v160, v161, v162, v163, v164, v165, v166, v167, v168, v169, v170, v171, v172, v173, v174, v175, v176, v177, v178, v179, v180, v181, v182, v183, v184, v185, v186, v187, v188, v189, v190, v191, v192, v193, v194, v195, v196, v197, v198, v199, v200, v201, v202, v203, v204, v205, v206, v207, v208, v209, v210, v211, v212, v213, v214, v215, v216, v217, v218, v219, v220], []⟩ wb := by
 conv => arg 2; whnf
 dsimp only
 have q1 := Ws.here hv1
 have b0 := Ws.here r0
 have b1 := Ws.here r1
 have b2 := Ws.here r2
 clear hv1 r0 r1 r2
 refine bG (fun w' => ∃ u : Ws wb.heap.size wb, w' = u.val) (fun j => decide (j < 10)) 11 _ (by kernel_rfl) rfl rfl ?_
 refine aY 6 [0, 1, 2, 3, 4] rfl _ rfl (by kernel_rfl) hq ⟨⟨_, (zD).drew⟩, rfl⟩ ?_
 simp only [zK, zM, zI, zJ]
 repeat (go_big_quiet_step (fail))
 refine wpQuiet_nil ?_
 have hzd : Below wb.heap.size wb wb.drew := (zD).drew
 refine dU 5 9 _ _ _ _ (by kernel_rfl) (by kernel_rfl) rfl rfl rfl rfl ?_ ?_
 ·intro K hK
  simp only [zI, zJ]
  go_wp2_with fail
  refine aD (hK.out _ _ ⟨⟨_, hzd⟩, rfl⟩ ?_)
  clear hK K
  refine dU 6 9 _ _ _ _ (by kernel_rfl) (by kernel_rfl) rfl rfl rfl rfl ?_ ?_
  ·intro K hK
   simp only [zI, zJ]
   go_wp2_with fail
   refine (hch _).mono ?_
   rintro e y ⟨rfl, rfl⟩
   go_wp2_with fail
   refine aD (hK.out _ _ ⟨⟨_, hzd⟩, rfl⟩ ?_)
   clear hK K
   refine aY 2 [7, 8] rfl _ rfl (by kernel_rfl) hq ⟨⟨_, hzd⟩, rfl⟩ ?_
   simp only [zK, zM, zI, zJ]
   repeat (go_big_quiet_step (fail))
   refine wpQuiet_nil ?_
   refine aS 9 _ _ (by kernel_rfl) (by kernel_rfl) rfl rfl ?_
   intro K hK
   simp only [zI, zJ]
   go_wp2_with fail
   refine aD (hK.out _ _ ⟨⟨_, (bl1 wb _).drew⟩, rfl⟩ ?_)
   clear hK K
   refine aU [10] rfl (by kernel_rfl) ?_
   simp only [zK, zM, zI, zJ]
   go_wp2_with fail
   exact hend _ _ _ _ _ _ _ _ _ _ _ ((bl1 wb _).drew) (aB (W := wb) _ rfl)
  ·intro K hK
   simp only [zI, zJ]
   go_wp2_with fail
   obtain ⟨y1, hy1⟩ : ∃ y, y = (wb.alloc (xC ⟨0, 0, 0⟩)).drew := ⟨_, rfl⟩
   rw [← hy1]
   have hzy1 : Below wb.heap.size wb y1 := by rw [hy1]; exact (bl1 wb _).drew
   have hx1 : y1.heap[wb.heap.size]? = some (xC ⟨0, 0, 0⟩) := by rw [hy1]; exact aB (W := wb) _ rfl
   clear hy1
   refine aD (hK.out _ _ ⟨⟨_, hzy1⟩, rfl⟩ ?_)
   clear hK K
   refine aS 6 _ _ (by kernel_rfl) (by kernel_rfl) rfl rfl ?_
   intro K hK
   simp only [zI, zJ]
   go_wp2_with fail
   refine (hch _).mono ?_
   rintro e y ⟨rfl, rfl⟩
   go_wp2_with fail
   refine aD (hK.out _ _ ⟨⟨_, hzy1⟩, rfl⟩ ?_)
   clear hK K
   refine aY 1 [7, 8] rfl _ rfl (by kernel_rfl) hq ⟨⟨_, hzy1⟩, rfl⟩ ?_
   simp only [zK, zM, zI, zJ]
   repeat (go_big_quiet_step (fail))
   refine wpQuiet_nil ?_
   refine aU [10] rfl (by kernel_rfl) ?_
   simp only [zK, zM, zI, zJ]
   obtain ⟨p0, p1, p2⟩ := bL hx1 rfl rfl rfl
   obtain ⟨z0, z1, z2⟩ := dS hx1
   go_wp2_with fail
   exact hend _ _ _ _ _ _ _ _ _ _ _ ((((hzy1).setCell (p := ⟨wb.heap.size, 0, none⟩) (zE) _).setCell (p := ⟨wb.heap.size, 1, none⟩) (zE) _).setCell (p := ⟨wb.heap.size, 2, none⟩) (zE) _) (zC (zC (zC (hx1))))
 ·intro K hK
  simp only [zI, zJ]
  go_wp2_with fail
  obtain ⟨y1, hy1⟩ : ∃ y, y = (wb.alloc (xC ⟨0, 0, 0⟩)).drew := ⟨_, rfl⟩
  rw [← hy1]
  have hzy1 : Below wb.heap.size wb y1 := by rw [hy1]; exact (bl1 wb _).drew
  have hx1 : y1.heap[wb.heap.size]? = some (xC ⟨0, 0, 0⟩) := by rw [hy1]; exact aB (W := wb) _ rfl
  clear hy1
  refine aD (hK.out _ _ ⟨⟨_, hzy1⟩, rfl⟩ ?_)
  clear hK K
  refine aS 5 _ _ (by kernel_rfl) (by kernel_rfl) rfl rfl ?_
  intro K hK
  simp only [zI, zJ]
  go_wp2_with fail
  refine aD (hK.out _ _ ⟨⟨_, hzy1⟩, rfl⟩ ?_)
  clear hK K
  refine aS 6 _ _ (by kernel_rfl) (by kernel_rfl) rfl rfl ?_
  intro K hK
  simp only [zI, zJ]
  go_wp2_with fail
  refine (hch _).mono ?_
  rintro e y ⟨rfl, rfl⟩
  go_wp2_with fail
  refine aD (hK.out _ _ ⟨⟨_, hzy1⟩, rfl⟩ ?_)
  clear hK K
  refine aY 1 [7, 8] rfl _ rfl (by kernel_rfl) hq ⟨⟨_, hzy1⟩, rfl⟩ ?_
  simp only [zK, zM, zI, zJ]
  repeat (go_big_quiet_step (fail))
  refine wpQuiet_nil ?_
  refine aU [10] rfl (by kernel_rfl) ?_
  simp only [zK, zM, zI, zJ]
  obtain ⟨p0, p1, p2⟩ := bL hx1 rfl rfl rfl
  obtain ⟨z0, z1, z2⟩ := dS hx1
  go_wp2_with fail
  exact hend _ _ _ _ _ _ _ _ _ _ _ ((((hzy1).setCell (p := ⟨wb.heap.size, 0, none⟩) (zE) _).setCell (p := ⟨wb.heap.size, 1, none⟩) (zE) _).setCell (p := ⟨wb.heap.size, 2, none⟩) (zE) _) (zC (zC (zC (hx1))))
theorem SG {an al ra rl rt co : Int} {gv mt lt : Bool} (a0 : we.cell? ⟨bb, 0, none⟩ = some (.int .i64 E)) (a1 : we.cell? ⟨bb, 1, none⟩ = some (.int .i64 an)) (a2 : we.cell? ⟨bb, 2, none⟩ = some (.int .i64 al)) (j0 : we.cell? ⟨bq, 0, none⟩ = some (.int .i64 ra)) (j1 : we.cell? ⟨bq, 1, none⟩ = some (.int .i64 rl)) (s0 : we.cell? ⟨w1.heap.size, 0, none⟩ = some (.int .i64 rt)) (hmt : fK an al ra rl = mt) (hE : (E == 0) = bE) (hlt : decide (rt < t + co) = lt) (hwr : IntKind.i64.wrap (t + co) = t + co) (hno : bE = true → gv = true → mt = true → lt = true → False) 
  (hend : ∀ (u175 u176 u177 u178 u179 u180 u181 u182 u183 u184 u185 u186 u187 u188 u189 u190 u191 u192 u193 u194 u195 : Value) (wd : World), Below we.heap.size we wd → Q .normal ⟨#[v0, v1, v2, v3, v4, v5, v6, v7, v8, .pointer (some ⟨w1.heap.size, 0, none⟩), v10, v11, v12, .pointer (some ⟨bq, 0, none⟩), v14, .int .i64 co, .int .i64 t, v17, v18, v19, v20, .pointer (some ⟨bb, 0, none⟩), v22, .bool gv, v24, v25, v26, v27, v28, v29, v30, v31, v32, v33, v34, v35, v36, v37, v38, v39, v40, v41, v42, v43, v44, v45, v46, v47, v48, v49, v50, v51, v52, v53, v54, v55, v56, v57, v58, v59, v60, v61, v62, v63, v64, v65, v66, v67, v68, v69, v70, v71, v72, v73, v74, v75, v76, v77, v78, v79, v80, v81, v82, v83, v84, v85, v86, v87, v88, v89, v90, v91, v92, v93, v94, v95, v96, v97, v98, v99, v100, v101, v102, v103, v104, v105, v106, v107, v108, v109, v110, v111, v112, v113, v114, v115, v116, v117, v118, v119, v120, v121, v122, v123, v124, v125, v126, v127, v128, v129, v130, v131, v132, v133, v134, v135, v136, v137, v138, v139, v140, v141, v142, v143, v144, v145, v146, v147, v148, v149, v150, v151, v152, v153, v154, v155, v156, v157, v158, v159, v160, v161, v162, v163, v164, v165, v166, v167, v168, v169, v170, v171, v172, v173, v174, u175, u176, u177, u178, u179, u180, u181, u182, u183, u184, u185, u186, u187, u188, u189, u190, u191, u192, u193, u194, u195, .bool false, v197, v198, v199, v200, v201, v202, v203, v204, v205, v206, v207, v208, v209, v210, v211, v212, v213, v214, v215, v216, v217, v218, v219, v220], []⟩ wd) :
  Code.wp Tryz.prog ((Tryz.f4.body.bind (gQ 25)).getD .skip) Q ⟨#[v0, v1, v2, v3, v4, v5, v6, v7, v8, .pointer (some ⟨w1.heap.size, 0, none⟩), v10, v11, v12, .pointer (some ⟨bq, 0, none⟩), v14, .int .i64 co, .int .i64 t, v17, v18, v19, v20, .pointer (some ⟨bb, 0, none⟩), v22, .bool gv, v24, v25, v26, v27, v28, v29, v30, v31, v32, v33, v34, v35, v36, v37, v38, v39, v40, v41, v42, v43, v44, v45, v46, v47, v48, v49, v50, v51, v52, v53, v54, v55, v56, v57, v58, v59, v60, v61, v62, v63, v64, v65, v66, v67, v68, v69, v70, v71, v72, v73, v74, v75, v76, v77, v78, v79, v80, v81, v82, v83, v84, v85, v86, v87, v88, v89, v90, v91, v92, v93, v94, v95, v96, v97, v98, v99, v100, v101, v102, v103, v104, v105, v106, v107, v108, v109, v110, v111, v112, v113, v114, v115, v116, v117, v118, v119, v120, v121, v122, v123, v124, v125, v126, v127, v128, v129, v130, v131, v132, v133, v134, v135, v136, v137, v138, v139, v140, v141, v142, v143, v144, v145, v146, v147, v148, v149, v150, v151, v152, v153, v154, v155, v156, v157, v158, v159, v160, v161, v162, v163, v164, v165, v166, v167, v168, v169, v170, v171, v172, v173, v174, v175, v176, v177, v178, v179, v180, v181, v182, v183, v184, v185, v186, v187, v188, v189, v190, v191, v192, v193, v194, v195, v196, v197, v198, v199, v200, v201, v202, v203, v204, v205, v206, v207, v208, v209, v210, v211, v212, v213, v214, v215, v216, v217, v218, v219, v220], []⟩ we := by
 conv => arg 2; whnf
 dsimp only
 have hme := DW an al ra rl mt hmt we
 clear hmt
 cases bE
 ·go_wp2_with fail
  first | exact zD | exact hend _ _ _ _ _ _ _ _ _ _ _ _ _ _ _ _ _ _ _ _ _ _ (zD)
 ·cases gv
  ·go_wp2_with fail
   first | exact zD | exact hend _ _ _ _ _ _ _ _ _ _ _ _ _ _ _ _ _ _ _ _ _ _ (zD)
  ·go_wp2_with fail
   refine hme.mono ?_
   rintro e w6 ⟨rfl, hb6⟩
   have s0' := cell_later hb6 s0
   clear s0
   cases mt
   ·go_wp2_with fail
    first | exact hb6 | exact hend _ _ _ _ _ _ _ _ _ _ _ _ _ _ _ _ _ _ _ _ _ _ hb6
   ·cases lt
    ·go_wp2_with fail
     first | exact hb6 | exact hend _ _ _ _ _ _ _ _ _ _ _ _ _ _ _ _ _ _ _ _ _ _ hb6
    ·first | exact (hno rfl rfl rfl rfl).elim | exact hno.elim | (simp at hno)
end Go.Proofs.YtndpilfpejfloaaGreat
