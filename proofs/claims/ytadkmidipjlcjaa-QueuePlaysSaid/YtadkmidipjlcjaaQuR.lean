/-
  The law's append to a row of its own: a region of its own.
-/
import Derived.Test.YtadkmidipjlcjaaQuF
import Derived.Test.YtadkmidipjlcjaaQuW
import Derived.Deep.RegionLawGrows
namespace Go.Proofs.Ytadkmidipjlcjaa.Qu
open Go.RowKit
open Go.Proofs.Ytadkmidipjlcjaa.Row

/-- The region of that number. -/
def regOf (i : Nat) : Code → Option Code
  | .region j o d => if i = j then some (.region j o d) else none
  | .seq a b => match regOf i a with
    | some c => some c
    | none => regOf i b
  | .cond _ a b => match regOf i a with
    | some c => some c
    | none => regOf i b
  | .loop a => regOf i a
  | .block _ a => regOf i a
  | .scope a => regOf i a
  | _ => none
noncomputable def reg20 : Code := (Try.f3.body.bind (regOf 20)).getD .skip

set_option maxRecDepth 100000 in
set_option maxHeartbeats 8000000 in
theorem put_reg (Q : Exit → Act → World → Prop) (pk : Option Addr) (n ck c k LN ca B b off : Nat) (x : Int) (row : List Int) (hn : row.length = n) (w2 : World)
    (hk : k < 4) (hc : c < LN) (_hLN : LN ≤ 200) (hcR : w2.cell? ⟨B + 1, k, none⟩ = some (.slice pk n ck)) (hfR : w2.frozen? ⟨B + 1, k, none⟩ = false) (hc2' : w2.cell? ⟨b, off + c * 3 + 2, none⟩ = some (.int .i64 x)) (hle' : n ≤ ck) (hlk : n ≤ 300)
    (hRC : ∀ Y, Below w2.heap.size w2 Y → ∀ b, pk = some b → ∀ j u, (cellsZ row)[j]? = some u → Y.cell? (b.add j) = some u) (hRN : pk = none → n = 0 ∧ n = 0)
    (v1 v2 v3 v5 v8 v9 v10 v11 v12 v13 v14 v15 v16 v17 v18 v19 v20 v21 v22 v23 v24 v25 v26 v27 v28 v29 v30 v31 v32 v33 v34 v35 v36 v37 v38 v39 v40 v41 v42 v43 v44 v45 v46 v47 v48 v49 v50 v51 v52 v53 v54 v55 v56 v57 v58 v59 v60 v61 v62 v63 v64 v65 v66 v67 v68 v69 v70 v71 v72 v73 v74 v75 v76 v77 v78 v79 v80 v81 v82 v83 v84 v85 v86 v87 v88 v89 v90 v91 v92 v93 v94 v95 v96 v97 v98 v99 v100 v101 v102 v103 v104 v105 v106 v107 v108 v109 v110 v111 v112 v113 v114 v115 v116 v117 v118 v119 v120 v121 v122 v123 v124 v125 v126 v127 v128 v129 v130 v131 v132 v133 v134 v135 v136 v137 v138 v139 v140 v141 v142 v143 v144 v145 v146 v147 v148 v149 v150 v151 v152 v153 v154 v155 v156 v157 v158 v159 v160 v161 v162 v163 v164 v165 v166 v167 v168 v169 v170 v171 v172 v173 v174 v175 v176 v177 v178 v179 v180 v181 v182 v183 v184 v185 v186 v187 v188 v189 v190 v191 v192 v193 v194 v195 v196 v197 v198 v199 v200 v201 v202 v203 v204 v205 v206 v207 v208 v209 v210 v211 v212 v213 v214 v215 v216 v217 v218 v219 v220 v221 v222 v223 v224 v225 v226 v227 v228 v229 v230 v231 v232 v233 v234 v235 v236 v237 v238 v239 v240 v241 v242 v243 v244 v245 v246 v247 v248 v249 : Value)
    (hPn : ∀ ch (a : Act) (dst : Option Nat) v w, Q (.panic ch) (a.put dst v) w → Q (.panic ch) a w)
    (hQ : ∀ (p' : Option Addr) (c' : Nat) (w4 : World) (s69 s70 s71 s72 s73 s74 s75 s76 s77 s78 s79 s80 s81 s82 s83 s84 s85 s86 s87 s88 s89 : Value), Below w2.heap.size w2 w4 → w4.ownsRow w2.heap.size 3 1 (.slice p' (n + 1) c') (n + 1) (cellsZ row ++ [.int .i64 x]) → Q .normal ⟨#[.slice (some ⟨b, off, none⟩) LN ca, v1, v2, v3, .pointer (some ⟨B + 1, 0, none⟩), v5, .int .i64 (c : Int), .int .i64 (k : Int), v8, v9, v10, v11, v12, v13, v14, v15, v16, v17, v18, v19, v20, v21, v22, v23, v24, v25, v26, v27, v28, v29, v30, v31, v32, v33, v34, v35, v36, v37, v38, v39, v40, v41, v42, v43, v44, v45, v46, v47, v48, v49, v50, v51, v52, v53, v54, v55, v56, v57, v58, v59, v60, v61, v62, v63, v64, v65, v66, v67, v68, s69, s70, s71, s72, s73, s74, s75, s76, s77, s78, s79, s80, s81, s82, s83, s84, s85, s86, s87, s88, s89, v90, v91, v92, v93, v94, v95, v96, v97, v98, v99, v100, v101, v102, v103, v104, v105, v106, v107, v108, v109, v110, v111, v112, v113, v114, v115, v116, v117, v118, v119, v120, v121, v122, v123, v124, v125, v126, v127, v128, v129, v130, v131, v132, v133, v134, v135, v136, v137, v138, v139, v140, v141, v142, v143, v144, v145, v146, v147, v148, v149, v150, v151, v152, v153, v154, v155, v156, v157, v158, v159, v160, v161, v162, v163, v164, v165, v166, v167, v168, v169, v170, v171, v172, v173, v174, v175, v176, v177, v178, v179, v180, v181, v182, v183, v184, v185, v186, v187, v188, v189, v190, v191, v192, v193, v194, v195, v196, v197, v198, v199, v200, v201, v202, v203, v204, v205, v206, v207, v208, v209, v210, v211, v212, v213, v214, v215, v216, v217, v218, v219, v220, v221, v222, v223, v224, v225, v226, v227, v228, v229, v230, v231, v232, v233, v234, v235, v236, v237, v238, v239, v240, v241, v242, v243, v244, v245, v246, v247, v248, v249], []⟩ (w4.setCell ⟨B + 1, k, none⟩ (.slice p' (n + 1) c'))) :
    Code.wp Try.prog reg20 Q ⟨#[.slice (some ⟨b, off, none⟩) LN ca, v1, v2, v3, .pointer (some ⟨B + 1, 0, none⟩), v5, .int .i64 (c : Int), .int .i64 (k : Int), v8, v9, v10, v11, v12, v13, v14, v15, v16, v17, v18, v19, v20, v21, v22, v23, v24, v25, v26, v27, v28, v29, v30, v31, v32, v33, v34, v35, v36, v37, v38, v39, v40, v41, v42, v43, v44, v45, v46, v47, v48, v49, v50, v51, v52, v53, v54, v55, v56, v57, v58, v59, v60, v61, v62, v63, v64, v65, v66, v67, v68, v69, v70, v71, v72, v73, v74, v75, v76, v77, v78, v79, v80, v81, v82, v83, v84, v85, v86, v87, v88, v89, v90, v91, v92, v93, v94, v95, v96, v97, v98, v99, v100, v101, v102, v103, v104, v105, v106, v107, v108, v109, v110, v111, v112, v113, v114, v115, v116, v117, v118, v119, v120, v121, v122, v123, v124, v125, v126, v127, v128, v129, v130, v131, v132, v133, v134, v135, v136, v137, v138, v139, v140, v141, v142, v143, v144, v145, v146, v147, v148, v149, v150, v151, v152, v153, v154, v155, v156, v157, v158, v159, v160, v161, v162, v163, v164, v165, v166, v167, v168, v169, v170, v171, v172, v173, v174, v175, v176, v177, v178, v179, v180, v181, v182, v183, v184, v185, v186, v187, v188, v189, v190, v191, v192, v193, v194, v195, v196, v197, v198, v199, v200, v201, v202, v203, v204, v205, v206, v207, v208, v209, v210, v211, v212, v213, v214, v215, v216, v217, v218, v219, v220, v221, v222, v223, v224, v225, v226, v227, v228, v229, v230, v231, v232, v233, v234, v235, v236, v237, v238, v239, v240, v241, v242, v243, v244, v245, v246, v247, v248, v249], []⟩ w2 := by
  conv => arg 2; whnf
  have HQ := Lib.hid hQ
  have HPN := Lib.hid hPn
  have HNN := Lib.hid hn
  have RC := Lib.hid hRC
  have RN := Lib.hid hRN
  clear hQ hPn hn hRC hRN
  have k0 : (0 : Int) ≤ (k : Int) := Int.natCast_nonneg _
  have k4 : (k : Int) < 4 := by omega
  have i1 : (0 : Int) ≤ (c : Int) := Int.natCast_nonneg _
  have i2 : (c : Int) < (LN : Int) := by omega
  have hle : (n : Int) ≤ (ck : Int) := by omega
  have hba : Below w2.heap.size w2 (w2.alloc (.cells #[.int .i64 x] 3)) := (Below.refl _ w2).alloc (Nat.le_refl _) _
  have hcRa := (hba.cell (p := ⟨B + 1, k, none⟩) (World.block_lt_of_cell? w2 _ hcR)).trans hcR
  have hcXa := (hba.cell (p := ⟨b, off + c * 3 + 2, none⟩) (World.block_lt_of_cell? w2 _ hc2')).trans hc2'
  have hb3 : Below w2.heap.size w2 (w2.alloc (.cells #[.int .i64 x] 3)).drew := Below.drew ((Below.refl w2.heap.size w2).alloc (Nat.le_refl _) _)
  have HB9 := Lib.hid hb3
  have HFIN : Hid (∀ w3, Below w2.heap.size w2 w3 → w3.cell? ⟨B + 1, k, none⟩ = some (.slice pk n ck) ∧ w3.frozen? ⟨B + 1, k, none⟩ = false) := Lib.hid fun w3 h => ⟨(h.cell (p := ⟨B + 1, k, none⟩) (World.block_lt_of_cell? w2 _ hcR)).trans hcR, (h.frozen (p := ⟨B + 1, k, none⟩) (World.block_lt_of_cell? w2 _ hcR)).trans hfR⟩
  have HS3 : Hid ((w2.alloc (.cells #[.int .i64 x] 3)).drew.cell? ⟨B + 1, k, none⟩ = some (.slice pk n ck) ∧ (w2.alloc (.cells #[.int .i64 x] 3)).drew.frozen? ⟨B + 1, k, none⟩ = false ∧ (w2.alloc (.cells #[.int .i64 x] 3)).drew.cell? ⟨b, off + c * 3 + 2, none⟩ = some (.int .i64 x)) := Lib.hid ⟨(HFIN.out _ hb3).1, (HFIN.out _ hb3).2, (hb3.cell (p := ⟨b, off + c * 3 + 2, none⟩) (World.block_lt_of_cell? w2 _ hc2')).trans hc2'⟩
  have HX3 : Hid (∀ W, Below w2.heap.size w2 W → W.cell? ⟨b, off + c * 3 + 2, none⟩ = some (.int .i64 x)) := Lib.hid fun W hW => (hW.cell (p := ⟨b, off + c * 3 + 2, none⟩) (World.block_lt_of_cell? w2 _ hc2')).trans hc2'
  clear hba hb3 hc hle' hk
  refine wp_region_E 21 (fun W : World => W.cell? ⟨B + 1, k, none⟩ = some (.slice pk n ck) ∧ W.frozen? ⟨B + 1, k, none⟩ = false ∧ W.cell? ⟨b, off + c * 3 + 2, none⟩ = some (.int .i64 x)) #[false, false, false, false, false, false, false, false, false, false, false, false, false, false, false, false, false, false, false, false, false, false] (by kernel_rfl) (by kernel_rfl) ?_
  have hSw : (fun W : World => W.cell? ⟨B + 1, k, none⟩ = some (.slice pk n ck) ∧ W.frozen? ⟨B + 1, k, none⟩ = false ∧ W.cell? ⟨b, off + c * 3 + 2, none⟩ = some (.int .i64 x)) w2.drew := ⟨hcR, hfR, hc2'⟩
  refine wpAnyE_take 0 (v := ?v0) rfl (by kernel_rfl) (by kernel_rfl) (by kernel_rfl) (by kernel_rfl) (by kernel_rfl) (fun _ _ _ h => HPN.out _ _ _ _ _ h) (Or.inl ⟨by rfl, ?hy0⟩) hSw ?rest0
  case hy0 => (intro W hW; (try dsimp only at hW); go_simp; try with_reducible rfl)
  try simp only [Act.put, List.setIfInBounds_toArray, List.set_cons_zero]
  refine wpAnyE_take 1 (v := ?v1) rfl (by kernel_rfl) (by kernel_rfl) (by kernel_rfl) (by kernel_rfl) (by kernel_rfl) (fun _ _ _ h => HPN.out _ _ _ _ _ h) (Or.inl ⟨by rfl, ?hy1⟩) hSw ?rest1
  case hy1 => (intro W hW; (try dsimp only at hW); go_simp; try with_reducible rfl)
  try simp only [Act.put, List.setIfInBounds_toArray, List.set_cons_zero, List.set_cons_succ]
  refine wpAnyE_take 2 (v := ?v2) rfl (by kernel_rfl) (by kernel_rfl) (by kernel_rfl) (by kernel_rfl) (by kernel_rfl) (fun _ _ _ h => HPN.out _ _ _ _ _ h) (Or.inl ⟨by rfl, ?hy2⟩) hSw ?rest2
  case hy2 => (intro W hW; (try dsimp only at hW); go_simp; try with_reducible rfl)
  try simp only [Act.put, List.setIfInBounds_toArray, List.set_cons_zero, List.set_cons_succ]
  refine wpAnyE_take 3 (v := ?v3) rfl (by kernel_rfl) (by kernel_rfl) (by kernel_rfl) (by kernel_rfl) (by kernel_rfl) (fun _ _ _ h => HPN.out _ _ _ _ _ h) (Or.inl ⟨by rfl, ?hy3⟩) hSw ?rest3
  case hy3 => (intro W hW; (try dsimp only at hW); go_simp; try with_reducible rfl)
  try simp only [Act.put, List.setIfInBounds_toArray, List.set_cons_zero, List.set_cons_succ]
  refine wpAnyE_take 4 (v := ?v4) rfl (by kernel_rfl) (by kernel_rfl) (by kernel_rfl) (by kernel_rfl) (by kernel_rfl) (fun _ _ _ h => HPN.out _ _ _ _ _ h) (Or.inl ⟨by rfl, ?hy4⟩) hSw ?rest4
  case hy4 => (intro W hW; (try dsimp only at hW); go_simp; try with_reducible rfl)
  try simp only [Act.put, List.setIfInBounds_toArray, List.set_cons_zero, List.set_cons_succ]
  refine wpAnyE_take 5 (v := ?v5) rfl (by kernel_rfl) (by kernel_rfl) (by kernel_rfl) (by kernel_rfl) (by kernel_rfl) (fun _ _ _ h => HPN.out _ _ _ _ _ h) (Or.inl ⟨by rfl, ?hy5⟩) hSw ?rest5
  case hy5 => (intro W hW; (try dsimp only at hW); go_simp; try with_reducible rfl)
  try simp only [Act.put, List.setIfInBounds_toArray, List.set_cons_zero, List.set_cons_succ]
  refine wpAnyE_take 6 (v := ?v6) rfl (by kernel_rfl) (by kernel_rfl) (by kernel_rfl) (by kernel_rfl) (by kernel_rfl) (fun _ _ _ h => HPN.out _ _ _ _ _ h) (Or.inl ⟨by rfl, ?hy6⟩) hSw ?rest6
  case hy6 => (intro W hW; (try dsimp only at hW); go_simp; try with_reducible rfl)
  try simp only [Act.put, List.setIfInBounds_toArray, List.set_cons_zero, List.set_cons_succ]
  refine wpAnyE_take 7 (v := ?v7) rfl (by kernel_rfl) (by kernel_rfl) (by kernel_rfl) (by kernel_rfl) (by kernel_rfl) (fun _ _ _ h => HPN.out _ _ _ _ _ h) (Or.inl ⟨by rfl, ?hy7⟩) hSw ?rest7
  case hy7 => (intro W hW; (try dsimp only at hW); go_simp; try with_reducible rfl)
  try simp only [Act.put, List.setIfInBounds_toArray, List.set_cons_zero, List.set_cons_succ]
  refine wpAnyE_take 8 (v := ?v8) rfl (by kernel_rfl) (by kernel_rfl) (by kernel_rfl) (by kernel_rfl) (by kernel_rfl) (fun _ _ _ h => HPN.out _ _ _ _ _ h) (Or.inl ⟨by rfl, ?hy8⟩) hSw ?rest8
  case hy8 => (intro W hW; (try dsimp only at hW); go_simp; try with_reducible rfl)
  try simp only [Act.put, List.setIfInBounds_toArray, List.set_cons_zero, List.set_cons_succ]
  refine wpAnyE_take 9 (v := ?v9) rfl (by kernel_rfl) (by kernel_rfl) (by kernel_rfl) (by kernel_rfl) (by kernel_rfl) (fun _ _ _ h => HPN.out _ _ _ _ _ h) (Or.inl ⟨by rfl, ?hy9⟩) hSw ?rest9
  case hy9 => (intro W hW; (try dsimp only at hW); go_simp; try with_reducible rfl)
  try simp only [Act.put, List.setIfInBounds_toArray, List.set_cons_zero, List.set_cons_succ]
  refine wpAnyE_take 10 (v := ?v10) rfl (by kernel_rfl) (by kernel_rfl) (by kernel_rfl) (by kernel_rfl) (by kernel_rfl) (fun _ _ _ h => HPN.out _ _ _ _ _ h) (Or.inl ⟨by rfl, ?hy10⟩) hSw ?rest10
  case hy10 => (intro W hW; (try dsimp only at hW); go_simp; try with_reducible rfl)
  try simp only [Act.put, List.setIfInBounds_toArray, List.set_cons_zero, List.set_cons_succ]
  refine wpAnyE_take 11 (v := ?v11) rfl (by kernel_rfl) (by kernel_rfl) (by kernel_rfl) (by kernel_rfl) (by kernel_rfl) (fun _ _ _ h => HPN.out _ _ _ _ _ h) (Or.inl ⟨by rfl, ?hy11⟩) hSw ?rest11
  case hy11 => (intro W hW; (try dsimp only at hW); go_simp; try with_reducible rfl)
  try simp only [Act.put, List.setIfInBounds_toArray, List.set_cons_zero, List.set_cons_succ]
  refine wpAnyE_take 12 (v := ?v12) rfl (by kernel_rfl) (by kernel_rfl) (by kernel_rfl) (by kernel_rfl) (by kernel_rfl) (fun _ _ _ h => HPN.out _ _ _ _ _ h) (Or.inl ⟨by rfl, ?hy12⟩) hSw ?rest12
  case hy12 => (intro W hW; (try dsimp only at hW); go_simp; try with_reducible rfl)
  try simp only [Act.put, List.setIfInBounds_toArray, List.set_cons_zero, List.set_cons_succ]
  refine wpAnyE_take 13 (v := ?v13) rfl (by kernel_rfl) (by kernel_rfl) (by kernel_rfl) (by kernel_rfl) (by kernel_rfl) (fun _ _ _ h => HPN.out _ _ _ _ _ h) (Or.inl ⟨by rfl, ?hy13⟩) hSw ?rest13
  case hy13 => (intro W hW; (try dsimp only at hW); go_simp; try with_reducible rfl)
  try simp only [Act.put, List.setIfInBounds_toArray, List.set_cons_zero, List.set_cons_succ]
  refine wpAnyE_take 14 (v := ?v14) rfl (by kernel_rfl) (by kernel_rfl) (by kernel_rfl) (by kernel_rfl) (by kernel_rfl) (fun _ _ _ h => HPN.out _ _ _ _ _ h) (Or.inl ⟨by rfl, ?hy14⟩) hSw ?rest14
  case hy14 => (intro W hW; (try dsimp only at hW); go_simp; try with_reducible rfl)
  try simp only [Act.put, List.setIfInBounds_toArray, List.set_cons_zero, List.set_cons_succ]
  refine wpAnyE_take 15 (v := ?v15) rfl (by kernel_rfl) (by kernel_rfl) (by kernel_rfl) (by kernel_rfl) (by kernel_rfl) (fun _ _ _ h => HPN.out _ _ _ _ _ h) (Or.inl ⟨by rfl, ?hy15⟩) hSw ?rest15
  case hy15 => (intro W hW; (try dsimp only at hW); go_simp; try with_reducible rfl)
  try simp only [Act.put, List.setIfInBounds_toArray, List.set_cons_zero, List.set_cons_succ]
  refine wpAnyE_take 16 (v := ?v16) rfl (by kernel_rfl) (by kernel_rfl) (by kernel_rfl) (by kernel_rfl) (by kernel_rfl) (fun _ _ _ h => HPN.out _ _ _ _ _ h) (Or.inl ⟨by rfl, ?hy16⟩) hSw ?rest16
  case hy16 => (intro W hW; (try dsimp only at hW); go_simp; try with_reducible rfl)
  try simp only [Act.put, List.setIfInBounds_toArray, List.set_cons_zero, List.set_cons_succ]
  refine wpAnyE_take 17 (v := ?v17) rfl (by kernel_rfl) (by kernel_rfl) (by kernel_rfl) (by kernel_rfl) (by kernel_rfl) (fun _ _ _ h => HPN.out _ _ _ _ _ h) (Or.inl ⟨by rfl, ?hy17⟩) hSw ?rest17
  case hy17 => (intro W hW; (try dsimp only at hW); go_simp; try with_reducible rfl)
  try simp only [Act.put, List.setIfInBounds_toArray, List.set_cons_zero, List.set_cons_succ]
  clear hSw
  refine wpAnyE_oneN 18 (by kernel_rfl) rfl rfl (fun K hK => ?_)
  go_simp
  refine hK.out _ _ (fun _ => HS3.out) ?_
  clear hK K
  try simp only [List.setIfInBounds_toArray, List.set_cons_zero, List.set_cons_succ]
  refine wpAnyE_one 19 (by kernel_rfl) rfl (fun K hK => ?_)
  obtain ⟨i1, hinf1, hw0, hw1, hw2⟩ := info_parts infoInt
  refine step_append_grows rfl (.tmp 81) (.tmp 87) 26 rfl 3 i1 (.int .i64 0) 1 8 Try.underlying26 hinf1 hw0 hw1 hw2 rfl (by decide) pk n n (cellsZ row) rfl RN.out (by rw [cellsZ_length, HNN.out]; simp) (RC.out _ HB9.out) ⟨w2.heap.size, 0, none⟩ 1 1 [.int .i64 x] rfl rfl (one_at rfl) (by simp [Value.oneCell']) (by omega) (by unfold maxLen; omega) (by omega) ?_
  intro v' w4 hown hgrow
  obtain ⟨p', c', rfl, hb4, ho4⟩ := grow_row HB9.out hown hgrow
  obtain ⟨hc3, hf3⟩ := HFIN.out w4 hb4
  have HO4 := Lib.hid ho4
  have HB4 := Lib.hid hb4
  have hx4 := HX3.out w4 hb4
  refine hK.out _ _ (fun _ => ⟨hc3, hf3, hx4⟩) ?_
  clear hK K hown hgrow hb4 ho4 hinf1 hw0 hw1 hw2
  try simp only [Act.put, List.setIfInBounds_toArray, List.set_cons_zero, List.set_cons_succ]
  refine wpAnyE_oneN 20 (by kernel_rfl) rfl rfl (fun K hK => ?_)
  go_simp
  refine hK.out _ _ (fun _ => ⟨hc3, hf3, hx4⟩) ?_
  clear hK K hx4
  try simp only [List.setIfInBounds_toArray, List.set_cons_zero, List.set_cons_succ]
  refine wpAnyE_oneN 21 (by kernel_rfl) rfl rfl (fun K hK => ?_)
  go_simp
  refine hK.out _ _ (fun h => absurd rfl h) ?_
  clear hK K
  refine wpAnyE_done (by kernel_rfl) ?_ _
  exact HQ.out _ _ _ _ _ _ _ _ _ _ _ _ _ _ _ _ _ _ _ _ _ _ _ _ HB4.out HO4.out
end Go.Proofs.Ytadkmidipjlcjaa.Qu
