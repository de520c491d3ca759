/- ImagePlays: a write of a sector. -/
import Derived.Test.YtdjcpjfomgfjlaaImgPZ
import Derived.Test.YtdjcpjfomgfjlaaOrdM
import Derived.Deep.CutBlock
import Derived.Deep.CutRange
import Derived.Deep.LoopGhost
namespace Go.Proofs.Ytdjcpjfomgfjlaa
open Go.RowKit Go.Maps

set_option maxRecDepth 1000000 in
set_option maxHeartbeats 4000000 in
theorem ip_arm5 {W0 w W8 : World} {ba bx bo p bs bw q m T first count j : Nat} {M : DM} {on oc : Int} {ob : RowB} {oA : Option Addr} {ol : List Bool} {ocap : Nat} {okind : Int} {K : Act → World → Prop} (h : Arm W0 w W8 ba bx bo p bs bw q m T first count j M ⟨5, on, oc, ob, oA, ol, ocap⟩)
    (u0 u1 u3 u4 u8 u13 u14 u15 u16 u17 u18 u19 u20 u21 u22 u23 u24 u25 u26 u27 u28 u29 u30 u31 u32 u33 u34 u35 u36 u37 u38 u39 u40 u41 u42 u43 u44 u45 u46 u47 u48 u49 u50 u51 u52 u53 u54 u55 u56 u57 u58 u59 u60 u61 u62 u63 u64 u65 u66 u67 u68 u69 u70 u71 u72 u73 u74 u75 u76 u77 u78 u79 u80 u81 u82 u83 u84 u85 u86 u87 u88 u89 u90 u91 u92 u93 u94 u95 u96 u98 u99 u100 u101 u102 u103 u104 u105 u106 u107 u108 u109 u110 u111 u112 u113 u114 u115 u116 u117 u118 u119 u120 u121 u122 u123 u124 u125 u126 u127 u128 u129 u130 u131 u132 u133 u134 u135 u136 u137 u138 u139 u140 u141 u142 u143 u144 u145 u146 u147 u148 u149 u150 u151 u152 u153 u154 u155 u156 u157 u158 u159 u160 u161 u162 u163 u164 u165 u166 u167 u168 u169 u170 u171 u172 u173 u174 u175 u176 u177 u178 u179 u180 u181 u182 u183 u184 u185 u186 u187 u188 u189 u190 u191 u192 u193 u194 u195 u196 u197 u198 u199 u200 u201 u202 u203 u204 u205 u206 u207 u208 u209 u210 u211 u212 u213 u214 u215 u216 u217 u218 u219 u220 u221 u222 u223 u224 u225 u226 u227 u228 u229 u230 u231 u232 u233 u234 u235 u236 u237 u238 u239 u240 u241 u242 u243 u244 u245 u246 u247 u248 u249 u250 u251 u252 u253 u254 u255 u256 u257 : Value)
    (hK : ∀ (T1 p1 bs1 bw1 q1 : Nat) (M1 : DM) (code : Int) (v13 v14 v98 v99 v100 v101 v102 v103 v104 v105 v106 v107 v108 v109 v110 v111 v112 v113 v114 v115 v116 v117 v118 v119 v120 v121 v122 v123 v124 v125 v126 v127 v128 v129 v130 v131 v132 v133 v134 v135 v136 v137 v138 v139 v140 v141 v142 v143 v144 v145 v146 v147 v148 v149 v150 v151 v152 v153 v154 v155 v156 v157 v158 v159 v160 v161 v162 v163 v164 v165 v166 v167 v168 v169 v170 v171 v172 v173 v174 v175 v176 v177 v178 v179 v180 v181 v182 v183 v184 v185 v186 v187 v188 v189 v190 v191 v192 v193 v194 v195 v196 v197 v198 v199 v200 v201 v202 v203 v204 v205 v206 v207 v208 v209 v210 v211 v212 v213 v214 v215 v216 v217 v218 v219 v220 v221 v222 v223 v224 v225 v226 v227 v228 v229 v230 v231 v232 v233 v234 v235 v236 v237 v238 v239 v240 v241 v242 v243 v244 v245 v246 v247 v248 v249 v250 v251 v252 v253 v254 v255 v256 v257 : Value) (w1 : World), T1 ≤ 5000 * (j + 1) → St W0 w1 bx p1 bs1 bw1 q1 m T1 first count M1 M1 → K ⟨#[u0, u1, .pointer (some ⟨ba, 0, none⟩), u3, u4, .pointer (some ⟨p1, 0, none⟩), .int .i64 code, .pointer (some ⟨bx, 0, none⟩), u8, .pointer (some ⟨q1, 0, none⟩), .int .i64 (j : Int), .pointer (some ⟨bo, 0, none⟩), .int .i64 code, v13, v14, u15, u16, u17, u18, u19, u20, u21, u22, u23, u24, u25, u26, u27, u28, u29, u30, u31, u32, u33, u34, u35, u36, u37, u38, u39, u40, u41, u42, u43, u44, u45, u46, u47, u48, u49, u50, u51, u52, u53, u54, u55, u56, u57, u58, u59, u60, u61, u62, u63, u64, u65, u66, u67, u68, u69, u70, u71, u72, u73, u74, u75, u76, u77, u78, u79, u80, u81, u82, u83, u84, u85, u86, u87, u88, u89, u90, u91, u92, u93, u94, u95, u96, .int .i64 5, v98, v99, v100, v101, v102, v103, v104, v105, v106, v107, v108, v109, v110, v111, v112, v113, v114, v115, v116, v117, v118, v119, v120, v121, v122, v123, v124, v125, v126, v127, v128, v129, v130, v131, v132, v133, v134, v135, v136, v137, v138, v139, v140, v141, v142, v143, v144, v145, v146, v147, v148, v149, v150, v151, v152, v153, v154, v155, v156, v157, v158, v159, v160, v161, v162, v163, v164, v165, v166, v167, v168, v169, v170, v171, v172, v173, v174, v175, v176, v177, v178, v179, v180, v181, v182, v183, v184, v185, v186, v187, v188, v189, v190, v191, v192, v193, v194, v195, v196, v197, v198, v199, v200, v201, v202, v203, v204, v205, v206, v207, v208, v209, v210, v211, v212, v213, v214, v215, v216, v217, v218, v219, v220, v221, v222, v223, v224, v225, v226, v227, v228, v229, v230, v231, v232, v233, v234, v235, v236, v237, v238, v239, v240, v241, v242, v243, v244, v245, v246, v247, v248, v249, v250, v251, v252, v253, v254, v255, v256, v257], []⟩ w1) :
    Code.wp Try.prog ipSw (Exit.then K (fun _ _ _ => False)) ⟨#[u0, u1, .pointer (some ⟨ba, 0, none⟩), u3, u4, .pointer (some ⟨p, 0, none⟩), .int .i64 0, .pointer (some ⟨bx, 0, none⟩), u8, .pointer (some ⟨q, 0, none⟩), .int .i64 (j : Int), .pointer (some ⟨bo, 0, none⟩), .int .i64 0, u13, u14, u15, u16, u17, u18, u19, u20, u21, u22, u23, u24, u25, u26, u27, u28, u29, u30, u31, u32, u33, u34, u35, u36, u37, u38, u39, u40, u41, u42, u43, u44, u45, u46, u47, u48, u49, u50, u51, u52, u53, u54, u55, u56, u57, u58, u59, u60, u61, u62, u63, u64, u65, u66, u67, u68, u69, u70, u71, u72, u73, u74, u75, u76, u77, u78, u79, u80, u81, u82, u83, u84, u85, u86, u87, u88, u89, u90, u91, u92, u93, u94, u95, u96, .int .i64 5, u98, u99, u100, u101, u102, u103, u104, u105, u106, u107, u108, u109, u110, u111, u112, u113, u114, u115, u116, u117, u118, u119, u120, u121, u122, u123, u124, u125, u126, u127, u128, u129, u130, u131, u132, u133, u134, u135, u136, u137, u138, u139, u140, u141, u142, u143, u144, u145, u146, u147, u148, u149, u150, u151, u152, u153, u154, u155, u156, u157, u158, u159, u160, u161, u162, u163, u164, u165, u166, u167, u168, u169, u170, u171, u172, u173, u174, u175, u176, u177, u178, u179, u180, u181, u182, u183, u184, u185, u186, u187, u188, u189, u190, u191, u192, u193, u194, u195, u196, u197, u198, u199, u200, u201, u202, u203, u204, u205, u206, u207, u208, u209, u210, u211, u212, u213, u214, u215, u216, u217, u218, u219, u220, u221, u222, u223, u224, u225, u226, u227, u228, u229, u230, u231, u232, u233, u234, u235, u236, u237, u238, u239, u240, u241, u242, u243, u244, u245, u246, u247, u248, u249, u250, u251, u252, u253, u254, u255, u256, u257], []⟩ W8 := by
  conv => arg 2; whnf
  have HK := Lib.hid hK
  have HH := Lib.hid h
  have z0 := cell_of_row W8 bo 0 _ _ _ h.op; have z1 := cell_of_row W8 bo 1 _ _ _ h.op; have z3 := cell_of_row W8 bo 3 _ _ _ h.op
  dsimp only at z0 z1 z3
  have hby : ∀ W, Below W0.heap.size W0 W → Calls Try.prog 18 #[.slice ob.A ob.l.length ob.c] W fun e w' => ∃ g, e = .returned (.slice (some ⟨g, 0, none⟩) 64 64) ∧ W.heap.size ≤ g ∧ g < w'.heap.size ∧ Rd w' w'.heap.size (some ⟨g, 0, none⟩) (u8s (bytesL ob.l)) ∧ Below W.heap.size W w' :=
    fun W hW => bytesC ob.A ob.l ob.c w.heap.size W (HH.out.ok.b.1.below (HH.out.low W hW) (Nat.le_refl _)) (HH.out.low W hW).size (by have h1 := HH.out.ok.b.2.1; have h2 := HH.out.ok.b.2.2; dsimp only at h1 h2; omega)
  have HBY := Lib.hid hby
  clear h hK hby
  go_upto_region 41 with (fail)
  go_cut [6] from 98 to 257 (fun e w' => e = .int .i64 (M.writeE on (bytesL ob.l)) ∧ Hid (St W0 w' bx p bs bw q m (T + 1) first count (M.writeM on (bytesL ob.l)) M) ∧ Hid (w'.heap[bo]? = some (.cells #[.int .i64 5, .int .i64 on, .int .i64 oc, .slice ob.A ob.l.length ob.c, .slice oA ol.length ocap] 74 (0, 0))))
  case first =>
    have KS := Lib.hid fun (w' : World) (hb : Below W8.heap.size W8 w') => And.intro (cell_of_row w' bo 1 _ _ _ ((hb.block bo (heap_lt HH.out.op)).trans HH.out.op)) (cell_of_row w' bo 3 _ _ _ ((hb.block bo (heap_lt HH.out.op)).trans HH.out.op))
    dsimp only at KS
    have KF := Lib.hid fun (w' w'' : World) (hb : Below W8.heap.size W8 w') (hf : Fr w' w'' [p, bs, bw]) => And.intro (cell_of_row w'' bo 1 _ _ _ ((hf.block bo (heap_lt ((hb.block bo (heap_lt HH.out.op)).trans HH.out.op)) (by have := HH.out.off; simp; omega)).trans ((hb.block bo (heap_lt HH.out.op)).trans HH.out.op))) (cell_of_row w'' bo 3 _ _ _ ((hf.block bo (heap_lt ((hb.block bo (heap_lt HH.out.op)).trans HH.out.op)) (by have := HH.out.off; simp; omega)).trans ((hb.block bo (heap_lt HH.out.op)).trans HH.out.op)))
    dsimp only at KF
    clear z0 z1 z3
    go_region_held3 (fun w => w.cell? ⟨bo, 1, none⟩ = some (.int .i64 on) ∧ w.cell? ⟨bo, 3, none⟩ = some (.slice ob.A ob.l.length ob.c))
      (first | exact KS.out _ (Below.refl _ _).drew | exact KS.out _ hb5' | exact KF.out _ _ hb5' (hF6.mono (by simp)))
      ((first
        | (go_at_call 18; (with_reducible refine (HBY.out W8.drew HH.out.st.box.drew.below).mono ?_); rintro e w5 ⟨g5, rfl, hg51, hg52, hr5, hb5⟩; (have hb5' : Below W8.heap.size W8 w5 := (Below.refl W8.heap.size W8).drew.trans (hb5 : Below W8.heap.size _ _)); have hS5 := HH.out.st.kept hb5'; have HWR := Lib.hid (writeC hS5.box.disk hS5.box.okM on g5 (bytesL ob.l) (bytesL_len _) _ hr5 (by have := HH.out.st.box.disk.lt; have hq : W8.heap.size ≤ g5 := hg51; omega)))
        | (go_at_call 17; (with_reducible refine HWR.out.mono ?_); rintro e w6 ⟨rfl, hD6, hF6⟩)))
    all_goals
      have hwf := write_facts M on (bytesL ob.l)
      have hS6 := hS5.turned hD6 (hF6.mono (by simp)) (Nat.le_succ T) (by have := HH.out.tl; have := HH.out.jl; omega) hwf.1 (by have := HH.out.st.box.stepsM; omega) (Nat.le_trans hwf.2.2 HH.out.st.box.okM.left)
      have gb5 := (hb5'.block bo (heap_lt HH.out.op)).trans HH.out.op
      have gb6 := (hF6.block bo (heap_lt gb5) (by have := HH.out.off; simp; omega)).trans gb5
      have HS6 := Lib.hid hS6
      have HG6 := Lib.hid gb6
      clear hS5 gb5 hwf hS6 gb6 hD6 hF6 hb5 hr5 hg51 hg52 HWR
      (try go_wp2_with (fail))
      go_meet
      case rel => exact ⟨rfl, HS6, HG6⟩
  case rest =>
    obtain ⟨rfl, HS6, HG6⟩ := hcut
    obtain ⟨A1, A2, A3, n1, n2, n3, e1, e2, e3, s7, l7, hg6, hv6⟩ := HS6.out.box.box
    have HV6 := Lib.hid (And.intro hg6 (hv6.below (Below.refl _ _).drew))
    have hSix : ∀ w' : World, Below wc.heap.size wc w' → (w'.cell? ⟨bo, 1, none⟩ = some (.int .i64 on) ∧ w'.cell? ⟨bo, 3, none⟩ = some (.slice ob.A ob.l.length ob.c)) ∧ w'.cell? ⟨bx, 0, none⟩ = some (.slice A1 n1 e1) ∧ w'.cell? ⟨bx, 1, none⟩ = some (.slice A2 n2 e2) ∧ w'.cell? ⟨bx, 2, none⟩ = some (.slice A3 n3 e3) ∧ w'.cell? ⟨bx, 3, none⟩ = some (.int .i64 s7) ∧ w'.cell? ⟨bx, 4, none⟩ = some (.int .i64 l7) := fun w' hb => by
      have g1 := (hb.block bo (heap_lt HG6.out)).trans HG6.out
      have g2 := (hb.block bx (heap_lt hg6)).trans hg6
      exact ⟨⟨cell_of_row w' bo 1 _ _ _ g1, cell_of_row w' bo 3 _ _ _ g1⟩, cell_of_row w' bx 0 _ _ _ g2, cell_of_row w' bx 1 _ _ _ g2, cell_of_row w' bx 2 _ _ _ g2, cell_of_row w' bx 3 _ _ _ g2, cell_of_row w' bx 4 _ _ _ g2⟩
    have KS := Lib.hid hSix
    have KP := Lib.hid fun (w' : World) (v0 v1 v2 v3 v4 : Value) (hb : Below wc.heap.size wc w') => And.intro
      (cell_of_row (((((w'.setCell ⟨bx, 0, none⟩ v0).setCell ⟨bx, 1, none⟩ v1).setCell ⟨bx, 2, none⟩ v2).setCell ⟨bx, 3, none⟩ v3).setCell ⟨bx, 4, none⟩ v4) bo 1 _ _ _ ((other_put w' bx bo HH.out.off.2.2.2 v0 v1 v2 v3 v4).trans ((hb.block bo (heap_lt HG6.out)).trans HG6.out)))
      (cell_of_row (((((w'.setCell ⟨bx, 0, none⟩ v0).setCell ⟨bx, 1, none⟩ v1).setCell ⟨bx, 2, none⟩ v2).setCell ⟨bx, 3, none⟩ v3).setCell ⟨bx, 4, none⟩ v4) bo 3 _ _ _ ((other_put w' bx bo HH.out.off.2.2.2 v0 v1 v2 v3 v4).trans ((hb.block bo (heap_lt HG6.out)).trans HG6.out)))
    clear hg6 hv6 hSix z0 z1 z3
    go_upto_region 42 with (fail)
    have hS0 := KS.out wc.drew (Below.refl _ _).drew
    refine wp_region_M (fun j => decide (j < 8)) (fun w' => (w'.cell? ⟨bo, 1, none⟩ = some (.int .i64 on) ∧ w'.cell? ⟨bo, 3, none⟩ = some (.slice ob.A ob.l.length ob.c)) ∧ w'.cell? ⟨bx, 0, none⟩ = some (.slice A1 n1 e1) ∧ w'.cell? ⟨bx, 1, none⟩ = some (.slice A2 n2 e2) ∧ w'.cell? ⟨bx, 2, none⟩ = some (.slice A3 n3 e3) ∧ w'.cell? ⟨bx, 3, none⟩ = some (.int .i64 s7) ∧ w'.cell? ⟨bx, 4, none⟩ = some (.int .i64 l7)) (by kernel_rfl) ?_
    refine wpAnyM_take (i := 0) (v := ?_) rfl (by kernel_rfl) (by kernel_rfl) (by kernel_rfl) (by kernel_rfl) (fun _ _ _ h => h) (Or.inl ⟨by rfl, ?_⟩) hS0 ?_
    rotate_left
    · intro w hSw; (try dsimp only at hSw); go_simp; (try with_reducible rfl)
    simp only [Act.put, List.getElem_toArray, List.getElem_cons_zero, List.getElem_cons_succ, List.setIfInBounds_toArray, List.set_cons_zero, List.set_cons_succ]
    refine wpAnyM_take (i := 1) (v := ?_) rfl (by kernel_rfl) (by kernel_rfl) (by kernel_rfl) (by kernel_rfl) (fun _ _ _ h => h) (Or.inl ⟨by rfl, ?_⟩) hS0 ?_
    rotate_left
    · intro w hSw; (try dsimp only at hSw); go_simp; (try with_reducible rfl)
    simp only [Act.put, List.getElem_toArray, List.getElem_cons_zero, List.getElem_cons_succ, List.setIfInBounds_toArray, List.set_cons_zero, List.set_cons_succ]
    refine wpAnyM_take (i := 2) (v := ?_) rfl (by kernel_rfl) (by kernel_rfl) (by kernel_rfl) (by kernel_rfl) (fun _ _ _ h => h) (Or.inl ⟨by rfl, ?_⟩) hS0 ?_
    rotate_left
    · intro w hSw; (try dsimp only at hSw); go_simp; (try with_reducible rfl)
    simp only [Act.put, List.getElem_toArray, List.getElem_cons_zero, List.getElem_cons_succ, List.setIfInBounds_toArray, List.set_cons_zero, List.set_cons_succ]
    refine wpAnyM_take (i := 3) (v := ?_) rfl (by kernel_rfl) (by kernel_rfl) (by kernel_rfl) (by kernel_rfl) (fun _ _ _ h => h) (Or.inl ⟨by rfl, ?_⟩) hS0 ?_
    rotate_left
    · intro w hSw; (try dsimp only at hSw); go_simp; (try with_reducible rfl)
    simp only [Act.put, List.getElem_toArray, List.getElem_cons_zero, List.getElem_cons_succ, List.setIfInBounds_toArray, List.set_cons_zero, List.set_cons_succ]
    refine wpAnyM_take (i := 4) (v := ?_) rfl (by kernel_rfl) (by kernel_rfl) (by kernel_rfl) (by kernel_rfl) (fun _ _ _ h => h) (Or.inl ⟨by rfl, ?_⟩) hS0 ?_
    rotate_left
    · intro w hSw; (try dsimp only at hSw); go_simp; (try with_reducible rfl)
    simp only [Act.put, List.getElem_toArray, List.getElem_cons_zero, List.getElem_cons_succ, List.setIfInBounds_toArray, List.set_cons_zero, List.set_cons_succ]
    refine wpAnyM_one (i := 5) (by kernel_rfl) rfl (fun K hK => ?_)
    go_simp
    go_wp2_with (go_at_call 18; (with_reducible refine (HBY.out wc.drew HS6.out.box.drew.below).mono ?_); rintro e w8 ⟨g8, rfl, hg81, hg82, hr8, hb8⟩)
    have hb8' : Below wc.heap.size wc w8 := (Below.refl wc.heap.size wc).drew.trans hb8
    have hS8 := KS.out w8 hb8'
    have q8 := strAt (n := 64) (c := 64) hr8 (bytesL_len ob.l).symm
    have hX8 := HS6.out.kept hb8'
    have HW8 := Lib.hid (hX8.box.rwrite (HV6.out.2.below (w' := w8) hb8) on (bytesL ob.l))
    refine hK.out _ _ (fun _ => hS8) ?_
    clear hK K
    refine wpAnyM_one (i := 6) (by kernel_rfl) rfl (fun K hK => ?_)
    go_simp
    refine hK.out _ _ (fun _ => hS8) ?_
    clear hK K
    refine wpAnyM_one (i := 7) (by kernel_rfl) rfl (fun K hK => ?_)
    go_simp
    go_wp2_with (go_at_call 19; (with_reducible refine HW8.out.mono ?_); rintro e w9 ⟨B1, B2, B3, r1, r2, r3, f1, f2, f3, s9, l9, rfl, hR9, hb9⟩)
    have hb9' : Below wc.heap.size wc w9 := hb8'.trans (lower' hb9 hb8'.size)
    have hS9 := KS.out w9 hb9'
    have hg9 := (hb9'.block bx (heap_lt HV6.out.1)).trans HV6.out.1
    have u0 := cell_of_row w9 bx 0 _ _ _ hg9; have u1 := cell_of_row w9 bx 1 _ _ _ hg9; have u2 := cell_of_row w9 bx 2 _ _ _ hg9; have u3 := cell_of_row w9 bx 3 _ _ _ hg9; have u4 := cell_of_row w9 bx 4 _ _ _ hg9; have t0 := frozen_of_row w9 bx 0 _ _ hg9; have t1 := frozen_of_row w9 bx 1 _ _ hg9; have t2 := frozen_of_row w9 bx 2 _ _ hg9; have t3 := frozen_of_row w9 bx 3 _ _ hg9; have t4 := frozen_of_row w9 bx 4 _ _ hg9
    refine hK.out _ _ (fun _ => hS9) ?_
    clear hK K
    refine wpAnyM_value (i := 8) (v := ?_) rfl (by kernel_rfl) (by kernel_rfl) (by kernel_rfl) (by kernel_rfl) (fun _ _ _ h => h) (Or.inl ⟨by rfl, ?_⟩) ?_
    rotate_left
    · intro w hSw; go_simp; (try with_reducible rfl)
    simp only [Act.put, List.getElem_toArray, List.getElem_cons_zero, List.getElem_cons_succ, List.setIfInBounds_toArray, List.set_cons_zero, List.set_cons_succ]
    refine wpAnyM_value (i := 9) (v := ?_) rfl (by kernel_rfl) (by kernel_rfl) (by kernel_rfl) (by kernel_rfl) (fun _ _ _ h => h) (Or.inl ⟨by rfl, ?_⟩) ?_
    rotate_left
    · intro w hSw; go_simp; (try with_reducible rfl)
    simp only [Act.put, List.getElem_toArray, List.getElem_cons_zero, List.getElem_cons_succ, List.setIfInBounds_toArray, List.set_cons_zero, List.set_cons_succ]
    refine wpAnyM_value (i := 10) (v := ?_) rfl (by kernel_rfl) (by kernel_rfl) (by kernel_rfl) (by kernel_rfl) (fun _ _ _ h => h) (Or.inl ⟨by rfl, ?_⟩) ?_
    rotate_left
    · intro w hSw; go_simp; (try with_reducible rfl)
    simp only [Act.put, List.getElem_toArray, List.getElem_cons_zero, List.getElem_cons_succ, List.setIfInBounds_toArray, List.set_cons_zero, List.set_cons_succ]
    refine wpAnyM_one (i := 11) (by kernel_rfl) rfl (fun K hK => ?_)
    go_simp
    refine hK.out _ _ (fun h => absurd h (by decide)) ?_
    clear hK K
    refine wpAnyM_value (i := 12) (v := ?_) rfl (by kernel_rfl) (by kernel_rfl) (by kernel_rfl) (by kernel_rfl) (fun _ _ _ h => h) (Or.inl ⟨by rfl, ?_⟩) ?_
    rotate_left
    · intro w hSw; go_simp; (try with_reducible rfl)
    simp only [Act.put, List.getElem_toArray, List.getElem_cons_zero, List.getElem_cons_succ, List.setIfInBounds_toArray, List.set_cons_zero, List.set_cons_succ]
    refine wpAnyM_done (by kernel_rfl) ?_ _
    have hF := hX8.put hb9 hR9
    go_wp2_with (fail)
    exact HK.out _ _ _ _ _ _ _ _ _ _ _ _ _ _ _ _ _ _ _ _ _ _ _ _ _ _ _ _ _ _ _ _ _ _ _ _ _ _ _ _ _ _ _ _ _ _ _ _ _ _ _ _ _ _ _ _ _ _ _ _ _ _ _ _ _ _ _ _ _ _ _ _ _ _ _ _ _ _ _ _ _ _ _ _ _ _ _ _ _ _ _ _ _ _ _ _ _ _ _ _ _ _ _ _ _ _ _ _ _ _ _ _ _ _ _ _ _ _ _ _ _ _ _ _ _ _ _ _ _ _ _ _ _ _ _ _ _ _ _ _ _ _ _ _ _ _ _ _ _ _ _ _ _ _ _ _ _ _ _ _ _ _ _ _ _ _ _ _ _ _ (by have := HH.out.tl; omega) hF
end Go.Proofs.Ytdjcpjfomgfjlaa
