/- LogPlays: Crash, and opened again. -/
import Derived.Test.YtajakmfloeefpaaJnP
import Derived.Test.YtajakmfloeefpaaLogPO
import Derived.Test.YtajakmfloeefpaaLogPP
import Derived.Outline
import Derived.Deep.CutBlock
import Derived.Deep.CutRange
import Derived.Deep.LoopGhost
namespace Go.Proofs.Ytajakmfloeefpaa
open Go.RowKit Go.Maps

set_option maxRecDepth 1000000 in
set_option maxHeartbeats 4000000 in
theorem lp_arm4 {W0 w W8 : World} {ba bx bl bo p bs bw q base m T first count j lo c : Nat} {M : DM} {L : LG} {v : Value} {A : Option Addr} {on oc cd : Int} {ob : RowB} {oA : Option Addr} {ol : List Bool} {ocap : Nat} {K : Act → World → Prop} (h : ArmL W0 w W8 ba bx bl bo p bs bw q base m T first count j M L v lo A c ⟨4, on, oc, ob, oA, ol, ocap⟩)
    (u0 u1 u3 u4 u8 u10 u15 u16 u17 u18 u19 u20 u21 u22 u23 u24 u25 u26 u27 u28 u29 u30 u31 u32 u33 u34 u35 u36 u37 u38 u39 u40 u41 u42 u43 u44 u45 u46 u47 u48 u49 u50 u51 u52 u53 u54 u55 u56 u57 u58 u59 u60 u61 u62 u63 u64 u65 u66 u67 u68 u69 u70 u71 u72 u73 u74 u75 u76 u77 u78 u79 u80 u81 u82 u83 u84 u85 u86 u87 u88 u89 u90 u91 u92 u93 u94 u95 u96 u97 u98 u99 u100 u102 u103 u104 u105 u106 u107 u108 u109 u110 u111 u112 u113 u114 u115 u116 u117 u118 u119 u120 u121 u122 u123 u124 u125 u126 u127 u128 u129 u130 u131 u132 u133 u134 u135 u136 u137 u138 u139 u140 u141 u142 u143 u144 u145 u146 u147 u148 u149 u150 u151 u152 u153 u154 u155 u156 u157 u158 u159 u160 u161 u162 u163 u164 u165 u166 u167 u168 u169 u170 u171 u172 u173 u174 u175 u176 u177 u178 u179 u180 u181 u182 u183 u184 u185 u186 u187 u188 u189 u190 u191 u192 u193 u194 u195 u196 u197 u198 u199 u200 u201 u202 u203 u204 u205 u206 u207 u208 u209 u210 u211 u212 u213 u214 u215 u216 u217 u218 u219 u220 u221 u222 u223 u224 u225 u226 u227 u228 u229 u230 u231 u232 u233 u234 u235 u236 u237 u238 u239 u240 u241 u242 u243 u244 u245 u246 u247 u248 u249 u250 u251 u252 u253 u254 u255 u256 : Value)
    (hK : ∀ (T1 p1 q1 : Nat) (cd1 : Int) (v10 v15 v102 v103 v104 v105 v106 v107 v108 v109 v110 v111 v112 v113 v114 v115 v116 v117 v118 v119 v120 v121 v122 v123 v124 v125 v126 v127 v128 v129 v130 v131 v132 v133 v134 v135 v136 v137 v138 v139 v140 v141 v142 v143 v144 v145 v146 v147 v148 v149 v150 v151 v152 v153 v154 v155 v156 v157 v158 v159 v160 v161 v162 v163 v164 v165 v166 v167 v168 v169 v170 v171 v172 v173 v174 v175 v176 v177 v178 v179 v180 v181 v182 v183 v184 v185 v186 v187 v188 v189 v190 v191 v192 v193 v194 v195 v196 v197 v198 v199 v200 v201 v202 v203 v204 v205 v206 v207 v208 v209 v210 v211 v212 v213 v214 v215 v216 v217 v218 v219 v220 v221 v222 v223 v224 v225 v226 v227 v228 v229 v230 v231 v232 v233 v234 v235 v236 v237 v238 v239 v240 v241 v242 v243 v244 v245 v246 v247 v248 v249 v250 v251 v252 v253 v254 v255 v256 : Value) (w1 : World), T1 ≤ 5000 * (j + 2) → LpR W0 w1 bx bl p1 q1 m T1 first count → K ⟨#[u0, u1, .pointer (some ⟨ba, 0, none⟩), u3, u4, .pointer (some ⟨p1, 0, none⟩), .int .i64 cd1, .pointer (some ⟨bx, 0, none⟩), u8, .pointer (some ⟨q1, 0, none⟩), v10, .pointer (some ⟨bl, 0, none⟩), .int .i64 cd1, .int .i64 (j : Int), .pointer (some ⟨bo, 0, none⟩), v15, u16, u17, u18, u19, u20, u21, u22, u23, u24, u25, u26, u27, u28, u29, u30, u31, u32, u33, u34, u35, u36, u37, u38, u39, u40, u41, u42, u43, u44, u45, u46, u47, u48, u49, u50, u51, u52, u53, u54, u55, u56, u57, u58, u59, u60, u61, u62, u63, u64, u65, u66, u67, u68, u69, u70, u71, u72, u73, u74, u75, u76, u77, u78, u79, u80, u81, u82, u83, u84, u85, u86, u87, u88, u89, u90, u91, u92, u93, u94, u95, u96, u97, u98, u99, u100, .int .i64 4, v102, v103, v104, v105, v106, v107, v108, v109, v110, v111, v112, v113, v114, v115, v116, v117, v118, v119, v120, v121, v122, v123, v124, v125, v126, v127, v128, v129, v130, v131, v132, v133, v134, v135, v136, v137, v138, v139, v140, v141, v142, v143, v144, v145, v146, v147, v148, v149, v150, v151, v152, v153, v154, v155, v156, v157, v158, v159, v160, v161, v162, v163, v164, v165, v166, v167, v168, v169, v170, v171, v172, v173, v174, v175, v176, v177, v178, v179, v180, v181, v182, v183, v184, v185, v186, v187, v188, v189, v190, v191, v192, v193, v194, v195, v196, v197, v198, v199, v200, v201, v202, v203, v204, v205, v206, v207, v208, v209, v210, v211, v212, v213, v214, v215, v216, v217, v218, v219, v220, v221, v222, v223, v224, v225, v226, v227, v228, v229, v230, v231, v232, v233, v234, v235, v236, v237, v238, v239, v240, v241, v242, v243, v244, v245, v246, v247, v248, v249, v250, v251, v252, v253, v254, v255, v256], []⟩ w1) :
    Code.wp Try.prog lpSw (Exit.then K (fun _ _ _ => False)) ⟨#[u0, u1, .pointer (some ⟨ba, 0, none⟩), u3, u4, .pointer (some ⟨p, 0, none⟩), .int .i64 cd, .pointer (some ⟨bx, 0, none⟩), u8, .pointer (some ⟨q, 0, none⟩), u10, .pointer (some ⟨bl, 0, none⟩), .int .i64 cd, .int .i64 (j : Int), .pointer (some ⟨bo, 0, none⟩), u15, u16, u17, u18, u19, u20, u21, u22, u23, u24, u25, u26, u27, u28, u29, u30, u31, u32, u33, u34, u35, u36, u37, u38, u39, u40, u41, u42, u43, u44, u45, u46, u47, u48, u49, u50, u51, u52, u53, u54, u55, u56, u57, u58, u59, u60, u61, u62, u63, u64, u65, u66, u67, u68, u69, u70, u71, u72, u73, u74, u75, u76, u77, u78, u79, u80, u81, u82, u83, u84, u85, u86, u87, u88, u89, u90, u91, u92, u93, u94, u95, u96, u97, u98, u99, u100, .int .i64 4, u102, u103, u104, u105, u106, u107, u108, u109, u110, u111, u112, u113, u114, u115, u116, u117, u118, u119, u120, u121, u122, u123, u124, u125, u126, u127, u128, u129, u130, u131, u132, u133, u134, u135, u136, u137, u138, u139, u140, u141, u142, u143, u144, u145, u146, u147, u148, u149, u150, u151, u152, u153, u154, u155, u156, u157, u158, u159, u160, u161, u162, u163, u164, u165, u166, u167, u168, u169, u170, u171, u172, u173, u174, u175, u176, u177, u178, u179, u180, u181, u182, u183, u184, u185, u186, u187, u188, u189, u190, u191, u192, u193, u194, u195, u196, u197, u198, u199, u200, u201, u202, u203, u204, u205, u206, u207, u208, u209, u210, u211, u212, u213, u214, u215, u216, u217, u218, u219, u220, u221, u222, u223, u224, u225, u226, u227, u228, u229, u230, u231, u232, u233, u234, u235, u236, u237, u238, u239, u240, u241, u242, u243, u244, u245, u246, u247, u248, u249, u250, u251, u252, u253, u254, u255, u256], []⟩ W8 := by
  conv => arg 2; whnf
  have HK := Lib.hid hK
  have HH := Lib.hid h
  have z0 := cell_of_row W8 bo 0 _ _ _ h.op
  try dsimp only at z0
  have HOA : Hid (OpAt W0 w W8 bo ⟨4, on, oc, ob, oA, ol, ocap⟩) := Lib.hid ⟨h.op, h.ok, h.low⟩
  clear h hK
  go_upto_region 35 with (fail)
  rename_i K35 hK35
  refine wp_noway (lp_r35 HH.out.st.st.toC HOA.out _ _ _ _ _ _ _ _ _ _ _ _ _ _ _ _ _ _ _ _ _ _ _ _ _ _ _ _ _ _ _ _ _ _ _ _ _ _ _ _ _ _ _ _ _ _ _ _ _ _ _ _ _ _ _ _ _ _ _ _ _ _ _ _ _ _ _ _ _ _ _ _ _ _ _ _ _ _ _ _ _ _ _ _ _ _ _ _ _ _ _ _ _ _ _ _ _ _ _ _ _ _ _ _ _ _ _ _ _ _ _ _ _ _ _ _ _ _ _ _ _ _ _ _ _ _ _ _ _ _ _ _ _ _ _ _ _ _ _ _ _ _ _ _ _ _ _ _ _ _ _ _ _ _ _ _ _ _ _ _ _ _ _ _ _ _ _ _ _ _ _ _ _ _ _ _ _ _ _ _ _ _ _ _ _ _ _ _ _ _ _ _ _ _ _ _ _ _ _ _ _ _ _ _ _ _ _ _ _ _ _ _ _ _ _ _ _ _ _ _ _ _ _ _ _ _ _ _ _ _ _ _ _ _ _ _ _ _ _ _ _ _ _ _ _ _ _ _ _ _ _ _ _ _  ?_)
  intro p' bs' bw' _ _ _ _ _ _ _ _ _ _ _ _ _ _ _ _ w1 ⟨hC1, ho1, hz1⟩
  have hK36 := hK35
  clear hK35
  refine hK36 _ _ ?_
  clear hK36
  have HC1 := Lib.hid (And.intro hC1 (And.intro ho1 hz1))
  clear hC1 ho1 hz1
  obtain ⟨rs, hrs⟩ : ∃ rs, rs = scan (M.crashed ol on oc).get (first + count) first none := ⟨_, rfl⟩
  obtain ⟨M2, hM2⟩ : ∃ M2, M2 = (runOps (openOps (M.crashed ol on oc) first (first + count)) (M.crashed ol on oc)).2 := ⟨_, rfl⟩
  have hop := open_pair (M := M.crashed ol on oc) HC1.out.1 rfl rfl (by have := HH.out.tl; have := HH.out.jl; omega) HH.out.two HH.out.fit hrs hM2
  have HOP := Lib.hid hop
  have ga := (HC1.out.1.below.block ba (heap_lt HH.out.area)).trans HH.out.area
  have d1 := cell_of_row w1 ba 1 _ _ _ ga; have d2 := cell_of_row w1 ba 2 _ _ _ ga
  clear ga hop hrs hM2
  go_upto_region 39 with (first
    | (go_at_call 7; (with_reducible refine HOP.out.1.mono ?_); rintro e w5 ⟨q5, A5, c5, v5, rfl, hS5, hr5, hq5, hf5⟩)
    | go_in)
  have ga := (hS5.below.block ba (heap_lt HH.out.area)).trans HH.out.area
  have d1 := cell_of_row w5 ba 1 _ _ _ ga; have d2 := cell_of_row w5 ba 2 _ _ _ ga
  have hne : bl ≠ bx := fun e => hS5.offx (by simp [e])
  have hne2 : bx ≠ bl := fun e => hne e.symm
  obtain ⟨A1, A2, A3, n1, n2, n3, e1, e2, e3, s7, l7, hg7, hv7⟩ := hS5.box
  have q0 := cell_of_row w5 bx 0 _ _ _ hg7; have q1 := cell_of_row w5 bx 1 _ _ _ hg7; have q2 := cell_of_row w5 bx 2 _ _ _ hg7; have q3 := cell_of_row w5 bx 3 _ _ _ hg7; have q4 := cell_of_row w5 bx 4 _ _ _ hg7
  have hgl := hS5.rlg
  have r0 := cell_of_row w5 bl 0 _ _ _ hgl; have r1 := cell_of_row w5 bl 1 _ _ _ hgl; have r2 := cell_of_row w5 bl 2 _ _ _ hgl; have r3 := cell_of_row w5 bl 3 _ _ _ hgl
  have hra := HOP.out.2.1 w5 q5 v5 _ hS5 hv7
  have HRA := Lib.hid hra
  have HG1 := Lib.hid (And.intro hg7 hgl)
  have HS5 := Lib.hid (And.intro hS5 (And.intro hr5 hq5))
  clear ga hS5 hg7 hv7 hgl hra hr5 hq5 hf5
  go_upto_region 40 with (first
    | (go_at_call 8; (with_reducible refine HRA.out.mono ?_); rintro e w9 ⟨B1, B2, B3, m1, m2, m3, f1, f2, f3, s9, l9, A9, c9, rfl, hR9, ho9, hb9⟩; have hg9 := (hb9.block bx (heap_lt HG1.out.1)).trans HG1.out.1; have y0 := cell_of_row w9 bx 0 _ _ _ hg9; have y1 := cell_of_row w9 bx 1 _ _ _ hg9; have y2 := cell_of_row w9 bx 2 _ _ _ hg9; have y3 := cell_of_row w9 bx 3 _ _ _ hg9; have y4 := cell_of_row w9 bx 4 _ _ _ hg9; have t0 := frozen_of_row w9 bx 0 _ _ hg9; have t1 := frozen_of_row w9 bx 1 _ _ hg9; have t2 := frozen_of_row w9 bx 2 _ _ hg9; have t3 := frozen_of_row w9 bx 3 _ _ hg9; have t4 := frozen_of_row w9 bx 4 _ _ hg9; have hk9 := (hb9.block bl (heap_lt HG1.out.2)).trans HG1.out.2; have x0 := cell_of_row w9 bl 0 _ _ _ hk9; have x1 := cell_of_row w9 bl 1 _ _ _ hk9; have x2 := cell_of_row w9 bl 2 _ _ _ hk9; have x3 := cell_of_row w9 bl 3 _ _ _ hk9; have i_0 := frozen_of_row w9 bl 0 _ _ hk9; have i_1 := frozen_of_row w9 bl 1 _ _ hk9; have i_2 := frozen_of_row w9 bl 2 _ _ hk9; have i_3 := frozen_of_row w9 bl 3 _ _ hk9)
    | go_in)
  have hS9 : LpS W0 (putB w9 bx bl (.slice B1 m1 f1) (.slice B2 m2 f2) (.slice B3 m3 f3) (.int .i64 s9) (.int .i64 l9) (.int .i64 (first : Int)) (.int .i64 (count : Int)) (.slice A9 rs.length c9) (.int .i64 (nxtN rs : Int))) bx bl p' bs' bw' q5 (q5 + 1) m _ M2 M2 (LG.of first (first + count) rs) (LG.of first (first + count) rs) v5 w5.heap.size A9 c9 count := HS5.out.1.doc hb9 hR9 ho9 (recs_off ho9 (HS5.out.1.kept hb9).typed)
  have hf9 := putB_fr w9 bx bl (.slice B1 m1 f1) (.slice B2 m2 f2) (.slice B3 m3 f3) (.int .i64 s9) (.int .i64 l9) (.int .i64 (first : Int)) (.int .i64 (count : Int)) (.slice A9 rs.length c9) (.int .i64 (nxtN rs : Int))
  have hz9 := Nat.le_trans hb9.size hf9.size
  have hxl := HC1.out.1.lt
  have hr9 := (HS5.out.2.1.below hb9).fr hf9 (fun s hs cs fr e => by
    simp only [List.mem_cons, List.not_mem_nil, or_false] at hs
    rcases hs with rfl | rfl
    · rw [hg9] at e; simp at e
    · rw [hk9] at e; simp at e) (fun s hs hm => by
    obtain ⟨R, _, g2, _⟩ := HS5.out.2.1.ex
    have h1 := own_ge g2 s hs
    have h2 := hxl bx (by simp)
    have h3 := hxl bl (by simp)
    have h4 := HS5.out.2.2
    simp at hm; omega)
  dsimp only [putB] at hS9 hz9 hr9
  clear hf9 hxl hR9 ho9 hb9 hg9 hk9 y0 y1 y2 y3 y4 t0 t1 t2 t3 t4 x0 x1 x2 x3 i_0 i_1 i_2 i_3 q0 q1 q2 q3 q4 r0 r1 r2 r3 d1 d2 HRA HG1
  generalize (((((((((w9.setCell ⟨bx, 0, none⟩ (.slice B1 m1 f1)).setCell ⟨bx, 1, none⟩ (.slice B2 m2 f2)).setCell ⟨bx, 2, none⟩ (.slice B3 m3 f3)).setCell ⟨bx, 3, none⟩ (.int .i64 s9)).setCell ⟨bx, 4, none⟩ (.int .i64 l9)).setCell ⟨bl, 0, none⟩ (.int .i64 (first : Int))).setCell ⟨bl, 1, none⟩ (.int .i64 (count : Int))).setCell ⟨bl, 2, none⟩ (.slice A9 rs.length c9)).setCell ⟨bl, 3, none⟩ (.int .i64 (nxtN rs : Int))) = W9 at hS9 hz9 hr9 ⊢
  have hgl : W9.heap[bl]? = some (.cells #[.int .i64 (first : Int), .int .i64 (count : Int), .slice A9 rs.length c9, .int .i64 (nxtN rs : Int)] 42 (0, 0)) := hS9.rlg
  have r2 := cell_of_row W9 bl 2 _ _ _ hgl
  have hsm := same4_any rs A5 c5 A9 c9 hr9 (by
    obtain ⟨A', c', e', _, _, h9⟩ := own_shape hS9.own
    injection e' with e6 e7 e8
    rw [e6]; exact h9) HOP.out.2.2.1 rs.length rfl
  have HSM := Lib.hid hsm
  have HS9 := Lib.hid (And.intro hS9 hz9)
  clear hS9 hz9 hr9 hgl hsm
  go_wp2_with (first
    | (go_at_call 20; (with_reducible refine HSM.out.mono ?_); rintro e w10 ⟨rfl, hb10⟩)
    | go_in)
  refine HK.out (T + 4097) p' q5 0 _ _ _ _ _ _ _ _ _ _ _ _ _ _ _ _ _ _ _ _ _ _ _ _ _ _ _ _ _ _ _ _ _ _ _ _ _ _ _ _ _ _ _ _ _ _ _ _ _ _ _ _ _ _ _ _ _ _ _ _ _ _ _ _ _ _ _ _ _ _ _ _ _ _ _ _ _ _ _ _ _ _ _ _ _ _ _ _ _ _ _ _ _ _ _ _ _ _ _ _ _ _ _ _ _ _ _ _ _ _ _ _ _ _ _ _ _ _ _ _ _ _ _ _ _ _ _ _ _ _ _ _ _ _ _ _ _ _ _ _ _ _ _ _ _ _ _ _ _ _ _ _ _ _ _ _ _ _ (by have := HH.out.tl; omega) ?_
  exact ⟨bs', bw', q5 + 1, M2, LG.of first (first + count) rs, v5, w5.heap.size, A9, c9, HS9.out.1.kept hb10, HOP.out.2.2.2.1, HOP.out.2.2.2.2, rfl, rfl, Nat.le_trans HS9.out.2 hb10.size⟩
end Go.Proofs.Ytajakmfloeefpaa
