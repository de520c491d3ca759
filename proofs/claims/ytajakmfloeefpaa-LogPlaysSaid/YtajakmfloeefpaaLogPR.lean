/- LogPlays: Append. -/
import Derived.Test.YtajakmfloeefpaaJnP
import Derived.Outline
import Derived.Deep.CutBlock
import Derived.Deep.CutRange
import Derived.Deep.LoopGhost
namespace Go.Proofs.Ytajakmfloeefpaa
open Go.RowKit Go.Maps

theorem own_frB {w w' : World} {base : Nat} {e : TypeId} {v : Value} {l : List UInt8} {S : List Nat} (h : OwnB w base e v l) (hf : Fr w w' S) (hS : ∀ s ∈ S, s < base) : OwnB w' base e v l := by
  unfold OwnB at h ⊢
  refine ⟨h.1, ?_⟩
  rcases h.2 with h2 | ⟨g, cap, cur, hv, hg, hgg, r⟩
  · exact .inl h2
  · refine .inr ⟨g, cap, cur, hv, hg, ?_, r⟩
    rw [hf.block g (Array.getElem?_eq_some_iff.1 hgg).1 (fun hs => by have := hS g hs; omega)]
    exact hgg
set_option maxRecDepth 1000000 in
set_option maxHeartbeats 4000000 in
theorem lp_arm1 {W0 w W8 : World} {ba bx bl bo p bs bw q base m T first count j lo c : Nat} {M : DM} {L : LG} {v : Value} {A : Option Addr} {on oc cd : Int} {ob : RowB} {oA : Option Addr} {ol : List Bool} {ocap : Nat} {K : Act → World → Prop} (h : ArmL W0 w W8 ba bx bl bo p bs bw q base m T first count j M L v lo A c ⟨1, on, oc, ob, oA, ol, ocap⟩)
    (u0 u1 u3 u4 u8 u10 u15 u16 u17 u18 u19 u20 u21 u22 u23 u24 u25 u26 u27 u28 u29 u30 u31 u32 u33 u34 u35 u36 u37 u38 u39 u40 u41 u42 u43 u44 u45 u46 u47 u48 u49 u50 u51 u52 u53 u54 u55 u56 u57 u58 u59 u60 u61 u62 u63 u64 u65 u66 u67 u68 u69 u70 u71 u72 u73 u74 u75 u76 u77 u78 u79 u80 u81 u82 u83 u84 u85 u86 u87 u88 u89 u90 u91 u92 u93 u94 u95 u96 u97 u98 u99 u100 u102 u103 u104 u105 u106 u107 u108 u109 u110 u111 u112 u113 u114 u115 u116 u117 u118 u119 u120 u121 u122 u123 u124 u125 u126 u127 u128 u129 u130 u131 u132 u133 u134 u135 u136 u137 u138 u139 u140 u141 u142 u143 u144 u145 u146 u147 u148 u149 u150 u151 u152 u153 u154 u155 u156 u157 u158 u159 u160 u161 u162 u163 u164 u165 u166 u167 u168 u169 u170 u171 u172 u173 u174 u175 u176 u177 u178 u179 u180 u181 u182 u183 u184 u185 u186 u187 u188 u189 u190 u191 u192 u193 u194 u195 u196 u197 u198 u199 u200 u201 u202 u203 u204 u205 u206 u207 u208 u209 u210 u211 u212 u213 u214 u215 u216 u217 u218 u219 u220 u221 u222 u223 u224 u225 u226 u227 u228 u229 u230 u231 u232 u233 u234 u235 u236 u237 u238 u239 u240 u241 u242 u243 u244 u245 u246 u247 u248 u249 u250 u251 u252 u253 u254 u255 u256 : Value)
    (hK : ∀ (T1 p1 q1 : Nat) (cd1 : Int) (v10 v15 v102 v103 v104 v105 v106 v107 v108 v109 v110 v111 v112 v113 v114 v115 v116 v117 v118 v119 v120 v121 v122 v123 v124 v125 v126 v127 v128 v129 v130 v131 v132 v133 v134 v135 v136 v137 v138 v139 v140 v141 v142 v143 v144 v145 v146 v147 v148 v149 v150 v151 v152 v153 v154 v155 v156 v157 v158 v159 v160 v161 v162 v163 v164 v165 v166 v167 v168 v169 v170 v171 v172 v173 v174 v175 v176 v177 v178 v179 v180 v181 v182 v183 v184 v185 v186 v187 v188 v189 v190 v191 v192 v193 v194 v195 v196 v197 v198 v199 v200 v201 v202 v203 v204 v205 v206 v207 v208 v209 v210 v211 v212 v213 v214 v215 v216 v217 v218 v219 v220 v221 v222 v223 v224 v225 v226 v227 v228 v229 v230 v231 v232 v233 v234 v235 v236 v237 v238 v239 v240 v241 v242 v243 v244 v245 v246 v247 v248 v249 v250 v251 v252 v253 v254 v255 v256 : Value) (w1 : World), T1 ≤ 5000 * (j + 2) → LpR W0 w1 bx bl p1 q1 m T1 first count → K ⟨#[u0, u1, .pointer (some ⟨ba, 0, none⟩), u3, u4, .pointer (some ⟨p1, 0, none⟩), .int .i64 cd1, .pointer (some ⟨bx, 0, none⟩), u8, .pointer (some ⟨q1, 0, none⟩), v10, .pointer (some ⟨bl, 0, none⟩), .int .i64 cd1, .int .i64 (j : Int), .pointer (some ⟨bo, 0, none⟩), v15, u16, u17, u18, u19, u20, u21, u22, u23, u24, u25, u26, u27, u28, u29, u30, u31, u32, u33, u34, u35, u36, u37, u38, u39, u40, u41, u42, u43, u44, u45, u46, u47, u48, u49, u50, u51, u52, u53, u54, u55, u56, u57, u58, u59, u60, u61, u62, u63, u64, u65, u66, u67, u68, u69, u70, u71, u72, u73, u74, u75, u76, u77, u78, u79, u80, u81, u82, u83, u84, u85, u86, u87, u88, u89, u90, u91, u92, u93, u94, u95, u96, u97, u98, u99, u100, .int .i64 1, v102, v103, v104, v105, v106, v107, v108, v109, v110, v111, v112, v113, v114, v115, v116, v117, v118, v119, v120, v121, v122, v123, v124, v125, v126, v127, v128, v129, v130, v131, v132, v133, v134, v135, v136, v137, v138, v139, v140, v141, v142, v143, v144, v145, v146, v147, v148, v149, v150, v151, v152, v153, v154, v155, v156, v157, v158, v159, v160, v161, v162, v163, v164, v165, v166, v167, v168, v169, v170, v171, v172, v173, v174, v175, v176, v177, v178, v179, v180, v181, v182, v183, v184, v185, v186, v187, v188, v189, v190, v191, v192, v193, v194, v195, v196, v197, v198, v199, v200, v201, v202, v203, v204, v205, v206, v207, v208, v209, v210, v211, v212, v213, v214, v215, v216, v217, v218, v219, v220, v221, v222, v223, v224, v225, v226, v227, v228, v229, v230, v231, v232, v233, v234, v235, v236, v237, v238, v239, v240, v241, v242, v243, v244, v245, v246, v247, v248, v249, v250, v251, v252, v253, v254, v255, v256], []⟩ w1) :
    Code.wp Try.prog lpSw (Exit.then K (fun _ _ _ => False)) ⟨#[u0, u1, .pointer (some ⟨ba, 0, none⟩), u3, u4, .pointer (some ⟨p, 0, none⟩), .int .i64 cd, .pointer (some ⟨bx, 0, none⟩), u8, .pointer (some ⟨q, 0, none⟩), u10, .pointer (some ⟨bl, 0, none⟩), .int .i64 cd, .int .i64 (j : Int), .pointer (some ⟨bo, 0, none⟩), u15, u16, u17, u18, u19, u20, u21, u22, u23, u24, u25, u26, u27, u28, u29, u30, u31, u32, u33, u34, u35, u36, u37, u38, u39, u40, u41, u42, u43, u44, u45, u46, u47, u48, u49, u50, u51, u52, u53, u54, u55, u56, u57, u58, u59, u60, u61, u62, u63, u64, u65, u66, u67, u68, u69, u70, u71, u72, u73, u74, u75, u76, u77, u78, u79, u80, u81, u82, u83, u84, u85, u86, u87, u88, u89, u90, u91, u92, u93, u94, u95, u96, u97, u98, u99, u100, .int .i64 1, u102, u103, u104, u105, u106, u107, u108, u109, u110, u111, u112, u113, u114, u115, u116, u117, u118, u119, u120, u121, u122, u123, u124, u125, u126, u127, u128, u129, u130, u131, u132, u133, u134, u135, u136, u137, u138, u139, u140, u141, u142, u143, u144, u145, u146, u147, u148, u149, u150, u151, u152, u153, u154, u155, u156, u157, u158, u159, u160, u161, u162, u163, u164, u165, u166, u167, u168, u169, u170, u171, u172, u173, u174, u175, u176, u177, u178, u179, u180, u181, u182, u183, u184, u185, u186, u187, u188, u189, u190, u191, u192, u193, u194, u195, u196, u197, u198, u199, u200, u201, u202, u203, u204, u205, u206, u207, u208, u209, u210, u211, u212, u213, u214, u215, u216, u217, u218, u219, u220, u221, u222, u223, u224, u225, u226, u227, u228, u229, u230, u231, u232, u233, u234, u235, u236, u237, u238, u239, u240, u241, u242, u243, u244, u245, u246, u247, u248, u249, u250, u251, u252, u253, u254, u255, u256], []⟩ W8 := by
  conv => arg 2; whnf
  have HK := Lib.hid hK
  have HH := Lib.hid h
  have z0 := cell_of_row W8 bo 0 _ _ _ h.op; have z3 := cell_of_row W8 bo 3 _ _ _ h.op
  have ga := (Below.heap_alloc W8 (.cells #[] 5) bo (heap_lt h.op)).trans h.op
  have a3 := cell_of_row (W8.alloc (.cells #[] 5)) bo 3 _ _ _ ga
  try dsimp only at z0
  try dsimp only at z3
  try dsimp only at a3
  clear ga
  obtain ⟨i0, hi, hz0, hz1, hz2⟩ := info_parts infoU8
  have hD8 : ∀ W, Below W8.heap.size W8 W → Rd W w.heap.size ob.A (u8s ob.l) := fun W hW => h.ok.b.1.below (h.low W (h.st.st.below.trans (lower' hW h.st.st.below.size))) (Nat.le_refl _)
  have HD := Lib.hid hD8
  have hl4 : ob.l.length ≤ 140737488351232 := by have h1 := h.ok.b.2.1; have h2 := h.ok.b.2.2; dsimp only at h1 h2; omega
  have HL := Lib.hid hl4
  have hft : Fit M T 8400 := h.st.fit (by have := h.tl; have := h.jl; omega)
  have hfa := app_facts (T := T) ob.l h.st.steps h.st.dat
  have HFT := Lib.hid hft
  have HFA0 := Lib.hid hfa
  clear h hK hD8 hl4 hft hfa
  go_upto_region 18 with (first
    | (at_builtin; refine wpList_appB _ rfl (.tmp 104) (.tmp 106) _ rfl W8.heap.size 5 i0 _ Try.underlying45 hi hz0 hz1 hz2 rfl (.slice (some ⟨W8.heap.size, 0, none⟩) 0 0) [] rfl (OwnB.lit0 W8 (Nat.le_refl _)) w.heap.size ob.A ob.l.length ob.c ob.l rfl rfl (HD.out _ ((Below.refl _ _).alloc (Nat.le_refl _) _)) (by have := HL.out; simp; omega) (by simp) ?_; intro v5 w5 hown5 hg5 hat5; rw [List.nil_append] at hown5; have hB5 := append0_below hg5; obtain ⟨A5, c5, rfl, hc5, hc5m, hr5, hge5⟩ := hown5.shape; clear hg5 hat5)
    | go_in)
  obtain ⟨N, hN⟩ : ∃ N, N = ob.l.length := ⟨_, rfl⟩
  have hS5 := HH.out.st.kept hB5
  have g5 := (hB5.block bo (heap_lt HH.out.op)).trans HH.out.op
  have hlt8 := HH.out.st.st.lt
  have hca := append_anyN hS5.st.log A5 ob.l c5 w5.heap.size hr5 (Nat.le_refl _) (fun _ x hx => by have := hge5 x hx; have h1 := hlt8 p (by simp); have h2 := hlt8 bs (by simp); have h3 := hlt8 bw (by simp); omega) hc5 (by simp only [maxLen] at hc5m; omega) (HFT.out.less (by omega))
  have hfa := HFA0.out
  obtain ⟨R, hR⟩ : ∃ R, R = appR L M ob.l := ⟨_, rfl⟩
  rw [← hR] at hca hfa
  obtain ⟨cd1, M1, L1⟩ := R
  dsimp only at hca hfa
  rw [← hN] at hca hown5 hc5 ⊢
  have HA := Lib.hid hca
  have HFA := Lib.hid (And.intro hfa hR)
  have H5 := Lib.hid (And.intro hB5 (And.intro hown5 (And.intro hS5 (And.intro g5 hN))))
  clear hca hfa hS5 hB5 hown5 g5 hr5 hge5 hlt8 z0 z3 a3 hc5 hc5m hR hi hz0 hz1 hz2 hN HFA0
  go_upto_region 19 with (first
    | (go_at_call 9; (with_reducible refine HA.out.mono ?_); rintro e w6 ⟨rfl, hL6⟩)
    | go_in)
  have hokm := HH.out.st.st.okM
  have hok1 : M1.Ok (T + 70) := ⟨by rw [HFA.out.1.1]; exact hokm.size, by have := HFA.out.1.2.1; have := HFT.out.T; omega, Nat.le_trans HFA.out.1.2.2.1 hokm.left, by have := HFT.out.T; omega⟩
  have hfr : Fr w5 w6 ([p, bs, bw, q] ++ v.ownBlock.toList) := by obtain ⟨_, _, hf, _⟩ := hL6; exact hf
  obtain ⟨v1, hS6⟩ := H5.out.2.2.1.st.prog hL6 hok1 ⟨hokm.size, hokm.steps, hokm.left, hok1.T⟩ HFA.out.1.1
  have hlow : ∀ s ∈ [p, bs, bw, q] ++ v.ownBlock.toList, s < W8.heap.size := fun s hs => HH.out.st.st.lt s (by
    rcases List.mem_append.1 hs with hs | hs
    · exact List.mem_append_left _ (List.mem_cons_of_mem _ (List.mem_cons_of_mem _ hs))
    · exact List.mem_append_right _ hs)
  have ho6 := own_frB H5.out.2.1 hfr hlow
  have hne : bl ≠ bx := fun e => hS6.offx (by simp [e])
  have hne2 : bx ≠ bl := fun e => hne e.symm
  have gb6 := fr_get hfr H5.out.2.2.2.1 HH.out.offF
  have b3 := cell_of_row w6 bo 3 _ _ _ gb6
  try dsimp only at b3
  rw [← H5.out.2.2.2.2] at b3
  have qs := strAt (n := N) (c := ob.c) (HH.out.ok.b.1.below (HH.out.low w6 hS6.below) (Nat.le_refl _)) H5.out.2.2.2.2
  try dsimp only at qs
  obtain ⟨A1, A2, A3, n1, n2, n3, e1, e2, e3, s7, l7, hg7, hv7⟩ := hS6.box
  have q0 := cell_of_row w6 bx 0 _ _ _ hg7; have q1 := cell_of_row w6 bx 1 _ _ _ hg7; have q2 := cell_of_row w6 bx 2 _ _ _ hg7; have q3 := cell_of_row w6 bx 3 _ _ _ hg7; have q4 := cell_of_row w6 bx 4 _ _ _ hg7
  have hgl := hS6.rlg
  have r0 := cell_of_row w6 bl 0 _ _ _ hgl; have r1 := cell_of_row w6 bl 1 _ _ _ hgl; have r2 := cell_of_row w6 bl 2 _ _ _ hgl; have r3 := cell_of_row w6 bl 3 _ _ _ hgl
  have hlo1 : lo ≤ w6.heap.size := Nat.le_trans H5.out.2.2.1.lo hfr.size
  have hra := hS6.rapp hv7 hS6.lt (by have := HFT.out.steps; omega) HH.out.st.ok HH.out.st.dat (by have h1 := HH.out.st.fst; have h2 := HH.out.st.bh; omega) HH.out.st.st.log.fits hlo1 ob.l HL.out
  rw [← HFA.out.2] at hra
  dsimp only at hra
  have HRA := Lib.hid hra
  have HG1 := Lib.hid (And.intro hg7 hgl)
  have H6 := Lib.hid (And.intro hS6 (And.intro hlo1 (And.intro ho6 gb6)))
  clear hL6 hokm hok1 hfr hS6 hlow ho6 gb6 hg7 hv7 hgl hlo1 hra HA
  go_upto_region 20 with (first
    | (go_at_call 10; (with_reducible refine HRA.out.mono ?_); rintro e w9 ⟨B1, B2, B3, m1, m2, m3, f1, f2, f3, s9, l9, A9, c9, rfl, hR9, ho9, hb9⟩; have hg9 := (hb9.block bx (heap_lt HG1.out.1)).trans HG1.out.1; have y0 := cell_of_row w9 bx 0 _ _ _ hg9; have y1 := cell_of_row w9 bx 1 _ _ _ hg9; have y2 := cell_of_row w9 bx 2 _ _ _ hg9; have y3 := cell_of_row w9 bx 3 _ _ _ hg9; have y4 := cell_of_row w9 bx 4 _ _ _ hg9; have t0 := frozen_of_row w9 bx 0 _ _ hg9; have t1 := frozen_of_row w9 bx 1 _ _ hg9; have t2 := frozen_of_row w9 bx 2 _ _ hg9; have t3 := frozen_of_row w9 bx 3 _ _ hg9; have t4 := frozen_of_row w9 bx 4 _ _ hg9; have hk9 := (hb9.block bl (heap_lt HG1.out.2)).trans HG1.out.2; have x0 := cell_of_row w9 bl 0 _ _ _ hk9; have x1 := cell_of_row w9 bl 1 _ _ _ hk9; have x2 := cell_of_row w9 bl 2 _ _ _ hk9; have x3 := cell_of_row w9 bl 3 _ _ _ hk9; have i0_ := frozen_of_row w9 bl 0 _ _ hk9; have i1_ := frozen_of_row w9 bl 1 _ _ hk9; have i2_ := frozen_of_row w9 bl 2 _ _ hk9; have i3_ := frozen_of_row w9 bl 3 _ _ hk9)
    | go_in)
  have hS9 := H6.out.1.doc hb9 hR9 ho9 (recs_off ho9 (H6.out.1.kept hb9).typed)
  rw [HFA.out.1.2.2.2.1] at hS9
  have hf9 := putB_fr w9 bx bl (.slice B1 m1 f1) (.slice B2 m2 f2) (.slice B3 m3 f3) (.int .i64 s9) (.int .i64 l9) (.int .i64 (L.first : Int)) (.int .i64 (count : Int)) (.slice A9 L1.recs.length c9) (.int .i64 (L1.next : Int))
  have hz9 := Nat.le_trans H6.out.2.1 (Nat.le_trans hb9.size hf9.size)
  have hfa9 := (Fr.of_below hb9 [bx, bl]).trans hf9
  have hx8 := HH.out.st.st.lt bx (by simp)
  have hl8 := HH.out.st.st.lt bl (by simp)
  have hoB := own_frB H6.out.2.2.1 hfa9 (by simp; omega)
  have gb9 := fr_get hfa9 H6.out.2.2.2 (by have := HH.out.off; simp at this ⊢; omega)
  dsimp only [putB] at hS9 hz9 hoB gb9
  clear hf9 hfa9 hx8 hl8 hR9 ho9 hb9 hg9 hk9 y0 y1 y2 y3 y4 t0 t1 t2 t3 t4 x0 x1 x2 x3 i0_ i1_ i2_ i3_ q0 q1 q2 q3 q4 r0 r1 r2 r3 qs b3 HRA HG1
  generalize (((((((((w9.setCell ⟨bx, 0, none⟩ (.slice B1 m1 f1)).setCell ⟨bx, 1, none⟩ (.slice B2 m2 f2)).setCell ⟨bx, 2, none⟩ (.slice B3 m3 f3)).setCell ⟨bx, 3, none⟩ (.int .i64 s9)).setCell ⟨bx, 4, none⟩ (.int .i64 l9)).setCell ⟨bl, 0, none⟩ (.int .i64 (L.first : Int))).setCell ⟨bl, 1, none⟩ (.int .i64 (count : Int))).setCell ⟨bl, 2, none⟩ (.slice A9 L1.recs.length c9)).setCell ⟨bl, 3, none⟩ (.int .i64 (L1.next : Int))) = W9 at hS9 hz9 hoB gb9 ⊢
  have b3 := cell_of_row W9 bo 3 _ _ _ gb9
  try dsimp only at b3
  rw [← H5.out.2.2.2.2] at b3
  have hr9 : Rd W9 W9.heap.size A5 (u8s ob.l) := by
    obtain ⟨A5', c5', e5, _, _, h9, _⟩ := hoB.shape
    injection e5 with e6 e7 e8
    rw [e6]; exact h9
  have hs1 := strAt (n := N) (c := c5) hr9 H5.out.2.2.2.2
  have hs2 := strAt (n := N) (c := ob.c) (HH.out.ok.b.1.below (HH.out.low W9 hS9.below) (Nat.le_refl _)) H5.out.2.2.2.2
  try dsimp only at hs2
  have HS9 := Lib.hid (And.intro hS9 hz9)
  clear hS9 hz9 hoB gb9 hr9
  go_wp2_with (fail)
  refine HK.out (T + 70) p q cd1 _ _ _ _ _ _ _ _ _ _ _ _ _ _ _ _ _ _ _ _ _ _ _ _ _ _ _ _ _ _ _ _ _ _ _ _ _ _ _ _ _ _ _ _ _ _ _ _ _ _ _ _ _ _ _ _ _ _ _ _ _ _ _ _ _ _ _ _ _ _ _ _ _ _ _ _ _ _ _ _ _ _ _ _ _ _ _ _ _ _ _ _ _ _ _ _ _ _ _ _ _ _ _ _ _ _ _ _ _ _ _ _ _ _ _ _ _ _ _ _ _ _ _ _ _ _ _ _ _ _ _ _ _ _ _ _ _ _ _ _ _ _ _ _ _ _ _ _ _ _ _ _ _ _ _ _ _ _ (by have := HH.out.tl; omega) ?_
  exact ⟨bs, bw, base, M1, L1, v1, lo, A9, c9, HS9.out.1, HFA.out.1.2.2.2.2.2, HFA.out.1.2.1, HFA.out.1.2.2.2.1.trans HH.out.st.fst, HFA.out.1.2.2.2.2.1.trans HH.out.st.bh, HS9.out.2⟩
end Go.Proofs.Ytajakmfloeefpaa
