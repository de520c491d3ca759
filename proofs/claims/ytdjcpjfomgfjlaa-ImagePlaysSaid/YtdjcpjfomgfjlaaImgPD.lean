/- ImagePlays: Crash, and opened again. -/
import Derived.Test.YtdjcpjfomgfjlaaImgPZ
import Derived.Test.YtdjcpjfomgfjlaaOrdM
import Derived.Deep.CutBlock
import Derived.Deep.CutRange
import Derived.Deep.LoopGhost
namespace Go.Proofs.Ytdjcpjfomgfjlaa
open Go.RowKit Go.Maps

/-- Behind a crash of both. -/
theorem BoxD.crash2 {W0 W8 w6 : World} {bx p bs bw N T : Nat} {M : DM} (h : BoxD W0 W8 bx p bs bw N T M M) {p' bs' bw' : Nat} (h1 : W8.heap.size ≤ p') (h2 : W8.heap.size ≤ bs') (h3 : W8.heap.size ≤ bw') (keep : List Bool) (torn cut : Int) (hD : DiskM w6 p' bs' bw' (M.crashed keep torn cut) T) (hb : Below W8.heap.size W8 w6)
    {B1 B2 B3 : Option Addr} {m1 m2 m3 d1 d2 d3 : Nat} {s l : Int} (hR : RefV w6 [bx, p', bs', bw'] (refOf (M.crashed keep torn cut)) (.agg #[.slice B1 m1 d1, .slice B2 m2 d2, .slice B3 m3 d3, .int .i64 s, .int .i64 l])) :
    BoxD W0 (((((w6.setCell ⟨bx, 0, none⟩ (.slice B1 m1 d1)).setCell ⟨bx, 1, none⟩ (.slice B2 m2 d2)).setCell ⟨bx, 2, none⟩ (.slice B3 m3 d3)).setCell ⟨bx, 3, none⟩ (.int .i64 s)).setCell ⟨bx, 4, none⟩ (.int .i64 l)) bx p' bs' bw' N T (M.crashed keep torn cut) (M.crashed keep torn cut) :=
  (h.crashed h1 h2 h3 keep torn cut hD hb).put (Below.refl _ _) hR
set_option maxRecDepth 1000000 in
set_option maxHeartbeats 4000000 in
theorem ip_arm4 {W0 w W8 : World} {ba bx bo p bs bw q m T first count j : Nat} {M : DM} {on oc : Int} {ob : RowB} {oA : Option Addr} {ol : List Bool} {ocap : Nat} {okind : Int} {K : Act → World → Prop} (h : Arm W0 w W8 ba bx bo p bs bw q m T first count j M ⟨4, on, oc, ob, oA, ol, ocap⟩)
    (u0 u1 u3 u4 u8 u13 u14 u15 u16 u17 u18 u19 u20 u21 u22 u23 u24 u25 u26 u27 u28 u29 u30 u31 u32 u33 u34 u35 u36 u37 u38 u39 u40 u41 u42 u43 u44 u45 u46 u47 u48 u49 u50 u51 u52 u53 u54 u55 u56 u57 u58 u59 u60 u61 u62 u63 u64 u65 u66 u67 u68 u69 u70 u71 u72 u73 u74 u75 u76 u77 u78 u79 u80 u81 u82 u83 u84 u85 u86 u87 u88 u89 u90 u91 u92 u93 u94 u95 u96 u98 u99 u100 u101 u102 u103 u104 u105 u106 u107 u108 u109 u110 u111 u112 u113 u114 u115 u116 u117 u118 u119 u120 u121 u122 u123 u124 u125 u126 u127 u128 u129 u130 u131 u132 u133 u134 u135 u136 u137 u138 u139 u140 u141 u142 u143 u144 u145 u146 u147 u148 u149 u150 u151 u152 u153 u154 u155 u156 u157 u158 u159 u160 u161 u162 u163 u164 u165 u166 u167 u168 u169 u170 u171 u172 u173 u174 u175 u176 u177 u178 u179 u180 u181 u182 u183 u184 u185 u186 u187 u188 u189 u190 u191 u192 u193 u194 u195 u196 u197 u198 u199 u200 u201 u202 u203 u204 u205 u206 u207 u208 u209 u210 u211 u212 u213 u214 u215 u216 u217 u218 u219 u220 u221 u222 u223 u224 u225 u226 u227 u228 u229 u230 u231 u232 u233 u234 u235 u236 u237 u238 u239 u240 u241 u242 u243 u244 u245 u246 u247 u248 u249 u250 u251 u252 u253 u254 u255 u256 u257 : Value)
    (hK : ∀ (T1 p1 bs1 bw1 q1 : Nat) (M1 : DM) (code : Int) (v13 v14 v98 v99 v100 v101 v102 v103 v104 v105 v106 v107 v108 v109 v110 v111 v112 v113 v114 v115 v116 v117 v118 v119 v120 v121 v122 v123 v124 v125 v126 v127 v128 v129 v130 v131 v132 v133 v134 v135 v136 v137 v138 v139 v140 v141 v142 v143 v144 v145 v146 v147 v148 v149 v150 v151 v152 v153 v154 v155 v156 v157 v158 v159 v160 v161 v162 v163 v164 v165 v166 v167 v168 v169 v170 v171 v172 v173 v174 v175 v176 v177 v178 v179 v180 v181 v182 v183 v184 v185 v186 v187 v188 v189 v190 v191 v192 v193 v194 v195 v196 v197 v198 v199 v200 v201 v202 v203 v204 v205 v206 v207 v208 v209 v210 v211 v212 v213 v214 v215 v216 v217 v218 v219 v220 v221 v222 v223 v224 v225 v226 v227 v228 v229 v230 v231 v232 v233 v234 v235 v236 v237 v238 v239 v240 v241 v242 v243 v244 v245 v246 v247 v248 v249 v250 v251 v252 v253 v254 v255 v256 v257 : Value) (w1 : World), T1 ≤ 5000 * (j + 1) → St W0 w1 bx p1 bs1 bw1 q1 m T1 first count M1 M1 → K ⟨#[u0, u1, .pointer (some ⟨ba, 0, none⟩), u3, u4, .pointer (some ⟨p1, 0, none⟩), .int .i64 code, .pointer (some ⟨bx, 0, none⟩), u8, .pointer (some ⟨q1, 0, none⟩), .int .i64 (j : Int), .pointer (some ⟨bo, 0, none⟩), .int .i64 code, v13, v14, u15, u16, u17, u18, u19, u20, u21, u22, u23, u24, u25, u26, u27, u28, u29, u30, u31, u32, u33, u34, u35, u36, u37, u38, u39, u40, u41, u42, u43, u44, u45, u46, u47, u48, u49, u50, u51, u52, u53, u54, u55, u56, u57, u58, u59, u60, u61, u62, u63, u64, u65, u66, u67, u68, u69, u70, u71, u72, u73, u74, u75, u76, u77, u78, u79, u80, u81, u82, u83, u84, u85, u86, u87, u88, u89, u90, u91, u92, u93, u94, u95, u96, .int .i64 4, v98, v99, v100, v101, v102, v103, v104, v105, v106, v107, v108, v109, v110, v111, v112, v113, v114, v115, v116, v117, v118, v119, v120, v121, v122, v123, v124, v125, v126, v127, v128, v129, v130, v131, v132, v133, v134, v135, v136, v137, v138, v139, v140, v141, v142, v143, v144, v145, v146, v147, v148, v149, v150, v151, v152, v153, v154, v155, v156, v157, v158, v159, v160, v161, v162, v163, v164, v165, v166, v167, v168, v169, v170, v171, v172, v173, v174, v175, v176, v177, v178, v179, v180, v181, v182, v183, v184, v185, v186, v187, v188, v189, v190, v191, v192, v193, v194, v195, v196, v197, v198, v199, v200, v201, v202, v203, v204, v205, v206, v207, v208, v209, v210, v211, v212, v213, v214, v215, v216, v217, v218, v219, v220, v221, v222, v223, v224, v225, v226, v227, v228, v229, v230, v231, v232, v233, v234, v235, v236, v237, v238, v239, v240, v241, v242, v243, v244, v245, v246, v247, v248, v249, v250, v251, v252, v253, v254, v255, v256, v257], []⟩ w1) :
    Code.wp Try.prog ipSw (Exit.then K (fun _ _ _ => False)) ⟨#[u0, u1, .pointer (some ⟨ba, 0, none⟩), u3, u4, .pointer (some ⟨p, 0, none⟩), .int .i64 0, .pointer (some ⟨bx, 0, none⟩), u8, .pointer (some ⟨q, 0, none⟩), .int .i64 (j : Int), .pointer (some ⟨bo, 0, none⟩), .int .i64 0, u13, u14, u15, u16, u17, u18, u19, u20, u21, u22, u23, u24, u25, u26, u27, u28, u29, u30, u31, u32, u33, u34, u35, u36, u37, u38, u39, u40, u41, u42, u43, u44, u45, u46, u47, u48, u49, u50, u51, u52, u53, u54, u55, u56, u57, u58, u59, u60, u61, u62, u63, u64, u65, u66, u67, u68, u69, u70, u71, u72, u73, u74, u75, u76, u77, u78, u79, u80, u81, u82, u83, u84, u85, u86, u87, u88, u89, u90, u91, u92, u93, u94, u95, u96, .int .i64 4, u98, u99, u100, u101, u102, u103, u104, u105, u106, u107, u108, u109, u110, u111, u112, u113, u114, u115, u116, u117, u118, u119, u120, u121, u122, u123, u124, u125, u126, u127, u128, u129, u130, u131, u132, u133, u134, u135, u136, u137, u138, u139, u140, u141, u142, u143, u144, u145, u146, u147, u148, u149, u150, u151, u152, u153, u154, u155, u156, u157, u158, u159, u160, u161, u162, u163, u164, u165, u166, u167, u168, u169, u170, u171, u172, u173, u174, u175, u176, u177, u178, u179, u180, u181, u182, u183, u184, u185, u186, u187, u188, u189, u190, u191, u192, u193, u194, u195, u196, u197, u198, u199, u200, u201, u202, u203, u204, u205, u206, u207, u208, u209, u210, u211, u212, u213, u214, u215, u216, u217, u218, u219, u220, u221, u222, u223, u224, u225, u226, u227, u228, u229, u230, u231, u232, u233, u234, u235, u236, u237, u238, u239, u240, u241, u242, u243, u244, u245, u246, u247, u248, u249, u250, u251, u252, u253, u254, u255, u256, u257], []⟩ W8 := by
  conv => arg 2; whnf
  have HK := Lib.hid hK
  have HH := Lib.hid h
  have z0 := cell_of_row W8 bo 0 _ _ _ h.op
  try dsimp only at z0
  obtain ⟨A1, A2, A3, n1, n2, n3, e1, e2, e3, s7, l7, hg6, hv6⟩ := h.st.box.box
  have hSix : ∀ w' : World, Below W8.heap.size W8 w' → (w'.cell? ⟨bo, 1, none⟩ = some (.int .i64 on) ∧ w'.cell? ⟨bo, 2, none⟩ = some (.int .i64 oc) ∧ w'.cell? ⟨bo, 4, none⟩ = some (.slice oA ol.length ocap)) ∧ w'.cell? ⟨bx, 0, none⟩ = some (.slice A1 n1 e1) ∧ w'.cell? ⟨bx, 1, none⟩ = some (.slice A2 n2 e2) ∧ w'.cell? ⟨bx, 2, none⟩ = some (.slice A3 n3 e3) ∧ w'.cell? ⟨bx, 3, none⟩ = some (.int .i64 s7) ∧ w'.cell? ⟨bx, 4, none⟩ = some (.int .i64 l7) := fun w' hb => by
    have g1 := (hb.block bo (heap_lt HH.out.op)).trans HH.out.op
    have g2 := (hb.block bx (heap_lt hg6)).trans hg6
    exact ⟨⟨cell_of_row w' bo 1 _ _ _ g1, cell_of_row w' bo 2 _ _ _ g1, cell_of_row w' bo 4 _ _ _ g1⟩, cell_of_row w' bx 0 _ _ _ g2, cell_of_row w' bx 1 _ _ _ g2, cell_of_row w' bx 2 _ _ _ g2, cell_of_row w' bx 3 _ _ _ g2, cell_of_row w' bx 4 _ _ _ g2⟩
  have KS := Lib.hid hSix
  have HV := Lib.hid (And.intro hg6 hv6)
  have hkeep : ∀ W, Below W8.heap.size W8 W → Rd W W.heap.size oA (ol.map Value.bool) := fun W hW => by
    have hlow := HH.out.low W (HH.out.st.box.below.trans (lower' hW HH.out.st.box.below.size))
    exact (HH.out.ok.keep.below hlow (Nat.le_refl _)).more hlow.size
  have HKP := Lib.hid hkeep
  have hT9 : T ≤ 1000000000 := by have h1 := h.tl; have h2 := h.jl; omega
  have HT9 := Lib.hid hT9
  clear h hK hg6 hv6 hSix hkeep hT9
  go_upto_region 34 with (fail)
  have hS0 := KS.out W8.drew (Below.refl _ _).drew
  have hB0 : Below W8.heap.size W8 W8.drew := (Below.refl _ _).drew
  refine wp_region_M (fun j => decide (j < 16)) (fun w' => (w'.cell? ⟨bo, 1, none⟩ = some (.int .i64 on) ∧ w'.cell? ⟨bo, 2, none⟩ = some (.int .i64 oc) ∧ w'.cell? ⟨bo, 4, none⟩ = some (.slice oA ol.length ocap)) ∧ w'.cell? ⟨bx, 0, none⟩ = some (.slice A1 n1 e1) ∧ w'.cell? ⟨bx, 1, none⟩ = some (.slice A2 n2 e2) ∧ w'.cell? ⟨bx, 2, none⟩ = some (.slice A3 n3 e3) ∧ w'.cell? ⟨bx, 3, none⟩ = some (.int .i64 s7) ∧ w'.cell? ⟨bx, 4, none⟩ = some (.int .i64 l7)) (by kernel_rfl) ?_
  refine wpAnyM_take (i := 0) (v := ?_) rfl (by kernel_rfl) (by kernel_rfl) (by kernel_rfl) (by kernel_rfl) (fun _ _ _ h => h) (Or.inl ⟨by rfl, ?_⟩) hS0 ?_
  rotate_left
  · intro w hSw; (try dsimp only at hSw); go_simp; (try with_reducible rfl)
  simp only [Act.put, List.getElem_toArray, List.getElem_cons_zero, List.getElem_cons_succ, List.setIfInBounds_toArray, List.set_cons_zero, List.set_cons_succ]
  refine wpAnyM_take (i := 1) (v := ?_) rfl (by kernel_rfl) (by kernel_rfl) (by kernel_rfl) (by kernel_rfl) (fun _ _ _ h => h) (Or.inl ⟨by rfl, ?_⟩) hS0 ?_
  rotate_left
  · intro w hSw; (try dsimp only at hSw); go_simp; (try with_reducible rfl)
  simp only [Act.put, List.getElem_toArray, List.getElem_cons_zero, List.getElem_cons_succ, List.setIfInBounds_toArray, List.set_cons_zero, List.set_cons_succ]
  refine wpAnyM_take (i := 2) (v := ?_) rfl (by kernel_rfl) (by kernel_rfl) (by kernel_rfl) (by kernel_rfl) (fun _ _ _ h => h) (Or.inl ⟨by rfl, ?_⟩) hS0 ?_
  rotate_left
  · intro w hSw; (try dsimp only at hSw); go_simp; (try with_reducible rfl)
  simp only [Act.put, List.getElem_toArray, List.getElem_cons_zero, List.getElem_cons_succ, List.setIfInBounds_toArray, List.set_cons_zero, List.set_cons_succ]
  refine wpAnyM_take (i := 3) (v := ?_) rfl (by kernel_rfl) (by kernel_rfl) (by kernel_rfl) (by kernel_rfl) (fun _ _ _ h => h) (Or.inl ⟨by rfl, ?_⟩) hS0 ?_
  rotate_left
  · intro w hSw; (try dsimp only at hSw); go_simp; (try with_reducible rfl)
  simp only [Act.put, List.getElem_toArray, List.getElem_cons_zero, List.getElem_cons_succ, List.setIfInBounds_toArray, List.set_cons_zero, List.set_cons_succ]
  refine wpAnyM_take (i := 4) (v := ?_) rfl (by kernel_rfl) (by kernel_rfl) (by kernel_rfl) (by kernel_rfl) (fun _ _ _ h => h) (Or.inl ⟨by rfl, ?_⟩) hS0 ?_
  rotate_left
  · intro w hSw; (try dsimp only at hSw); go_simp; (try with_reducible rfl)
  simp only [Act.put, List.getElem_toArray, List.getElem_cons_zero, List.getElem_cons_succ, List.setIfInBounds_toArray, List.set_cons_zero, List.set_cons_succ]
  refine wpAnyM_take (i := 5) (v := ?_) rfl (by kernel_rfl) (by kernel_rfl) (by kernel_rfl) (by kernel_rfl) (fun _ _ _ h => h) (Or.inl ⟨by rfl, ?_⟩) hS0 ?_
  rotate_left
  · intro w hSw; (try dsimp only at hSw); go_simp; (try with_reducible rfl)
  simp only [Act.put, List.getElem_toArray, List.getElem_cons_zero, List.getElem_cons_succ, List.setIfInBounds_toArray, List.set_cons_zero, List.set_cons_succ]
  refine wpAnyM_take (i := 6) (v := ?_) rfl (by kernel_rfl) (by kernel_rfl) (by kernel_rfl) (by kernel_rfl) (fun _ _ _ h => h) (Or.inl ⟨by rfl, ?_⟩) hS0 ?_
  rotate_left
  · intro w hSw; (try dsimp only at hSw); go_simp; (try with_reducible rfl)
  simp only [Act.put, List.getElem_toArray, List.getElem_cons_zero, List.getElem_cons_succ, List.setIfInBounds_toArray, List.set_cons_zero, List.set_cons_succ]
  refine wpAnyM_take (i := 8) (v := ?_) rfl (by kernel_rfl) (by kernel_rfl) (by kernel_rfl) (by kernel_rfl) (fun _ _ _ h => h) (Or.inl ⟨by rfl, ?_⟩) hS0 ?_
  rotate_left
  · intro w hSw; (try dsimp only at hSw); go_simp; (try with_reducible rfl)
  simp only [Act.put, List.getElem_toArray, List.getElem_cons_zero, List.getElem_cons_succ, List.setIfInBounds_toArray, List.set_cons_zero, List.set_cons_succ]
  refine wpAnyM_take (i := 9) (v := ?_) rfl (by kernel_rfl) (by kernel_rfl) (by kernel_rfl) (by kernel_rfl) (fun _ _ _ h => h) (Or.inl ⟨by rfl, ?_⟩) hS0 ?_
  rotate_left
  · intro w hSw; (try dsimp only at hSw); go_simp; (try with_reducible rfl)
  simp only [Act.put, List.getElem_toArray, List.getElem_cons_zero, List.getElem_cons_succ, List.setIfInBounds_toArray, List.set_cons_zero, List.set_cons_succ]
  refine wpAnyM_take (i := 10) (v := ?_) rfl (by kernel_rfl) (by kernel_rfl) (by kernel_rfl) (by kernel_rfl) (fun _ _ _ h => h) (Or.inl ⟨by rfl, ?_⟩) hS0 ?_
  rotate_left
  · intro w hSw; (try dsimp only at hSw); go_simp; (try with_reducible rfl)
  simp only [Act.put, List.getElem_toArray, List.getElem_cons_zero, List.getElem_cons_succ, List.setIfInBounds_toArray, List.set_cons_zero, List.set_cons_succ]
  refine wpAnyM_take (i := 11) (v := ?_) rfl (by kernel_rfl) (by kernel_rfl) (by kernel_rfl) (by kernel_rfl) (fun _ _ _ h => h) (Or.inl ⟨by rfl, ?_⟩) hS0 ?_
  rotate_left
  · intro w hSw; (try dsimp only at hSw); go_simp; (try with_reducible rfl)
  simp only [Act.put, List.getElem_toArray, List.getElem_cons_zero, List.getElem_cons_succ, List.setIfInBounds_toArray, List.set_cons_zero, List.set_cons_succ]
  refine wpAnyM_take (i := 12) (v := ?_) rfl (by kernel_rfl) (by kernel_rfl) (by kernel_rfl) (by kernel_rfl) (fun _ _ _ h => h) (Or.inl ⟨by rfl, ?_⟩) hS0 ?_
  rotate_left
  · intro w hSw; (try dsimp only at hSw); go_simp; (try with_reducible rfl)
  simp only [Act.put, List.getElem_toArray, List.getElem_cons_zero, List.getElem_cons_succ, List.setIfInBounds_toArray, List.set_cons_zero, List.set_cons_succ]
  refine wpAnyM_take (i := 13) (v := ?_) rfl (by kernel_rfl) (by kernel_rfl) (by kernel_rfl) (by kernel_rfl) (fun _ _ _ h => h) (Or.inl ⟨by rfl, ?_⟩) hS0 ?_
  rotate_left
  · intro w hSw; (try dsimp only at hSw); go_simp; (try with_reducible rfl)
  simp only [Act.put, List.getElem_toArray, List.getElem_cons_zero, List.getElem_cons_succ, List.setIfInBounds_toArray, List.set_cons_zero, List.set_cons_succ]
  refine wpAnyM_take (i := 14) (v := ?_) rfl (by kernel_rfl) (by kernel_rfl) (by kernel_rfl) (by kernel_rfl) (fun _ _ _ h => h) (Or.inl ⟨by rfl, ?_⟩) hS0 ?_
  rotate_left
  · intro w hSw; (try dsimp only at hSw); go_simp; (try with_reducible rfl)
  simp only [Act.put, List.getElem_toArray, List.getElem_cons_zero, List.getElem_cons_succ, List.setIfInBounds_toArray, List.set_cons_zero, List.set_cons_succ]
  have HCR := Lib.hid (crashM (HH.out.st.box.disk.kept hB0) HT9.out oA ocap ol on oc (HKP.out _ hB0))
  refine wpAnyM_one (i := 7) (by kernel_rfl) rfl (fun K hK => ?_)
  go_simp
  go_wp2_with (go_at_call 20; (with_reducible refine HCR.out.mono ?_); rintro e w5 ⟨p', bs', bw', rfl, hp1, hp2, hp3, hD5, hb5⟩)
  have hb5' := hB0.trans (lower' hb5 (Nat.le_refl _))
  have hS5 := KS.out w5 hb5'
  refine hK.out _ _ (fun _ => hS5) ?_
  clear hK K
  have hX5 := HH.out.st.box.crashed hp1 hp2 hp3 ol on oc hD5 hb5'
  have HRC := Lib.hid (hX5.rcrash ((HV.out.2.ext (Y := [p', bs', bw']) (by rw [HH.out.st.box.sizeM]; exact HH.out.st.box.pos) (by intro y hy; simp at hy; rcases hy with rfl | rfl | rfl <;> assumption)).sub (Y := [bx, p', bs', bw']) (by simp) |>.below hb5') HH.out.st.box.disk.full oA ol ocap (HKP.out _ hb5') on oc)
  refine wpAnyM_one (i := 15) (by kernel_rfl) rfl (fun K hK => ?_)
  go_simp
  go_wp2_with (go_at_call 21; (with_reducible refine HRC.out.mono ?_); rintro e w6 ⟨B1, B2, B3, r1, r2, r3, f1, f2, f3, s9, l9, rfl, hR6, hb56⟩)
  have hb6 := hb5'.trans (lower' hb56 hb5'.size)
  have hS6 := KS.out w6 hb6
  have hD6 := hD5.kept hb56
  refine hK.out _ _ (fun _ => hS6) ?_
  clear hK K
  have hg9 := (hb6.block bx (heap_lt HV.out.1)).trans HV.out.1
  have y0 := cell_of_row w6 bx 0 _ _ _ hg9; have y1 := cell_of_row w6 bx 1 _ _ _ hg9; have y2 := cell_of_row w6 bx 2 _ _ _ hg9; have y3 := cell_of_row w6 bx 3 _ _ _ hg9; have y4 := cell_of_row w6 bx 4 _ _ _ hg9; have t0 := frozen_of_row w6 bx 0 _ _ hg9; have t1 := frozen_of_row w6 bx 1 _ _ hg9; have t2 := frozen_of_row w6 bx 2 _ _ hg9; have t3 := frozen_of_row w6 bx 3 _ _ hg9; have t4 := frozen_of_row w6 bx 4 _ _ hg9
  refine wpAnyM_value (i := 16) (v := ?_) rfl (by kernel_rfl) (by kernel_rfl) (by kernel_rfl) (by kernel_rfl) (fun _ _ _ h => h) (Or.inl ⟨by rfl, ?_⟩) ?_
  rotate_left
  · intro w hSw; go_simp; (try with_reducible rfl)
  simp only [Act.put, List.getElem_toArray, List.getElem_cons_zero, List.getElem_cons_succ, List.setIfInBounds_toArray, List.set_cons_zero, List.set_cons_succ]
  refine wpAnyM_one (i := 17) (by kernel_rfl) rfl (fun K hK => ?_)
  go_simp
  refine hK.out _ _ (fun h => absurd h (by decide)) ?_
  clear hK K
  refine wpAnyM_done (by kernel_rfl) ?_ _
  clear hg9 y0 y1 y2 y3 y4 t0 t1 t2 t3 t4 hS0 hS5 hS6
  have hF := HH.out.st.box.crash2 hp1 hp2 hp3 ol on oc hD6 hb6 hR6
  generalize (((((w6.setCell ⟨bx, 0, none⟩ (.slice B1 r1 f1)).setCell ⟨bx, 1, none⟩ (.slice B2 r2 f2)).setCell ⟨bx, 2, none⟩ (.slice B3 r3 f3)).setCell ⟨bx, 3, none⟩ (.int .i64 s9)).setCell ⟨bx, 4, none⟩ (.int .i64 l9)) = w8 at hF ⊢
  have ga8 := (hF.below.block ba (heap_lt HH.out.area)).trans HH.out.area
  have d1 := cell_of_row w8 ba 1 _ _ _ ga8; have d2 := cell_of_row w8 ba 2 _ _ _ ga8
  have hfit : FitsI (M.crashed ol on oc).size (first : Int) (count : Int) := by
    rw [hF.sizeM]; have h1 := HH.out.fit; have h2 := HH.out.two; unfold FitsI; omega
  have hop := openD (first := first) (count := count) hF.disk (by rw [hF.sizeM]; have := HH.out.m40; omega) hfit
  have HOP := Lib.hid hop
  have HF := Lib.hid hF
  clear hF hop hfit ga8 hR6 hD6 hb6 hp1 hp2 hp3 hX5 hb5 hb5' hD5 hb56 HRC HCR
  go_wp2_with (first
    | (go_at_call 29; (with_reducible refine HOP.out.mono ?_); rintro e w9 ⟨q', rfl, hq9, hI9, hb9⟩)
    | go_in)
  have hS9 : St W0 w9 bx p' bs' bw' q' m T first count (M.crashed ol on oc) (M.crashed ol on oc) := ⟨HF.out.kept hb9, hI9, by have := HF.out.lt; omega, Nat.le_trans HF.out.below.size hq9⟩
  exact HK.out _ _ _ _ _ _ _ _ _ _ _ _ _ _ _ _ _ _ _ _ _ _ _ _ _ _ _ _ _ _ _ _ _ _ _ _ _ _ _ _ _ _ _ _ _ _ _ _ _ _ _ _ _ _ _ _ _ _ _ _ _ _ _ _ _ _ _ _ _ _ _ _ _ _ _ _ _ _ _ _ _ _ _ _ _ _ _ _ _ _ _ _ _ _ _ _ _ _ _ _ _ _ _ _ _ _ _ _ _ _ _ _ _ _ _ _ _ _ _ _ _ _ _ _ _ _ _ _ _ _ _ _ _ _ _ _ _ _ _ _ _ _ _ _ _ _ _ _ _ _ _ _ _ _ _ _ _ _ _ _ _ _ _ _ _ _ _ _ _ _ (by have := HH.out.tl; omega) hS9
end Go.Proofs.Ytdjcpjfomgfjlaa
