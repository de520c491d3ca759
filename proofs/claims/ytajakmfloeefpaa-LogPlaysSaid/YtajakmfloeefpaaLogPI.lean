/- The loop of LogPlays, walked. -/
import Derived.Test.YtajakmfloeefpaaJnP
import Derived.Test.YtajakmfloeefpaaLogPK
import Derived.Test.YtajakmfloeefpaaLogPL
import Derived.Test.YtajakmfloeefpaaLogPM
import Derived.Test.YtajakmfloeefpaaLogPR
import Derived.Test.YtajakmfloeefpaaJnQ
import Derived.Deep.CutBlock
import Derived.Deep.CutRange
import Derived.Deep.LoopGhost
import Derived.Laws.IdiomStrings
namespace Go.Proofs.Ytajakmfloeefpaa
open Go.RowKit Go.Maps

theorem wp_code {P : Program} {c c' : Code} {Q : Exit → Act → World → Prop} {a : Act} {w : World} (e : c = c') (h : Code.wp P c Q a w) : Code.wp P c' Q a w := e ▸ h
noncomputable def lpLoop : Code := ((Try.f3.body.bind (firstBlk 0)).getD .skip)
set_option maxRecDepth 1000000 in
set_option maxHeartbeats 8000000 in
theorem lp_loop {W0 W9 w : World} {bx bl p q m first count c : Nat} {A : Option Addr} {L : List OpL} {X : Prop} {K : Act → World → Prop} (HB0 : Hid (Below w.heap.size w W0 ∧ W0.heap[w.heap.size]? = some (.cells #[.int .i64 (m : Int), .int .i64 (first : Int), .int .i64 (count : Int)] 23 (0, 0)) ∧ W0.heap.size = w.heap.size + 1)) (HR : Hid (Rd w w.heap.size A (opsL L) ∧ ∀ o ∈ L, o.ok w w.heap.size)) (hm40 : m ≤ 40) (HX2 : Hid (first + count ≤ m ∧ 2 ≤ count ∧ X)) (HS5 : Hid (LpR W0 W9 bx bl p q m 4097 first count))
    (u0 u3 u4 u8 u10 u14 u15 u16 u17 u18 u19 u20 u21 u22 u23 u24 u25 u26 u27 u28 u29 u30 u31 u32 u33 u34 u35 u36 u37 u38 u39 u40 u41 u42 u43 u44 u45 u46 u47 u48 u49 u50 u51 u52 u53 u54 u55 u56 u57 u58 u59 u60 u61 u62 u63 u64 u65 u66 u67 u68 u69 u70 u71 u72 u73 u74 u75 u76 u77 u78 u79 u80 u81 u82 u83 u84 u85 u86 u87 u88 u89 u90 u91 u92 u93 u94 u95 u96 u97 u98 u99 u100 u101 u102 u103 u104 u105 u106 u107 u108 u109 u110 u111 u112 u113 u114 u115 u116 u117 u118 u119 u120 u121 u122 u123 u124 u125 u126 u127 u128 u129 u130 u131 u132 u133 u134 u135 u136 u137 u138 u139 u140 u141 u142 u143 u144 u145 u146 u147 u148 u149 u150 u151 u152 u153 u154 u155 u156 u157 u158 u159 u160 u161 u162 u163 u164 u165 u166 u167 u168 u169 u170 u171 u172 u173 u174 u175 u176 u177 u178 u179 u180 u181 u182 u183 u184 u185 u186 u187 u188 u189 u190 u191 u192 u193 u194 u195 u196 u197 u198 u199 u200 u201 u202 u203 u204 u205 u206 u207 u208 u209 u210 u211 u212 u213 u214 u215 u216 u217 u218 u219 u220 u221 u222 u223 u224 u225 u226 u227 u228 u229 u230 u231 u232 u233 u234 u235 u236 u237 u238 u239 u240 u241 u242 u243 u244 u245 u246 u247 u248 u249 u250 u251 u252 u253 u254 u255 u256 : Value)
    (hK : ∀ (v4 v5 v6 v9 v10 v12 v13 v14 v15 v82 v83 v84 v85 v86 v87 v88 v89 v90 v91 v92 v93 v94 v95 v96 v97 v98 v99 v100 v101 v102 v103 v104 v105 v106 v107 v108 v109 v110 v111 v112 v113 v114 v115 v116 v117 v118 v119 v120 v121 v122 v123 v124 v125 v126 v127 v128 v129 v130 v131 v132 v133 v134 v135 v136 v137 v138 v139 v140 v141 v142 v143 v144 v145 v146 v147 v148 v149 v150 v151 v152 v153 v154 v155 v156 v157 v158 v159 v160 v161 v162 v163 v164 v165 v166 v167 v168 v169 v170 v171 v172 v173 v174 v175 v176 v177 v178 v179 v180 v181 v182 v183 v184 v185 v186 v187 v188 v189 v190 v191 v192 v193 v194 v195 v196 v197 v198 v199 v200 v201 v202 v203 v204 v205 v206 v207 v208 v209 v210 v211 v212 v213 v214 v215 v216 v217 v218 v219 v220 v221 v222 v223 v224 v225 v226 v227 v228 v229 v230 v231 v232 v233 v234 v235 v236 v237 v238 v239 v240 v241 v242 v243 v244 v245 v246 v247 v248 v249 v250 v251 v252 v253 v254 v255 v256 : Value) (w1 : World), Below W0.heap.size W0 w1 → K ⟨#[u0, .slice A L.length c, .pointer (some ⟨w.heap.size, 0, none⟩), u3, v4, v5, v6, .pointer (some ⟨bx, 0, none⟩), u8, v9, v10, .pointer (some ⟨bl, 0, none⟩), v12, v13, v14, v15, u16, u17, u18, u19, u20, u21, u22, u23, u24, u25, u26, u27, u28, u29, u30, u31, u32, u33, u34, u35, u36, u37, u38, u39, u40, u41, u42, u43, u44, u45, u46, u47, u48, u49, u50, u51, u52, u53, u54, u55, u56, u57, u58, u59, u60, u61, u62, u63, u64, u65, u66, u67, u68, u69, u70, u71, u72, u73, u74, u75, u76, u77, u78, u79, u80, u81, v82, v83, v84, v85, v86, v87, v88, v89, v90, v91, v92, v93, v94, v95, v96, v97, v98, v99, v100, v101, v102, v103, v104, v105, v106, v107, v108, v109, v110, v111, v112, v113, v114, v115, v116, v117, v118, v119, v120, v121, v122, v123, v124, v125, v126, v127, v128, v129, v130, v131, v132, v133, v134, v135, v136, v137, v138, v139, v140, v141, v142, v143, v144, v145, v146, v147, v148, v149, v150, v151, v152, v153, v154, v155, v156, v157, v158, v159, v160, v161, v162, v163, v164, v165, v166, v167, v168, v169, v170, v171, v172, v173, v174, v175, v176, v177, v178, v179, v180, v181, v182, v183, v184, v185, v186, v187, v188, v189, v190, v191, v192, v193, v194, v195, v196, v197, v198, v199, v200, v201, v202, v203, v204, v205, v206, v207, v208, v209, v210, v211, v212, v213, v214, v215, v216, v217, v218, v219, v220, v221, v222, v223, v224, v225, v226, v227, v228, v229, v230, v231, v232, v233, v234, v235, v236, v237, v238, v239, v240, v241, v242, v243, v244, v245, v246, v247, v248, v249, v250, v251, v252, v253, v254, v255, v256], []⟩ w1) :
    Code.wp Try.prog lpLoop (Exit.then K (fun _ _ _ => False)) ⟨#[u0, .slice A L.length c, .pointer (some ⟨w.heap.size, 0, none⟩), u3, u4, .pointer (some ⟨p, 0, none⟩), .int .i64 0, .pointer (some ⟨bx, 0, none⟩), u8, .pointer (some ⟨q, 0, none⟩), u10, .pointer (some ⟨bl, 0, none⟩), .int .i64 0, .int .i64 0, u14, u15, u16, u17, u18, u19, u20, u21, u22, u23, u24, u25, u26, u27, u28, u29, u30, u31, u32, u33, u34, u35, u36, u37, u38, u39, u40, u41, u42, u43, u44, u45, u46, u47, u48, u49, u50, u51, u52, u53, u54, u55, u56, u57, u58, u59, u60, u61, u62, u63, u64, u65, u66, u67, u68, u69, u70, u71, u72, u73, u74, u75, u76, u77, u78, u79, u80, u81, u82, u83, u84, u85, u86, u87, u88, u89, u90, u91, u92, u93, u94, u95, u96, u97, u98, u99, u100, u101, u102, u103, u104, u105, u106, u107, u108, u109, u110, u111, u112, u113, u114, u115, u116, u117, u118, u119, u120, u121, u122, u123, u124, u125, u126, u127, u128, u129, u130, u131, u132, u133, u134, u135, u136, u137, u138, u139, u140, u141, u142, u143, u144, u145, u146, u147, u148, u149, u150, u151, u152, u153, u154, u155, u156, u157, u158, u159, u160, u161, u162, u163, u164, u165, u166, u167, u168, u169, u170, u171, u172, u173, u174, u175, u176, u177, u178, u179, u180, u181, u182, u183, u184, u185, u186, u187, u188, u189, u190, u191, u192, u193, u194, u195, u196, u197, u198, u199, u200, u201, u202, u203, u204, u205, u206, u207, u208, u209, u210, u211, u212, u213, u214, u215, u216, u217, u218, u219, u220, u221, u222, u223, u224, u225, u226, u227, u228, u229, u230, u231, u232, u233, u234, u235, u236, u237, u238, u239, u240, u241, u242, u243, u244, u245, u246, u247, u248, u249, u250, u251, u252, u253, u254, u255, u256], []⟩ W9 := by
  conv => arg 2; whnf
  have HK := Lib.hid hK
  clear hK
  go_wp2_with (fail)
  go_loopg [5, 6, 9, 12, 13] 41 (fun g d e mm cc i wr => ∃ (j T p q : Nat) (cd : Int), j ≤ 40 ∧ j ≤ L.length ∧ 40 - j ≤ g ∧ i = .int .i64 (j : Int) ∧ d = .pointer (some ⟨p, 0, none⟩) ∧ e = .int .i64 cd ∧ mm = .pointer (some ⟨q, 0, none⟩) ∧ cc = .int .i64 cd ∧ Hid (T ≤ 5000 * (j + 1) ∧ LpR W0 wr bx bl p q m T first count))
  case atStart => exact ⟨0, 4097, p, q, 0, by omega, by omega, by omega, rfl, rfl, rfl, rfl, rfl, Lib.hid ⟨by omega, HS5.out⟩⟩
  case round =>
    obtain ⟨j, T, p, q, cd, hj, hjl, hg, rfl, rfl, rfl, rfl, rfl, HS⟩ := hrel
    by_cases hgo : j < L.length ∧ j < 40
    · obtain ⟨hkl, hk9⟩ := hgo
      have hkI : (j : Int) < (L.length : Int) := by omega
      have hkJ : (j : Int) < 40 := by omega
      obtain ⟨bs, bw, base, M, LL, v, lo, A', c', hst⟩ := HS.out.2
      obtain ⟨o, hoe⟩ : ∃ o, o = L[j] := ⟨_, rfl⟩
      have hB0w : ∀ W, Below W0.heap.size W0 W → Below w.heap.size w W := fun W h => HB0.out.1.trans (lower' h (by have := HB0.out.2.2; omega))
      obtain ⟨ab, ao, rfl, hab, hcell⟩ := opl_cells HR.out.1 hkl
      obtain ⟨y0, y1, y2, y3, y4⟩ := hcell wr (hB0w wr hst.st.below)
      have hoo : o.ok w w.heap.size := by rw [hoe]; exact HR.out.2 _ (List.getElem_mem hkl)
      rw [← hoe] at y0 y1 y2 y3 y4
      have HST := Lib.hid hst
      have HOO := Lib.hid hoo
      have HW0 := Lib.hid hB0w
      have HJ := Lib.hid (And.intro hkl hab)
      clear hcell hoe hoo hB0w hkl hab hst
      obtain ⟨ok, on, oc, ob, oA, ol, ocap⟩ := o
      dsimp only at y0 y1 y2 y3 y4
      go_upto_region 15 with (fail)
      have hb8 : Below wr.heap.size wr (wr.alloc (.cells #[.int .i64 ok, .int .i64 on, .int .i64 oc, .slice ob.A ob.l.length ob.c, .slice oA ol.length ocap] 47)) := (Below.refl _ _).alloc (Nat.le_refl _) _
      have hg8 := heap_alloc_new wr (.cells #[.int .i64 ok, .int .i64 on, .int .i64 oc, .slice ob.A ob.l.length ob.c, .slice oA ol.length ocap] 47)
      generalize wr.alloc (.cells #[.int .i64 ok, .int .i64 on, .int .i64 oc, .slice ob.A ob.l.length ob.c, .slice oA ol.length ocap] 47) = W8 at hb8 hg8 ⊢
      have hbo : wr.heap.size ∉ [bx, bl, p, bs, bw, q] ++ v.ownBlock.toList := fun hm => Nat.lt_irrefl _ (HST.out.st.lt _ hm)
      have H8 := Lib.hid (And.intro HS.out.1 (HST.out.kept hb8))
      generalize wr.heap.size = bo at hg8 hbo ⊢
      have HG8 := Lib.hid (And.intro hg8 hbo)
      have z0 := cell_of_row W8 bo 0 _ _ _ hg8
      clear HS HST hb8 hg8 hbo y0 y1 y2 y3 y4
      go_upto_block 2 with (fail)
      go_cut [5, 6, 9, 10, 12, 15] from 82 to 256 (fun d e mm x cc y w' => ∃ (T p q : Nat) (cd : Int), d = .pointer (some ⟨p, 0, none⟩) ∧ e = .int .i64 cd ∧ mm = .pointer (some ⟨q, 0, none⟩) ∧ cc = .int .i64 cd ∧ Hid (T ≤ 5000 * (j + 2) ∧ LpR W0 w' bx bl p q m T first count))
      case first =>
        have harm : ArmL W0 w W8 w.heap.size bx bl bo p bs bw q base m T first count j M LL v lo A' c' ⟨ok, on, oc, ob, oA, ol, ocap⟩ := ⟨H8.out.1, hk9, H8.out.2, HG8.out.1, HG8.out.2, HOO.out, HW0.out, HB0.out.2.1, HX2.out.1, HX2.out.2.1, hm40⟩
        have HARM := Lib.hid harm
        clear harm z0
        by_cases h1 : ok = 1
        · subst h1
          refine wp_noway (lp_arm1 HARM.out _ _ _ _ _ _ _ _ _ _ _ _ _ _ _ _ _ _ _ _ _ _ _ _ _ _ _ _ _ _ _ _ _ _ _ _ _ _ _ _ _ _ _ _ _ _ _ _ _ _ _ _ _ _ _ _ _ _ _ _ _ _ _ _ _ _ _ _ _ _ _ _ _ _ _ _ _ _ _ _ _ _ _ _ _ _ _ _ _ _ _ _ _ _ _ _ _ _ _ _ _ _ _ _ _ _ _ _ _ _ _ _ _ _ _ _ _ _ _ _ _ _ _ _ _ _ _ _ _ _ _ _ _ _ _ _ _ _ _ _ _ _ _ _ _ _ _ _ _ _ _ _ _ _ _ _ _ _ _ _ _ _ _ _ _ _ _ _ _ _ _ _ _ _ _ _ _ _ _ _ _ _ _ _ _ _ _ _ _ _ _ _ _ _ _ _ _ _ _ _ _ _ _ _ _ _ _ _ _ _ _ _ _ _ _ _ _ _ _ _ _ _ _ _ _ _ _ _ _ _ _ _ _ _ _ _ _ _ _ _ _ _ _ _ _ _ _ ?_)
          intro T1 p1 q1 cd1 _ _ _ _ _ _ _ _ _ _ _ _ _ _ _ _ _ _ _ _ _ _ _ _ _ _ _ _ _ _ _ _ _ _ _ _ _ _ _ _ _ _ _ _ _ _ _ _ _ _ _ _ _ _ _ _ _ _ _ _ _ _ _ _ _ _ _ _ _ _ _ _ _ _ _ _ _ _ _ _ _ _ _ _ _ _ _ _ _ _ _ _ _ _ _ _ _ _ _ _ _ _ _ _ _ _ _ _ _ _ _ _ _ _ _ _ _ _ _ _ _ _ _ _ _ _ _ _ _ _ _ _ _ _ _ _ _ _ _ _ _ _ _ _ _ _ _ _ _ _ _ _ _ _ _ _ _ w1 hT1 hS1
          (try go_wp2_with (fail))
          go_meet
          case rel => exact ⟨T1, p1, q1, cd1, rfl, rfl, rfl, rfl, Lib.hid ⟨hT1, hS1⟩⟩
        by_cases h2 : ok = 2
        · subst h2
          refine wp_noway (lp_arm2 HARM.out _ _ _ _ _ _ _ _ _ _ _ _ _ _ _ _ _ _ _ _ _ _ _ _ _ _ _ _ _ _ _ _ _ _ _ _ _ _ _ _ _ _ _ _ _ _ _ _ _ _ _ _ _ _ _ _ _ _ _ _ _ _ _ _ _ _ _ _ _ _ _ _ _ _ _ _ _ _ _ _ _ _ _ _ _ _ _ _ _ _ _ _ _ _ _ _ _ _ _ _ _ _ _ _ _ _ _ _ _ _ _ _ _ _ _ _ _ _ _ _ _ _ _ _ _ _ _ _ _ _ _ _ _ _ _ _ _ _ _ _ _ _ _ _ _ _ _ _ _ _ _ _ _ _ _ _ _ _ _ _ _ _ _ _ _ _ _ _ _ _ _ _ _ _ _ _ _ _ _ _ _ _ _ _ _ _ _ _ _ _ _ _ _ _ _ _ _ _ _ _ _ _ _ _ _ _ _ _ _ _ _ _ _ _ _ _ _ _ _ _ _ _ _ _ _ _ _ _ _ _ _ _ _ _ _ _ _ _ _ _ _ _ _ _ _ _ _ ?_)
          intro T1 p1 q1 cd1 _ _ _ _ _ _ _ _ _ _ _ _ _ _ _ _ _ _ _ _ _ _ _ _ _ _ _ _ _ _ _ _ _ _ _ _ _ _ _ _ _ _ _ _ _ _ _ _ _ _ _ _ _ _ _ _ _ _ _ _ _ _ _ _ _ _ _ _ _ _ _ _ _ _ _ _ _ _ _ _ _ _ _ _ _ _ _ _ _ _ _ _ _ _ _ _ _ _ _ _ _ _ _ _ _ _ _ _ _ _ _ _ _ _ _ _ _ _ _ _ _ _ _ _ _ _ _ _ _ _ _ _ _ _ _ _ _ _ _ _ _ _ _ _ _ _ _ _ _ _ _ _ _ _ _ _ _ w1 hT1 hS1
          (try go_wp2_with (fail))
          go_meet
          case rel => exact ⟨T1, p1, q1, cd1, rfl, rfl, rfl, rfl, Lib.hid ⟨hT1, hS1⟩⟩
        by_cases h3 : ok = 3
        · subst h3
          refine wp_noway (lp_arm3 HARM.out _ _ _ _ _ _ _ _ _ _ _ _ _ _ _ _ _ _ _ _ _ _ _ _ _ _ _ _ _ _ _ _ _ _ _ _ _ _ _ _ _ _ _ _ _ _ _ _ _ _ _ _ _ _ _ _ _ _ _ _ _ _ _ _ _ _ _ _ _ _ _ _ _ _ _ _ _ _ _ _ _ _ _ _ _ _ _ _ _ _ _ _ _ _ _ _ _ _ _ _ _ _ _ _ _ _ _ _ _ _ _ _ _ _ _ _ _ _ _ _ _ _ _ _ _ _ _ _ _ _ _ _ _ _ _ _ _ _ _ _ _ _ _ _ _ _ _ _ _ _ _ _ _ _ _ _ _ _ _ _ _ _ _ _ _ _ _ _ _ _ _ _ _ _ _ _ _ _ _ _ _ _ _ _ _ _ _ _ _ _ _ _ _ _ _ _ _ _ _ _ _ _ _ _ _ _ _ _ _ _ _ _ _ _ _ _ _ _ _ _ _ _ _ _ _ _ _ _ _ _ _ _ _ _ _ _ _ _ _ _ _ _ _ _ _ _ _ ?_)
          intro T1 p1 q1 cd1 _ _ _ _ _ _ _ _ _ _ _ _ _ _ _ _ _ _ _ _ _ _ _ _ _ _ _ _ _ _ _ _ _ _ _ _ _ _ _ _ _ _ _ _ _ _ _ _ _ _ _ _ _ _ _ _ _ _ _ _ _ _ _ _ _ _ _ _ _ _ _ _ _ _ _ _ _ _ _ _ _ _ _ _ _ _ _ _ _ _ _ _ _ _ _ _ _ _ _ _ _ _ _ _ _ _ _ _ _ _ _ _ _ _ _ _ _ _ _ _ _ _ _ _ _ _ _ _ _ _ _ _ _ _ _ _ _ _ _ _ _ _ _ _ _ _ _ _ _ _ _ _ _ _ _ _ _ w1 hT1 hS1
          (try go_wp2_with (fail))
          go_meet
          case rel => exact ⟨T1, p1, q1, cd1, rfl, rfl, rfl, rfl, Lib.hid ⟨hT1, hS1⟩⟩
        by_cases h4 : ok = 4
        · subst h4
          refine wp_noway (lp_arm4 HARM.out _ _ _ _ _ _ _ _ _ _ _ _ _ _ _ _ _ _ _ _ _ _ _ _ _ _ _ _ _ _ _ _ _ _ _ _ _ _ _ _ _ _ _ _ _ _ _ _ _ _ _ _ _ _ _ _ _ _ _ _ _ _ _ _ _ _ _ _ _ _ _ _ _ _ _ _ _ _ _ _ _ _ _ _ _ _ _ _ _ _ _ _ _ _ _ _ _ _ _ _ _ _ _ _ _ _ _ _ _ _ _ _ _ _ _ _ _ _ _ _ _ _ _ _ _ _ _ _ _ _ _ _ _ _ _ _ _ _ _ _ _ _ _ _ _ _ _ _ _ _ _ _ _ _ _ _ _ _ _ _ _ _ _ _ _ _ _ _ _ _ _ _ _ _ _ _ _ _ _ _ _ _ _ _ _ _ _ _ _ _ _ _ _ _ _ _ _ _ _ _ _ _ _ _ _ _ _ _ _ _ _ _ _ _ _ _ _ _ _ _ _ _ _ _ _ _ _ _ _ _ _ _ _ _ _ _ _ _ _ _ _ _ _ _ _ _ _ ?_)
          intro T1 p1 q1 cd1 _ _ _ _ _ _ _ _ _ _ _ _ _ _ _ _ _ _ _ _ _ _ _ _ _ _ _ _ _ _ _ _ _ _ _ _ _ _ _ _ _ _ _ _ _ _ _ _ _ _ _ _ _ _ _ _ _ _ _ _ _ _ _ _ _ _ _ _ _ _ _ _ _ _ _ _ _ _ _ _ _ _ _ _ _ _ _ _ _ _ _ _ _ _ _ _ _ _ _ _ _ _ _ _ _ _ _ _ _ _ _ _ _ _ _ _ _ _ _ _ _ _ _ _ _ _ _ _ _ _ _ _ _ _ _ _ _ _ _ _ _ _ _ _ _ _ _ _ _ _ _ _ _ _ _ _ _ w1 hT1 hS1
          (try go_wp2_with (fail))
          go_meet
          case rel => exact ⟨T1, p1, q1, cd1, rfl, rfl, rfl, rfl, Lib.hid ⟨hT1, hS1⟩⟩
        by_cases h5 : ok = 5
        · subst h5
          refine wp_noway (lp_arm5 HARM.out _ _ _ _ _ _ _ _ _ _ _ _ _ _ _ _ _ _ _ _ _ _ _ _ _ _ _ _ _ _ _ _ _ _ _ _ _ _ _ _ _ _ _ _ _ _ _ _ _ _ _ _ _ _ _ _ _ _ _ _ _ _ _ _ _ _ _ _ _ _ _ _ _ _ _ _ _ _ _ _ _ _ _ _ _ _ _ _ _ _ _ _ _ _ _ _ _ _ _ _ _ _ _ _ _ _ _ _ _ _ _ _ _ _ _ _ _ _ _ _ _ _ _ _ _ _ _ _ _ _ _ _ _ _ _ _ _ _ _ _ _ _ _ _ _ _ _ _ _ _ _ _ _ _ _ _ _ _ _ _ _ _ _ _ _ _ _ _ _ _ _ _ _ _ _ _ _ _ _ _ _ _ _ _ _ _ _ _ _ _ _ _ _ _ _ _ _ _ _ _ _ _ _ _ _ _ _ _ _ _ _ _ _ _ _ _ _ _ _ _ _ _ _ _ _ _ _ _ _ _ _ _ _ _ _ _ _ _ _ _ _ _ _ _ _ _ _ ?_)
          intro T1 p1 q1 cd1 _ _ _ _ _ _ _ _ _ _ _ _ _ _ _ _ _ _ _ _ _ _ _ _ _ _ _ _ _ _ _ _ _ _ _ _ _ _ _ _ _ _ _ _ _ _ _ _ _ _ _ _ _ _ _ _ _ _ _ _ _ _ _ _ _ _ _ _ _ _ _ _ _ _ _ _ _ _ _ _ _ _ _ _ _ _ _ _ _ _ _ _ _ _ _ _ _ _ _ _ _ _ _ _ _ _ _ _ _ _ _ _ _ _ _ _ _ _ _ _ _ _ _ _ _ _ _ _ _ _ _ _ _ _ _ _ _ _ _ _ _ _ _ _ _ _ _ _ _ _ _ _ _ _ _ _ _ w1 hT1 hS1
          (try go_wp2_with (fail))
          go_meet
          case rel => exact ⟨T1, p1, q1, cd1, rfl, rfl, rfl, rfl, Lib.hid ⟨hT1, hS1⟩⟩
        refine wp_noway (lp_none h1 h2 h3 h4 h5 HARM.out _ _ _ _ _ _ _ _ _ _ _ _ _ _ _ _ _ _ _ _ _ _ _ _ _ _ _ _ _ _ _ _ _ _ _ _ _ _ _ _ _ _ _ _ _ _ _ _ _ _ _ _ _ _ _ _ _ _ _ _ _ _ _ _ _ _ _ _ _ _ _ _ _ _ _ _ _ _ _ _ _ _ _ _ _ _ _ _ _ _ _ _ _ _ _ _ _ _ _ _ _ _ _ _ _ _ _ _ _ _ _ _ _ _ _ _ _ _ _ _ _ _ _ _ _ _ _ _ _ _ _ _ _ _ _ _ _ _ _ _ _ _ _ _ _ _ _ _ _ _ _ _ _ _ _ _ _ _ _ _ _ _ _ _ _ _ _ _ _ _ _ _ _ _ _ _ _ _ _ _ _ _ _ _ _ _ _ _ _ _ _ _ _ _ _ _ _ _ _ _ _ _ _ _ _ _ _ _ _ _ _ _ _ _ _ _ _ _ _ _ _ _ _ _ _ _ _ _ _ _ _ _ _ _ _ _ _ _ _ _ _ _ _ _ _ _ _ ?_)
        intro T1 p1 q1 cd1 _ _ _ _ _ _ _ _ _ _ _ _ _ _ _ _ _ _ _ _ _ _ _ _ _ _ _ _ _ _ _ _ _ _ _ _ _ _ _ _ _ _ _ _ _ _ _ _ _ _ _ _ _ _ _ _ _ _ _ _ _ _ _ _ _ _ _ _ _ _ _ _ _ _ _ _ _ _ _ _ _ _ _ _ _ _ _ _ _ _ _ _ _ _ _ _ _ _ _ _ _ _ _ _ _ _ _ _ _ _ _ _ _ _ _ _ _ _ _ _ _ _ _ _ _ _ _ _ _ _ _ _ _ _ _ _ _ _ _ _ _ _ _ _ _ _ _ _ _ _ _ _ _ _ _ _ _ w1 hT1 hS1
        (try go_wp2_with (fail))
        go_meet
        case rel => exact ⟨T1, p1, q1, cd1, rfl, rfl, rfl, rfl, Lib.hid ⟨hT1, hS1⟩⟩
      case rest =>
        obtain ⟨T, p, q, cd, rfl, rfl, rfl, rfl, HS⟩ := hcut
        have hgo : (j : Int) < 40 := hkJ
        obtain ⟨bs, bw, base, M, LL, v, lo, A', c', hst⟩ := HS.out.2
        have HST := Lib.hid hst
        clear hst
        go_upto_region 42 with (fail)
        rename_i K42 hK42
        refine wp_noway (lp_r42 HST.out _ _ _ _ _ _ _ _ _ _ _ _ _ _ _ _ _ _ _ _ _ _ _ _ _ _ _ _ _ _ _ _ _ _ _ _ _ _ _ _ _ _ _ _ _ _ _ _ _ _ _ _ _ _ _ _ _ _ _ _ _ _ _ _ _ _ _ _ _ _ _ _ _ _ _ _ _ _ _ _ _ _ _ _ _ _ _ _ _ _ _ _ _ _ _ _ _ _ _ _ _ _ _ _ _ _ _ _ _ _ _ _ _ _ _ _ _ _ _ _ _ _ _ _ _ _ _ _ _ _ _ _ _ _ _ _ _ _ _ _ _ _ _ _ _ _ _ _ _ _ _ _ _ _ _ _ _ _ _ _ _ _ _ _ _ _ _ _ _ _ _ _ _ _ _ _ _ _ _ _ _ _ _ _ _ _ _ _ _ _ _ _ _ _ _ _ _ _ _ _ _ _ _ _ _ _ _ _ _ _ _ _ _ _ _ _ _ _ _ _ _ _ _ _ _ _ _ _ _ _ _ _ _ _ _ _ _ _ _ _ _ _ _ _ _ _ _ _ _ _ _ ?_)
        intro _ _ _ _ _ _ _ _ _ _ _ _ _ _ _ _ _ _ _ _ _ _ w1 hS1
        refine hK42 _ _ ?_
        clear hK42
        have HS1 := Lib.hid hS1
        clear hS1
        dsimp only
        go_wp2_with (fail)
        go_roundg (40 - (j + 1))
        case measure => omega
        case rel => exact ⟨j + 1, T, p, q, cd, by omega, by have := HJ.out.1; omega, by omega, by simp, rfl, rfl, rfl, rfl, Lib.hid ⟨HS.out.1, bs, bw, base, M, LL, v, lo, A', c', HS1.out⟩⟩
    · have hx' : (¬ (j : Int) < (L.length : Int)) ∨ ((j : Int) < (L.length : Int) ∧ ¬ (j : Int) < 40) := by omega
      clear hgo
      obtain ⟨bs, bw, base, M, LL, v, lo, A', c', hst⟩ := HS.out.2
      have hbl := hst.st.below
      clear hst
      rcases hx' with hx1 | ⟨hx1, hx2⟩
      all_goals
        go_wp2_with (fail)
        exact HK.out _ _ _ _ _ _ _ _ _ _ _ _ _ _ _ _ _ _ _ _ _ _ _ _ _ _ _ _ _ _ _ _ _ _ _ _ _ _ _ _ _ _ _ _ _ _ _ _ _ _ _ _ _ _ _ _ _ _ _ _ _ _ _ _ _ _ _ _ _ _ _ _ _ _ _ _ _ _ _ _ _ _ _ _ _ _ _ _ _ _ _ _ _ _ _ _ _ _ _ _ _ _ _ _ _ _ _ _ _ _ _ _ _ _ _ _ _ _ _ _ _ _ _ _ _ _ _ _ _ _ _ _ _ _ _ _ _ _ _ _ _ _ _ _ _ _ _ _ _ _ _ _ _ _ _ _ _ _ _ _ _ _ _ _ _ _ _ _ _ _ _ _ _ _ _ _ _ _ _ _ _ _ _ _ _ hbl
end Go.Proofs.Ytajakmfloeefpaa
