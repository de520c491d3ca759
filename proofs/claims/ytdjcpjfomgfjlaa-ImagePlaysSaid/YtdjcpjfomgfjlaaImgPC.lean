/- ImagePlays: Save. -/
import Derived.Test.YtdjcpjfomgfjlaaImgPZ
import Derived.Deep.CutBlock
import Derived.Deep.CutRange
import Derived.Deep.LoopGhost
namespace Go.Proofs.Ytdjcpjfomgfjlaa
open Go.RowKit Go.Maps

def blkL (A : Option Addr) : List Nat := (A.map (·.block)).toList
theorem blkL_ge {A : Option Addr} {n : Nat} (h : ∀ a, A = some a → n ≤ a.block) : ∀ y ∈ blkL A, n ≤ y := by
  intro y hy
  cases A with
  | none => simp [blkL] at hy
  | some a => simp [blkL] at hy; subst hy; exact h a rfl
theorem own_frB {w w' : World} {base : Nat} {e : TypeId} {v : Value} {l : List UInt8} {S : List Nat} (h : OwnB w base e v l) (hf : Fr w w' S) (hS : ∀ s ∈ S, s < base) : OwnB w' base e v l := by
  unfold OwnB at h ⊢
  refine ⟨h.1, ?_⟩
  rcases h.2 with h2 | ⟨g, cap, cur, hv, hg, hgg, r⟩
  · exact .inl h2
  · refine .inr ⟨g, cap, cur, hv, hg, ?_, r⟩
    rw [hf.block g (Array.getElem?_eq_some_iff.1 hgg).1 (fun hs => by have := hS g hs; omega)]
    exact hgg
theorem own_ltB {w : World} {base : Nat} {e : TypeId} {A : Option Addr} {n c : Nat} {l : List UInt8} (h : OwnB w base e (.slice A n c) l) : ∀ y ∈ blkL A, y < w.heap.size := by
  intro y hy
  cases A with
  | none => simp [blkL] at hy
  | some a =>
    simp [blkL] at hy
    subst hy
    rcases h.2 with ⟨hv, _⟩ | ⟨g, cap, cur, hv, _, hg, _⟩
    · cases hv
    · cases hv; exact heap_lt hg
abbrev put5 (w : World) (b : Nat) (v0 v1 v2 v3 v4 : Value) : World := (((((w.setCell ⟨b, 0, none⟩ v0).setCell ⟨b, 1, none⟩ v1).setCell ⟨b, 2, none⟩ v2).setCell ⟨b, 3, none⟩ v3).setCell ⟨b, 4, none⟩ v4)
theorem fr_put5 (w : World) (b : Nat) (v0 v1 v2 v3 v4 : Value) : Fr w (put5 w b v0 v1 v2 v3 v4) [b] := (((((Fr.refl _ _).setCell (by simp) _).setCell (by simp) _).setCell (by simp) _).setCell (by simp) _).setCell (by simp) _
/-- The document's disk, in none of some new blocks, behind a Save of the disk's. -/
theorem St.ref6 {W0 W8 w5 w6 : World} {bx p bs bw q m T first count : Nat} {M M' : DM} {Z : List Nat} (h : St W0 W8 bx p bs bw q m T first count M M) (hZ : ∀ z ∈ Z, W8.heap.size ≤ z) (hb5 : Below W8.heap.size W8 w5) (h6 : Saved w5 w6 q p bs bw T first count M') :
    ∃ A1 A2 A3 n1 n2 n3 c1 c2 c3 s l, w6.heap[bx]? = some (.cells #[.slice A1 n1 c1, .slice A2 n2 c2, .slice A3 n3 c3, .int .i64 s, .int .i64 l] 33 (0, 0)) ∧ RefV w6 ([bx, p, bs, bw] ++ Z) (refOf M) (.agg #[.slice A1 n1 c1, .slice A2 n2 c2, .slice A3 n3 c3, .int .i64 s, .int .i64 l]) := by
  obtain ⟨A1, A2, A3, n1, n2, n3, c1, c2, c3, s, l, hg, hv⟩ := h.box.box
  have hx := heap_lt hg
  have ho := h.box.off
  refine ⟨A1, A2, A3, n1, n2, n3, c1, c2, c3, s, l, ?_, ?_⟩
  · exact (h6.2.block bx (Nat.lt_of_lt_of_le hx hb5.size) (by simp; omega)).trans ((hb5.block bx hx).trans hg)
  · exact ((hv.ext (by rw [h.box.sizeM]; exact h.box.pos) hZ).below hb5).fr h6.2 (by simp)
/-- All that lasts, behind a Save of both and behind bytes that are turned. -/
theorem St.saved {W0 W8 w5 w6 w7 wr : World} {bx p bs bw q m T first count : Nat} {M M' : DM} {Z : List Nat} {B1 B2 B3 : Option Addr} {m1 m2 m3 d1 d2 d3 : Nat} {s l : Int} (h : St W0 W8 bx p bs bw q m T first count M M) (hZ : ∀ z ∈ Z, W8.heap.size ≤ z) (hb5 : Below W8.heap.size W8 w5) (h6 : Saved w5 w6 q p bs bw T first count M')
    (hs : M'.size = M.size) (hst : M'.steps ≤ M.steps + 5000) (hl : M'.left ≤ M.left) (hT : T + 5000 ≤ 1000000000) (hb7 : Below w6.heap.size w6 w7) (hR : RefV w7 ([bx, p, bs, bw] ++ Z) (refOf M') (.agg #[.slice B1 m1 d1, .slice B2 m2 d2, .slice B3 m3 d3, .int .i64 s, .int .i64 l]))
    (hf : Fr (put5 w7 bx (.slice B1 m1 d1) (.slice B2 m2 d2) (.slice B3 m3 d3) (.int .i64 s) (.int .i64 l)) wr Z) : St W0 wr bx p bs bw q m (T + 5000) first count M' M' := by
  obtain ⟨A1, A2, A3, n1, n2, n3, c1, c2, c3, s', l', hg6, -⟩ := h.ref6 (Z := Z) hZ hb5 h6
  have hlt := h.box.disk.lt
  have hx := h.box.lt
  have ho := h.box.off
  have hq := h.img.img.lt
  have hqa := h.img.ap
  have hqx := h.qb
  have z5 := hb5.size
  have z6 := h6.2.size
  have z7 := hb7.size
  have hbz : ∀ b, b < W8.heap.size → b ∉ Z := fun b hb hm => by have := hZ b hm; omega
  have f5 := fr_put5 w7 bx (.slice B1 m1 d1) (.slice B2 m2 d2) (.slice B3 m3 d3) (.int .i64 s) (.int .i64 l)
  have g7 := set5 ((hb7.block bx (heap_lt hg6)).trans hg6) (.slice B1 m1 d1) (.slice B2 m2 d2) (.slice B3 m3 d3) (.int .i64 s) (.int .i64 l)
  have hD := ((h6.1.disk.kept hb7).fr f5 (by simp; omega) (by simp; omega) (by simp; omega)).fr hf (hbz p hlt.1) (hbz bs hlt.2.1) (hbz bw hlt.2.2)
  have ok : M'.Ok (T + 5000) := ⟨by rw [hs]; exact h.box.okM.size, by have := h.box.stepsM; omega, Nat.le_trans hl h.box.okM.left, hT⟩
  have hst' : M'.steps ≤ T + 5000 := by have := h.box.stepsM; omega
  have hfr : Fr W8 wr [p, bs, bw, bx] := ((((Fr.of_below hb5 [p, bs, bw, bx]).trans (h6.2.mono (by simp))).trans (Fr.of_below hb7 _)).trans (f5.mono (by simp))).more hf (fun z hz => .inr (hZ z hz))
  refine ⟨⟨⟨_, _, _, _, _, _, _, _, _, _, _, (hf.block bx (heap_lt g7) (hbz bx hx)).trans g7, ((hR.fr f5 (by simp)).fr hf (fun z hz => by simp [hz])).sub (fun y hy => List.mem_append_left _ hy)⟩, hD, ok, ok, hs.trans h.box.sizeM, hs.trans h.box.sizeM, hst', hst', h.box.pos, ho, h.box.low, h.box.below.trans (hfr.below h.box.below.size (by have := h.box.low; simp; omega))⟩, ?_, h.qb, h.ql⟩
  exact ((h6.1.below hb7).fr f5 (by simp; omega) ((h6.1.disk.kept hb7).fr f5 (by simp; omega) (by simp; omega) (by simp; omega)) rfl).fr hf (hbz q hq) hD rfl
theorem arm_fit {W0 w W8 : World} {ba bx bo p bs bw q m T first count j : Nat} {M : DM} {o : OpL} (h : Arm W0 w W8 ba bx bo p bs bw q m T first count j M o) : Fit M T 5000 ∧ T + 5000 ≤ 1000000000 := by
  have h1 := h.tl
  have h2 := h.jl
  have h3 := h.st.box.stepsM
  exact ⟨⟨h.st.box.okM.size, by omega, h.st.box.okM.left, by omega⟩, by omega⟩
/-- The in's Save, then the document's. -/
theorem BoxD.rsaveZ {w6 : World} {Z : List Nat} {bx p bs bw m T : Nat} {R : DM} {first count : Nat} {v : Value} (hv : RefV w6 ([bx, p, bs, bw] ++ Z) (refOf R) v) (hX : ∀ x ∈ [bx, p, bs, bw] ++ Z, x < w6.heap.size) (hok : R.Ok T) (hsz : R.size = m) (hful : R.full) (hst : R.steps + 5000 ≤ 1000000000) (hfit : first + 2 * count ≤ m) (hc2 : 2 ≤ count) (s : Int) (d : List UInt8) :
    Calls Try.prog 32 #[v, .int .i64 (first : Int), .int .i64 (count : Int), .int .i64 s, .string ⟨d.toArray⟩] w6 fun e w' => ∃ B1 B2 B3 m1 m2 m3 d1 d2 d3 s' l, e = .returned (.tuple #[.agg #[.slice B1 m1 d1, .slice B2 m2 d2, .slice B3 m3 d3, .int .i64 s', .int .i64 l], .int .i64 (saveR R first count s d).1]) ∧ RefV w' ([bx, p, bs, bw] ++ Z) (refOf (saveR R first count s d).2) (.agg #[.slice B1 m1 d1, .slice B2 m2 d2, .slice B3 m3 d3, .int .i64 s', .int .i64 l]) ∧ Below w6.heap.size w6 w' := by
  refine (rsave_any w6 ([bx, p, bs, bw] ++ Z) R T v hv hok hst hX hful first count (by rw [hsz]; exact hfit) hc2 s d).mono ?_
  rintro e w' ⟨v', rfl, hR, hb⟩
  have hR' := hR
  obtain ⟨A1, A2, A3, c1, c2, c3, rfl, _, _, _⟩ := hR'
  exact ⟨_, _, _, _, _, _, _, _, _, _, _, rfl, hR, hb⟩
set_option maxRecDepth 1000000 in
set_option maxHeartbeats 4000000 in
theorem ip_arm1 {W0 w W8 : World} {ba bx bo p bs bw q m T first count j : Nat} {M : DM} {on oc : Int} {ob : RowB} {oA : Option Addr} {ol : List Bool} {ocap : Nat} {okind : Int} {K : Act → World → Prop} (h : Arm W0 w W8 ba bx bo p bs bw q m T first count j M ⟨1, on, oc, ob, oA, ol, ocap⟩)
    (u0 u1 u3 u4 u8 u13 u14 u15 u16 u17 u18 u19 u20 u21 u22 u23 u24 u25 u26 u27 u28 u29 u30 u31 u32 u33 u34 u35 u36 u37 u38 u39 u40 u41 u42 u43 u44 u45 u46 u47 u48 u49 u50 u51 u52 u53 u54 u55 u56 u57 u58 u59 u60 u61 u62 u63 u64 u65 u66 u67 u68 u69 u70 u71 u72 u73 u74 u75 u76 u77 u78 u79 u80 u81 u82 u83 u84 u85 u86 u87 u88 u89 u90 u91 u92 u93 u94 u95 u96 u98 u99 u100 u101 u102 u103 u104 u105 u106 u107 u108 u109 u110 u111 u112 u113 u114 u115 u116 u117 u118 u119 u120 u121 u122 u123 u124 u125 u126 u127 u128 u129 u130 u131 u132 u133 u134 u135 u136 u137 u138 u139 u140 u141 u142 u143 u144 u145 u146 u147 u148 u149 u150 u151 u152 u153 u154 u155 u156 u157 u158 u159 u160 u161 u162 u163 u164 u165 u166 u167 u168 u169 u170 u171 u172 u173 u174 u175 u176 u177 u178 u179 u180 u181 u182 u183 u184 u185 u186 u187 u188 u189 u190 u191 u192 u193 u194 u195 u196 u197 u198 u199 u200 u201 u202 u203 u204 u205 u206 u207 u208 u209 u210 u211 u212 u213 u214 u215 u216 u217 u218 u219 u220 u221 u222 u223 u224 u225 u226 u227 u228 u229 u230 u231 u232 u233 u234 u235 u236 u237 u238 u239 u240 u241 u242 u243 u244 u245 u246 u247 u248 u249 u250 u251 u252 u253 u254 u255 u256 u257 : Value)
    (hK : ∀ (T1 p1 bs1 bw1 q1 : Nat) (M1 : DM) (code : Int) (v13 v14 v98 v99 v100 v101 v102 v103 v104 v105 v106 v107 v108 v109 v110 v111 v112 v113 v114 v115 v116 v117 v118 v119 v120 v121 v122 v123 v124 v125 v126 v127 v128 v129 v130 v131 v132 v133 v134 v135 v136 v137 v138 v139 v140 v141 v142 v143 v144 v145 v146 v147 v148 v149 v150 v151 v152 v153 v154 v155 v156 v157 v158 v159 v160 v161 v162 v163 v164 v165 v166 v167 v168 v169 v170 v171 v172 v173 v174 v175 v176 v177 v178 v179 v180 v181 v182 v183 v184 v185 v186 v187 v188 v189 v190 v191 v192 v193 v194 v195 v196 v197 v198 v199 v200 v201 v202 v203 v204 v205 v206 v207 v208 v209 v210 v211 v212 v213 v214 v215 v216 v217 v218 v219 v220 v221 v222 v223 v224 v225 v226 v227 v228 v229 v230 v231 v232 v233 v234 v235 v236 v237 v238 v239 v240 v241 v242 v243 v244 v245 v246 v247 v248 v249 v250 v251 v252 v253 v254 v255 v256 v257 : Value) (w1 : World), T1 ≤ 5000 * (j + 1) → St W0 w1 bx p1 bs1 bw1 q1 m T1 first count M1 M1 → K ⟨#[u0, u1, .pointer (some ⟨ba, 0, none⟩), u3, u4, .pointer (some ⟨p1, 0, none⟩), .int .i64 code, .pointer (some ⟨bx, 0, none⟩), u8, .pointer (some ⟨q1, 0, none⟩), .int .i64 (j : Int), .pointer (some ⟨bo, 0, none⟩), .int .i64 code, v13, v14, u15, u16, u17, u18, u19, u20, u21, u22, u23, u24, u25, u26, u27, u28, u29, u30, u31, u32, u33, u34, u35, u36, u37, u38, u39, u40, u41, u42, u43, u44, u45, u46, u47, u48, u49, u50, u51, u52, u53, u54, u55, u56, u57, u58, u59, u60, u61, u62, u63, u64, u65, u66, u67, u68, u69, u70, u71, u72, u73, u74, u75, u76, u77, u78, u79, u80, u81, u82, u83, u84, u85, u86, u87, u88, u89, u90, u91, u92, u93, u94, u95, u96, .int .i64 1, v98, v99, v100, v101, v102, v103, v104, v105, v106, v107, v108, v109, v110, v111, v112, v113, v114, v115, v116, v117, v118, v119, v120, v121, v122, v123, v124, v125, v126, v127, v128, v129, v130, v131, v132, v133, v134, v135, v136, v137, v138, v139, v140, v141, v142, v143, v144, v145, v146, v147, v148, v149, v150, v151, v152, v153, v154, v155, v156, v157, v158, v159, v160, v161, v162, v163, v164, v165, v166, v167, v168, v169, v170, v171, v172, v173, v174, v175, v176, v177, v178, v179, v180, v181, v182, v183, v184, v185, v186, v187, v188, v189, v190, v191, v192, v193, v194, v195, v196, v197, v198, v199, v200, v201, v202, v203, v204, v205, v206, v207, v208, v209, v210, v211, v212, v213, v214, v215, v216, v217, v218, v219, v220, v221, v222, v223, v224, v225, v226, v227, v228, v229, v230, v231, v232, v233, v234, v235, v236, v237, v238, v239, v240, v241, v242, v243, v244, v245, v246, v247, v248, v249, v250, v251, v252, v253, v254, v255, v256, v257], []⟩ w1) :
    Code.wp Try.prog ipSw (Exit.then K (fun _ _ _ => False)) ⟨#[u0, u1, .pointer (some ⟨ba, 0, none⟩), u3, u4, .pointer (some ⟨p, 0, none⟩), .int .i64 0, .pointer (some ⟨bx, 0, none⟩), u8, .pointer (some ⟨q, 0, none⟩), .int .i64 (j : Int), .pointer (some ⟨bo, 0, none⟩), .int .i64 0, u13, u14, u15, u16, u17, u18, u19, u20, u21, u22, u23, u24, u25, u26, u27, u28, u29, u30, u31, u32, u33, u34, u35, u36, u37, u38, u39, u40, u41, u42, u43, u44, u45, u46, u47, u48, u49, u50, u51, u52, u53, u54, u55, u56, u57, u58, u59, u60, u61, u62, u63, u64, u65, u66, u67, u68, u69, u70, u71, u72, u73, u74, u75, u76, u77, u78, u79, u80, u81, u82, u83, u84, u85, u86, u87, u88, u89, u90, u91, u92, u93, u94, u95, u96, .int .i64 1, u98, u99, u100, u101, u102, u103, u104, u105, u106, u107, u108, u109, u110, u111, u112, u113, u114, u115, u116, u117, u118, u119, u120, u121, u122, u123, u124, u125, u126, u127, u128, u129, u130, u131, u132, u133, u134, u135, u136, u137, u138, u139, u140, u141, u142, u143, u144, u145, u146, u147, u148, u149, u150, u151, u152, u153, u154, u155, u156, u157, u158, u159, u160, u161, u162, u163, u164, u165, u166, u167, u168, u169, u170, u171, u172, u173, u174, u175, u176, u177, u178, u179, u180, u181, u182, u183, u184, u185, u186, u187, u188, u189, u190, u191, u192, u193, u194, u195, u196, u197, u198, u199, u200, u201, u202, u203, u204, u205, u206, u207, u208, u209, u210, u211, u212, u213, u214, u215, u216, u217, u218, u219, u220, u221, u222, u223, u224, u225, u226, u227, u228, u229, u230, u231, u232, u233, u234, u235, u236, u237, u238, u239, u240, u241, u242, u243, u244, u245, u246, u247, u248, u249, u250, u251, u252, u253, u254, u255, u256, u257], []⟩ W8 := by
  conv => arg 2; whnf
  have HK := Lib.hid hK
  have HH := Lib.hid h
  have z0 := cell_of_row W8 bo 0 _ _ _ h.op; have z1 := cell_of_row W8 bo 1 _ _ _ h.op; have z3 := cell_of_row W8 bo 3 _ _ _ h.op
  have ga := (Below.heap_alloc W8 (.cells #[] 5) bo (heap_lt h.op)).trans h.op
  have a3 := cell_of_row (W8.alloc (.cells #[] 5)) bo 3 _ _ _ ga
  try dsimp only at z0
  try dsimp only at z1
  try dsimp only at z3
  try dsimp only at a3
  clear ga
  obtain ⟨i0, hi, hz0, hz1, hz2⟩ := info_parts infoU8
  have hbA : Below W8.heap.size W8 (W8.alloc (.cells #[] 5)) := (Below.refl _ _).alloc (Nat.le_refl _) _
  have hD8 : ∀ W, Below W8.heap.size W8 W → Rd W w.heap.size ob.A (u8s ob.l) := fun W hW => h.ok.b.1.below (h.low W (h.st.box.below.trans (lower' hW h.st.box.below.size))) (Nat.le_refl _)
  have HD := Lib.hid hD8
  have hl4 : ob.l.length ≤ 140737488351232 := by have h1 := h.ok.b.2.1; have h2 := h.ok.b.2.2; dsimp only at h1 h2; omega
  have HL := Lib.hid hl4
  have hlo : w.heap.size ≤ W8.heap.size := (h.low W8 h.st.box.below).size
  have HLO := Lib.hid hlo
  clear h hK hbA hD8 hl4 hlo
  go_upto_region 21 with (first
    | (at_builtin; refine wpList_appB _ rfl (.tmp 100) (.tmp 102) _ rfl W8.heap.size 5 i0 _ Try.underlying45 hi hz0 hz1 hz2 rfl (.slice (some ⟨W8.heap.size, 0, none⟩) 0 0) [] rfl (OwnB.lit0 W8 (Nat.le_refl _)) w.heap.size ob.A ob.l.length ob.c ob.l rfl rfl (HD.out _ ((Below.refl _ _).alloc (Nat.le_refl _) _)) (by have := HL.out; simp; omega) (by simp) ?_; intro v5 w5 hown5 hg5 hat5; rw [List.nil_append] at hown5; have hB5 := append0_below hg5; obtain ⟨A5, c5, rfl, hc5, hc5m, hr5, hge5⟩ := hown5.shape; clear hg5 hat5)
    | go_in)
  obtain ⟨N, hN⟩ : ∃ N, N = ob.l.length := ⟨_, rfl⟩
  have hZ := blkL_ge hge5
  have hS5 := HH.out.st.kept hB5
  have g5 := (hB5.block bo (heap_lt HH.out.op)).trans HH.out.op
  have b1 := cell_of_row w5 bo 1 _ _ _ g5
  try dsimp only at b1
  have hlt8 := HH.out.st.box.disk.lt
  have hsv := saveD hS5.img on A5 ob.l c5 w5.heap.size hr5 (Nat.le_refl _) (fun _ x hx => by have := hge5 x hx; omega) hc5 (by simp only [maxLen] at hc5m; omega) (arm_fit HH.out).1
  rw [← hN] at hsv hown5 hc5 ⊢
  have HSV := Lib.hid hsv
  have H5 := Lib.hid (And.intro hB5 (And.intro hown5 (And.intro hZ (And.intro g5 hN))))
  obtain ⟨SR, hSR⟩ : ∃ SR, SR = saveR M first count on ob.l := ⟨_, rfl⟩
  have hfacts := saveR_facts M first count on ob.l HH.out.st.img.two.1 HH.out.st.img.two.2
  rw [← hSR] at HSV hfacts
  obtain ⟨e0, M'⟩ := SR
  try dsimp only at HSV
  try dsimp only at hfacts
  have HSR := Lib.hid (And.intro hSR hfacts)
  clear hsv hS5 hB5 hown5 hZ g5 hr5 hge5 hlt8 z0 z1 z3 a3 hc5 hc5m hSR hfacts hi hz0 hz1 hz2 hN
  go_upto_region 22 with (first
    | (go_at_call 31; (with_reducible refine HSV.out.mono ?_); rintro e w6 ⟨rfl, h6⟩)
    | go_in)
  obtain ⟨A1, A2, A3, n1, n2, n3, c1, c2, c3, s6, l6, hg6, hv6⟩ := HH.out.st.ref6 (Z := blkL A5) H5.out.2.2.1 H5.out.1 h6
  have q0 := cell_of_row w6 bx 0 _ _ _ hg6; have q1 := cell_of_row w6 bx 1 _ _ _ hg6; have q2 := cell_of_row w6 bx 2 _ _ _ hg6; have q3 := cell_of_row w6 bx 3 _ _ _ hg6; have q4 := cell_of_row w6 bx 4 _ _ _ hg6
  have ho6 := own_frB H5.out.2.1 h6.2 (by have := HH.out.st.box.disk.lt; simp; omega)
  have g6 := (h6.2.block bo (heap_lt H5.out.2.2.2.1) (by have := HH.out.off; simp; omega)).trans H5.out.2.2.2.1
  have b1 := cell_of_row w6 bo 1 _ _ _ g6; have b3 := cell_of_row w6 bo 3 _ _ _ g6
  have hba := HH.out.st.box.below.size
  have hW6 : Below W0.heap.size W0 w6 := (HH.out.st.box.below.trans (lower' H5.out.1 hba)).trans (h6.2.below (by have := H5.out.1.size; omega) (by have := HH.out.st.box.low; simp; omega))
  have ga6 := (hW6.block ba (heap_lt HH.out.area)).trans HH.out.area
  have d1 := cell_of_row w6 ba 1 _ _ _ ga6; have d2 := cell_of_row w6 ba 2 _ _ _ ga6
  have qs := strAt (n := N) (c := ob.c) (HH.out.ok.b.1.below (HH.out.low w6 hW6) (Nat.le_refl _)) H5.out.2.2.2.2
  have hrs := BoxD.rsaveZ (first := first) (count := count) (m := m) (T := T) hv6 (by
    intro x hx
    have hl8 := HH.out.st.box.disk.lt
    have hx8 := HH.out.st.box.lt
    have s5 := H5.out.1.size
    have s6 := h6.2.size
    rcases List.mem_append.1 hx with h | h
    · simp at h; omega
    · exact own_ltB ho6 x h) HH.out.st.box.okM HH.out.st.box.sizeM HH.out.st.box.disk.full (by have := (arm_fit HH.out).1.steps; omega) HH.out.fit HH.out.two on ob.l
  rw [← HSR.out.1] at hrs
  try dsimp only at hrs
  try dsimp only at b1
  try dsimp only at b3
  try dsimp only at qs
  try dsimp only at d1
  try dsimp only at d2
  rw [← H5.out.2.2.2.2] at b3
  have HRS := Lib.hid hrs
  have H6 := Lib.hid (And.intro h6 (And.intro hg6 (And.intro hv6 (And.intro ho6 (And.intro g6 hW6)))))
  clear h6 hg6 hv6 ho6 g6 hba hW6 ga6 hrs HSV
  go_upto_region 23 with (first
    | (go_at_call 32; (with_reducible refine HRS.out.mono ?_); rintro e w7 ⟨B1, B2, B3, r1, r2, r3, f1, f2, f3, s9, l9, rfl, hR9, hb9⟩; have hg9 := (hb9.block bx (heap_lt H6.out.2.1)).trans H6.out.2.1; have y0 := cell_of_row w7 bx 0 _ _ _ hg9; have y1 := cell_of_row w7 bx 1 _ _ _ hg9; have y2 := cell_of_row w7 bx 2 _ _ _ hg9; have y3 := cell_of_row w7 bx 3 _ _ _ hg9; have y4 := cell_of_row w7 bx 4 _ _ _ hg9; have t0 := frozen_of_row w7 bx 0 _ _ hg9; have t1 := frozen_of_row w7 bx 1 _ _ hg9; have t2 := frozen_of_row w7 bx 2 _ _ hg9; have t3 := frozen_of_row w7 bx 3 _ _ hg9; have t4 := frozen_of_row w7 bx 4 _ _ hg9)
    | go_in)
  have f9 := fr_put5 w7 bx (.slice B1 r1 f1) (.slice B2 r2 f2) (.slice B3 r3 f3) (.int .i64 s9) (.int .i64 l9)
  obtain ⟨w8, hw8⟩ : ∃ w8, w8 = put5 w7 bx (.slice B1 r1 f1) (.slice B2 r2 f2) (.slice B3 r3 f3) (.int .i64 s9) (.int .i64 l9) := ⟨_, rfl⟩
  have H9 := Lib.hid (And.intro hR9 (And.intro hb9 hw8))
  unfold put5 at hw8 f9
  rw [← hw8] at f9 ⊢
  have hx8 := HH.out.st.box.lt
  have ho9 := own_frB (H6.out.2.2.2.1.below hb9 (Nat.le_refl _)) f9 (by simp; exact hx8)
  have g9 := (f9.block bo (Nat.lt_of_lt_of_le (heap_lt H6.out.2.2.2.2.1) hb9.size) (by have := HH.out.off; simp; omega)).trans ((hb9.block bo (heap_lt H6.out.2.2.2.2.1)).trans H6.out.2.2.2.2.1)
  have b3 := cell_of_row w8 bo 3 _ _ _ g9
  try dsimp only at b3
  rw [← H5.out.2.2.2.2] at b3
  have hr9 : Rd w8 w8.heap.size A5 (u8s ob.l) := by
    obtain ⟨A5', c5', e5, _, _, h9, _⟩ := ho9.shape
    injection e5 with e6 e7 e8
    rw [e6]; exact h9
  have hs1 := strAt (n := N) (c := c5) hr9 H5.out.2.2.2.2
  have hW8 : Below W0.heap.size W0 w8 := (H6.out.2.2.2.2.2.trans (lower' hb9 H6.out.2.2.2.2.2.size)).trans (f9.below (by have := H6.out.2.2.2.2.2.size; have := hb9.size; omega) (by have := HH.out.st.box.low; simp; omega))
  have hs2 := strAt (n := N) (c := ob.c) (HH.out.ok.b.1.below (HH.out.low w8 hW8) (Nat.le_refl _)) H5.out.2.2.2.2
  have hNI : (N : Int) ≤ 140737488351232 := by have := HL.out; have := H5.out.2.2.2.2; omega
  try dsimp only at hs2
  have HO := Lib.hid ho9
  clear hw8 hR9 hb9 hg9 y0 y1 y2 y3 y4 t0 t1 t2 t3 t4 f9 hx8 ho9 g9 hr9 hW8 q0 q1 q2 q3 q4 qs d1 d2 b1
  go_wp2_with (fail)
  go_loopw [14, 131] (fun _ i wr => ∃ (k : Nat) (L5 : List UInt8), k ≤ N ∧ i = .int .i64 (k : Int) ∧ Fr w8 wr (blkL A5) ∧ wr.ownsRow W8.heap.size 5 1 (.slice A5 N c5) N (u8s L5) ∧ L5.length = N)
    (fun _ i _ => N - (intOf i).toNat)
  case atStart => exact ⟨0, ob.l, by omega, rfl, Fr.refl _ _, by have h := HO.out; unfold OwnB at h; rw [← H5.out.2.2.2.2] at h; exact h, H5.out.2.2.2.2.symm⟩
  case round =>
    obtain ⟨k, L5, hk', rfl, hfr, hrow, hl5⟩ := hrel
    by_cases hkl : k < N
    · have hkI : (k : Int) < (N : Int) := by omega
      obtain ⟨g5, c6, he, hg5, hg52, _, _⟩ := own_form hrow (by omega)
      cases he
      obtain ⟨x, hx⟩ : ∃ x, L5[k]? = some x := ⟨_, List.getElem?_eq_getElem (by omega)⟩
      have ca : wr.cell? ⟨g5, k, none⟩ = some (.int .u8 (x.toNat : Int)) := by
        rw [World.ownsRow.cellAt hrow k (by omega)]
        simp [u8s, hx]
      have fz := World.ownsRow.frozenAt hrow k
      obtain ⟨x1, hx1⟩ : ∃ x1 : UInt8, x1 = x + 1 := ⟨_, rfl⟩
      have hadd : ((x.toNat : Int) + 1) % 256 = (x1.toNat : Int) := by
        rw [hx1, UInt8.toNat_add]
        show _ = (((x.toNat + 1) % 256 : Nat) : Int)
        omega
      have hst := (World.ownsRow.stored (w := wr) hrow k (.int .u8 (x1.toNat : Int))).1
      rw [← u8s_set] at hst
      have HX := Lib.hid (And.intro hfr (And.intro hst (And.intro hl5 (And.intro hkl hadd))))
      clear hfr hrow hl5 hkl hx hx1 hg5 hg52 hadd hst
      clear HK HH HD HL HLO H5 HSR H6 HRS H9 HO
      go_wp2_with (fail)
      rw [HX.out.2.2.2.2]
      refine ⟨⟨k + 1, L5.set k x1, HX.out.2.2.2.1, by simp, HX.out.1.setCell (by simp [blkL]) _, HX.out.2.1, by rw [List.length_set]; exact HX.out.2.2.1⟩, by simp [intOf]; have := HX.out.2.2.2.1; omega⟩
    · obtain rfl : k = N := by omega
      have hf := hfr
      rw [H9.out.2.2] at hf
      have hfin := HH.out.st.saved H5.out.2.2.1 H5.out.1 H6.out.1 HSR.out.2.1 HSR.out.2.2.1 HSR.out.2.2.2 (arm_fit HH.out).2 H9.out.2.1 H9.out.1 hf
      have HFIN := Lib.hid hfin
      clear hfr hrow hl5 hf hfin
      go_wp2_with (fail)
      exact HK.out _ _ _ _ _ _ _ _ _ _ _ _ _ _ _ _ _ _ _ _ _ _ _ _ _ _ _ _ _ _ _ _ _ _ _ _ _ _ _ _ _ _ _ _ _ _ _ _ _ _ _ _ _ _ _ _ _ _ _ _ _ _ _ _ _ _ _ _ _ _ _ _ _ _ _ _ _ _ _ _ _ _ _ _ _ _ _ _ _ _ _ _ _ _ _ _ _ _ _ _ _ _ _ _ _ _ _ _ _ _ _ _ _ _ _ _ _ _ _ _ _ _ _ _ _ _ _ _ _ _ _ _ _ _ _ _ _ _ _ _ _ _ _ _ _ _ _ _ _ _ _ _ _ _ _ _ _ _ _ _ _ _ _ _ _ _ _ _ _ _ (by have := HH.out.tl; omega) HFIN.out
end Go.Proofs.Ytdjcpjfomgfjlaa
