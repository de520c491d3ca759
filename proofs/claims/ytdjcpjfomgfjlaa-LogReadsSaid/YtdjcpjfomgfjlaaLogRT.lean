/- LogReads: what comes behind its loops. -/
import Derived.Test.YtdjcpjfomgfjlaaLogAF
import Derived.Test.YtdjcpjfomgfjlaaLogQ
import Derived.Test.YtdjcpjfomgfjlaaRefJ
import Derived.Test.YtdjcpjfomgfjlaaLogS
import Derived.Test.YtdjcpjfomgfjlaaLogZ
import Derived.Test.YtdjcpjfomgfjlaaOrdM
import Derived.Deep.CutBlock
import Derived.Deep.CutRange
namespace Go.Proofs.Ytdjcpjfomgfjlaa
open Go.RowKit Go.Maps

def lastBlk (k : Nat) : Code → Bool
  | .block n _ => n == k
  | .seq _ b => lastBlk k b
  | _ => false
def tailBlk (k : Nat) : Code → Option Code
  | .seq a b => if lastBlk k a then some b else match tailBlk k a with
    | some c => some c
    | none => tailBlk k b
  | .block _ c => tailBlk k c
  | .loop c => tailBlk k c
  | .scope c => tailBlk k c
  | .cond _ a b => match tailBlk k a with
    | some c => some c
    | none => tailBlk k b
  | _ => none
noncomputable def lrTail : Code := ((Try.f4.body.bind (tailBlk 2)).getD .skip)
def OnlyRet (K : Act → World → Prop) : Exit → Act → World → Prop
  | .ret, a, w => K a w
  | _, _, _ => False
theorem wp_onlyret {P : Program} {c : Code} {Q : Exit → Act → World → Prop} {a : Act} {w : World} (h : Code.wp P c (OnlyRet (fun a w => Q .ret a w)) a w) : Code.wp P c Q a w := by
  refine Code.wp_mono ?_ h
  intro e a' w' hq
  cases e with
  | normal => exact hq.elim
  | exit id => exact hq.elim
  | goto l => exact hq.elim
  | ret => exact hq
  | panic ch => exact hq.elim
  | outgrown => exact hq.elim
/-- The disk has gone on, the document's not yet. -/
theorem BoxD.turn4 {W0 wr w' : World} {bx p bs bw N T : Nat} {M : DM} (h : BoxD W0 wr bx p bs bw N T M M) {M' : DM} {T' : Nat} (hD : DiskM w' p bs bw M' T') (hf : Fr wr w' [p, bs, bw]) (hT : T ≤ T') (hT' : T' ≤ 1000000000) (hs : M'.size = M.size) (hst : M'.steps ≤ T') (hl : M'.left ≤ 9223372036854775807) : BoxD W0 w' bx p bs bw N T' M' M := by
  obtain ⟨A1, A2, A3, n1, n2, n3, c1, c2, c3, s, l, hg, hv⟩ := h.box
  have ho := h.off
  have h1 := h.okM
  have h2 := h.stepsM
  exact ⟨⟨A1, A2, A3, n1, n2, n3, c1, c2, c3, s, l, (hf.block bx (heap_lt hg) (by simp; omega)).trans hg, hv.fr hf (by simp)⟩, hD, ⟨by rw [hs]; exact h1.size, by omega, hl, hT'⟩, ⟨h1.size, h1.steps, h1.left, hT'⟩, hs.trans h.sizeM, h.sizeR, hst, by omega, h.pos, h.off, h.low,
    h.below.trans (hf.below h.below.size (by have := h.low; simp; omega))⟩
abbrev lgN : Obj := .cells #[.int .i64 0, .int .i64 0, .slice none 0 0, .int .i64 0] 42
abbrev putLg (w9 : World) (bx : Nat) (v0 v1 v2 v3 v4 l0 l1 l2 l3 : Value) : World := (((((((((w9.alloc lgN).setCell ⟨bx, 0, none⟩ v0).setCell ⟨bx, 1, none⟩ v1).setCell ⟨bx, 2, none⟩ v2).setCell ⟨bx, 3, none⟩ v3).setCell ⟨bx, 4, none⟩ v4).setCell ⟨w9.heap.size, 0, none⟩ l0).setCell ⟨w9.heap.size, 1, none⟩ l1).setCell ⟨w9.heap.size, 2, none⟩ l2).setCell ⟨w9.heap.size, 3, none⟩ l3
/-- Behind both Opens. -/
theorem opened_box {W0 w5 w9 : World} {bx p bs bw m T : Nat} {M M' : DM} {B1 B2 B3 : Option Addr} {m1 m2 m3 e1 e2 e3 : Nat} {s l : Int} (h : BoxD W0 w5 bx p bs bw m T M' M) (hb : Below w5.heap.size w5 w9) (hR : RefV w9 [bx, p, bs, bw] (refOf M') (.agg #[.slice B1 m1 e1, .slice B2 m2 e2, .slice B3 m3 e3, .int .i64 s, .int .i64 l])) (l0 l1 l2 l3 : Value) :
    BoxD W0 (putLg w9 bx (.slice B1 m1 e1) (.slice B2 m2 e2) (.slice B3 m3 e3) (.int .i64 s) (.int .i64 l) l0 l1 l2 l3) bx p bs bw m T M' M' ∧ (putLg w9 bx (.slice B1 m1 e1) (.slice B2 m2 e2) (.slice B3 m3 e3) (.int .i64 s) (.int .i64 l) l0 l1 l2 l3).heap[w9.heap.size]? = some (.cells #[l0, l1, l2, l3] 42 (0, 0)) ∧ Fr w9 (putLg w9 bx (.slice B1 m1 e1) (.slice B2 m2 e2) (.slice B3 m3 e3) (.int .i64 s) (.int .i64 l) l0 l1 l2 l3) [bx] := by
  have hl := h.disk.lt
  have hx := h.lt
  have hz := hb.size
  have hba : Below w9.heap.size w9 (w9.alloc lgN) := (Below.refl _ _).alloc (Nat.le_refl _) _
  have hRe := (hR.ext (Y := [w9.heap.size]) (by rw [h.sizeM]; exact h.pos) (by simp)).below hba
  have f5 := fr5 (w9.alloc lgN) bx (.slice B1 m1 e1) (.slice B2 m2 e2) (.slice B3 m3 e3) (.int .i64 s) (.int .i64 l)
  have hB := h.put (hb.trans (lower' hba hz)) (hR.below hba)
  have f4 : Fr (((((((w9.alloc lgN).setCell ⟨bx, 0, none⟩ (.slice B1 m1 e1)).setCell ⟨bx, 1, none⟩ (.slice B2 m2 e2)).setCell ⟨bx, 2, none⟩ (.slice B3 m3 e3)).setCell ⟨bx, 3, none⟩ (.int .i64 s)).setCell ⟨bx, 4, none⟩ (.int .i64 l))) (putLg w9 bx (.slice B1 m1 e1) (.slice B2 m2 e2) (.slice B3 m3 e3) (.int .i64 s) (.int .i64 l) l0 l1 l2 l3) [w9.heap.size] := ((((Fr.refl _ _).setCell (by simp) _).setCell (by simp) _).setCell (by simp) _).setCell (by simp) _
  have hnw := (f5.block w9.heap.size (by simp) (by simp; omega)).trans (heap_alloc_new w9 lgN)
  have hnew := set4 hnw l0 l1 l2 l3
  have hgx : (((((((w9.alloc lgN).setCell ⟨bx, 0, none⟩ (.slice B1 m1 e1)).setCell ⟨bx, 1, none⟩ (.slice B2 m2 e2)).setCell ⟨bx, 2, none⟩ (.slice B3 m3 e3)).setCell ⟨bx, 3, none⟩ (.int .i64 s)).setCell ⟨bx, 4, none⟩ (.int .i64 l))).heap[bx]? = some (.cells #[.slice B1 m1 e1, .slice B2 m2 e2, .slice B3 m3 e3, .int .i64 s, .int .i64 l] 33 (0, 0)) := by
    obtain ⟨A1, A2, A3, n1, n2, n3, c1, c2, c3, s', l', hg, _⟩ := h.box
    exact set5 ((hba.block bx (by omega)).trans ((hb.block bx hx).trans hg)) _ _ _ _ _
  refine ⟨⟨⟨_, _, _, _, _, _, _, _, _, _, _, (f4.block bx (heap_lt hgx) (by simp; omega)).trans hgx, ((hRe.fr f5 (by simp)).fr f4 (by simp)).sub (fun y hy => List.mem_append_left _ hy)⟩, hB.disk.fr f4 (by simp; omega) (by simp; omega) (by simp; omega), hB.okM, hB.okR, hB.sizeM, hB.sizeR, hB.stepsM, hB.stepsR, hB.pos, hB.off, hB.low, hB.below.trans (f4.below hB.below.size (by have := h.below.size; simp; omega))⟩, hnew, ?_⟩
  exact ((Fr.of_below hba [bx]).trans f5).more f4 (by simp)
theorem LogD.over {w w' : World} {base q p bs bw T T' : Nat} {L : LG} {v : Value} {M M' : DM} (h : LogD w base q p bs bw T L v M) (hD : DiskM w' p bs bw M' T') (hf : Fr w w' [p, bs, bw]) (hs : M'.size = M.size) : LogD w' base q p bs bw T' L v M' :=
  ⟨h.ap.fr h.log hf, hD, h.ap, Nat.le_trans h.low hf.size, by rw [hs]; exact h.fits, by rw [hs]; exact h.size⟩
/-- What stands ahead of the two Opens. -/
structure LrAt (W0 wc : World) (ba bx p bs bw m T : Nat) (M : DM) (n k : Int) : Prop where
  box : BoxD W0 wc bx p bs bw m T M M
  tl : T ≤ 80
  m40 : m ≤ 40
  area : W0.heap[ba]? = some (.cells #[.int .i64 (m : Int), .int .i64 n, .int .i64 k] 23 (0, 0))
theorem refv_lt {W0 wr : World} {bx p bs bw N T : Nat} {M R : DM} (h : BoxD W0 wr bx p bs bw N T M R) : ∀ x ∈ [bx, p, bs, bw], x < wr.heap.size := by
  have hl := h.disk.lt
  have hx := h.lt
  intro x hx'
  simp at hx'
  omega
set_option maxRecDepth 1000000 in
set_option maxHeartbeats 4000000 in
theorem lr_no {W0 wc : World} {ba bx p bs bw m T T' f' c' : Nat} {M M' : DM} {n k cd : Int} {rs : List Rec} {K : Act → World → Prop} (h : LrAt W0 wc ba bx p bs bw m T M n k) (hcd : cd ≠ 0)
    (hop : Calls Try.prog 9 #[.pointer (some ⟨p, 0, none⟩), .int .i64 n, .int .i64 k] wc fun e w' => e = .returned (.tuple #[.pointer none, .slice none 0 0, .int .i64 cd]) ∧ BoxD W0 w' bx p bs bw m T' M' M)
    (hrop : ∀ w5 v, BoxD W0 w5 bx p bs bw m T' M' M → RefV w5 [bx, p, bs, bw] (refOf M) v → Calls Try.prog 10 #[v, .int .i64 n, .int .i64 k] w5 fun e w' => OpenedR w5 w' [bx, p, bs, bw] M' cd f' c' rs e)
    (u0 u1 u2 u4 u5 u6 u8 u10 u11 u12 u13 u14 u15 u16 u17 u18 u19 u20 u21 u22 u23 u24 u25 u26 u27 u28 u29 u30 u31 u32 u33 u34 u35 u36 u37 u38 u39 u40 u41 u42 u43 u44 u45 u46 u47 u48 u49 u50 u51 u52 u53 u54 u55 u56 u57 u58 u59 u60 u61 u62 u63 u64 u65 u66 u67 u68 u69 u70 u71 u72 u73 u74 u75 u76 u77 u78 u79 u80 u81 u82 u83 u84 u85 u86 u87 u88 u89 u90 u91 u92 u93 u94 u95 u96 u97 u98 u99 u100 u101 u102 u103 u104 u105 u106 u107 u108 u109 u110 u111 u112 u113 u114 u115 u116 u117 u118 u119 u120 u121 u122 u123 u124 u125 u126 u127 u128 u129 u130 u131 u132 u133 u134 u135 u136 u137 u138 u139 u140 u141 u142 u143 u144 u145 u146 u147 u148 u149 u150 u151 u152 u153 u154 u155 u156 u157 u158 u159 u160 u161 u162 u163 u164 u165 u166 u167 u168 u169 u170 u171 u172 u173 u174 u175 u176 u177 u178 u179 u180 u181 u182 u183 u184 u185 u186 u187 u188 u189 u190 u191 u192 u193 u194 u195 u196 u197 u198 u199 : Value)
    (hK : ∀ (v8 v14 v15 v16 v17 v18 v19 v20 v127 v128 v129 v130 v131 v132 v133 v134 v135 v136 v137 v138 v139 v140 v141 v142 v143 v144 v145 v146 v147 v148 v149 v150 v151 v152 v153 v154 v155 v156 v157 v158 v159 v160 v161 v162 v163 v164 v165 v166 v167 v168 v169 v170 v171 v172 v173 v174 v175 v176 v177 v178 v179 v180 v181 v182 v183 v184 v185 v186 v187 v188 v189 v190 v191 v192 v193 v194 v195 v196 v197 v198 v199 : Value) (w1 : World), Below W0.heap.size W0 w1 → K ⟨#[u0, u1, u2, .pointer (some ⟨ba, 0, none⟩), u4, u5, .bool true, .pointer (some ⟨p, 0, none⟩), v8, .pointer (some ⟨bx, 0, none⟩), u10, u11, u12, u13, v14, v15, v16, v17, v18, v19, v20, u21, u22, u23, u24, u25, u26, u27, u28, u29, u30, u31, u32, u33, u34, u35, u36, u37, u38, u39, u40, u41, u42, u43, u44, u45, u46, u47, u48, u49, u50, u51, u52, u53, u54, u55, u56, u57, u58, u59, u60, u61, u62, u63, u64, u65, u66, u67, u68, u69, u70, u71, u72, u73, u74, u75, u76, u77, u78, u79, u80, u81, u82, u83, u84, u85, u86, u87, u88, u89, u90, u91, u92, u93, u94, u95, u96, u97, u98, u99, u100, u101, u102, u103, u104, u105, u106, u107, u108, u109, u110, u111, u112, u113, u114, u115, u116, u117, u118, u119, u120, u121, u122, u123, u124, u125, u126, v127, v128, v129, v130, v131, v132, v133, v134, v135, v136, v137, v138, v139, v140, v141, v142, v143, v144, v145, v146, v147, v148, v149, v150, v151, v152, v153, v154, v155, v156, v157, v158, v159, v160, v161, v162, v163, v164, v165, v166, v167, v168, v169, v170, v171, v172, v173, v174, v175, v176, v177, v178, v179, v180, v181, v182, v183, v184, v185, v186, v187, v188, v189, v190, v191, v192, v193, v194, v195, v196, v197, v198, v199], []⟩ w1) :
    Code.wp Try.prog lrTail (OnlyRet K) ⟨#[u0, u1, u2, .pointer (some ⟨ba, 0, none⟩), u4, u5, u6, .pointer (some ⟨p, 0, none⟩), u8, .pointer (some ⟨bx, 0, none⟩), u10, u11, u12, u13, u14, u15, u16, u17, u18, u19, u20, u21, u22, u23, u24, u25, u26, u27, u28, u29, u30, u31, u32, u33, u34, u35, u36, u37, u38, u39, u40, u41, u42, u43, u44, u45, u46, u47, u48, u49, u50, u51, u52, u53, u54, u55, u56, u57, u58, u59, u60, u61, u62, u63, u64, u65, u66, u67, u68, u69, u70, u71, u72, u73, u74, u75, u76, u77, u78, u79, u80, u81, u82, u83, u84, u85, u86, u87, u88, u89, u90, u91, u92, u93, u94, u95, u96, u97, u98, u99, u100, u101, u102, u103, u104, u105, u106, u107, u108, u109, u110, u111, u112, u113, u114, u115, u116, u117, u118, u119, u120, u121, u122, u123, u124, u125, u126, u127, u128, u129, u130, u131, u132, u133, u134, u135, u136, u137, u138, u139, u140, u141, u142, u143, u144, u145, u146, u147, u148, u149, u150, u151, u152, u153, u154, u155, u156, u157, u158, u159, u160, u161, u162, u163, u164, u165, u166, u167, u168, u169, u170, u171, u172, u173, u174, u175, u176, u177, u178, u179, u180, u181, u182, u183, u184, u185, u186, u187, u188, u189, u190, u191, u192, u193, u194, u195, u196, u197, u198, u199], []⟩ wc := by
  conv => arg 2; whnf
  have HK := Lib.hid hK
  have HH := Lib.hid h
  have HOP := Lib.hid hop
  have HRO := Lib.hid hrop
  have hcdb : (cd == 0) = false := beq_eq_false_iff_ne.2 hcd
  have ga := (h.box.below.block ba (heap_lt h.area)).trans h.area
  have d1 := cell_of_row wc ba 1 _ _ _ ga; have d2 := cell_of_row wc ba 2 _ _ _ ga
  clear h hK hop hrop ga
  go_upto_region 19 with (go_at_call 9; (with_reducible refine HOP.out.mono ?_); rintro e w5 ⟨rfl, hX5⟩)
  have ga := (hX5.below.block ba (heap_lt HH.out.area)).trans HH.out.area
  have d1 := cell_of_row w5 ba 1 _ _ _ ga; have d2 := cell_of_row w5 ba 2 _ _ _ ga
  obtain ⟨A1, A2, A3, n1, n2, n3, c1, c2, c3, s, l, hg, hv⟩ := hX5.box
  have x0 := cell_of_row w5 bx 0 _ _ _ hg; have x1 := cell_of_row w5 bx 1 _ _ _ hg; have x2 := cell_of_row w5 bx 2 _ _ _ hg; have x3 := cell_of_row w5 bx 3 _ _ _ hg; have x4 := cell_of_row w5 bx 4 _ _ _ hg
  have hro := HRO.out w5 _ hX5 hv
  have HR := Lib.hid hro
  have HX5 := Lib.hid (And.intro hX5 hg)
  have HCD := Lib.hid hcd
  clear ga hro hX5 hg hv hcd
  go_upto_region 20 with (go_at_call 10; (with_reducible refine HR.out.mono ?_); rintro e w9 ⟨B1, B2, B3, m1, m2, m3, e1, e2, e3, s9, l9, l0, l1, l2, l3, rfl, hR9, -, hz9, hb9⟩; obtain ⟨rfl, rfl, rfl, rfl⟩ := hz9 HCD.out; have hg9 := (hb9.block bx (heap_lt HX5.out.2)).trans HX5.out.2; have hga := (Below.heap_alloc w9 (.cells #[.int .i64 0, .int .i64 0, .slice none 0 0, .int .i64 0] 42) bx (heap_lt hg9)).trans hg9; have gx0 := cell_of_row _ bx 0 _ _ _ hga; have gx1 := cell_of_row _ bx 1 _ _ _ hga; have gx2 := cell_of_row _ bx 2 _ _ _ hga; have gx3 := cell_of_row _ bx 3 _ _ _ hga; have gx4 := cell_of_row _ bx 4 _ _ _ hga; have gf0 := frozen_of_row _ bx 0 _ _ hga; have gf1 := frozen_of_row _ bx 1 _ _ hga; have gf2 := frozen_of_row _ bx 2 _ _ hga; have gf3 := frozen_of_row _ bx 3 _ _ hga; have gf4 := frozen_of_row _ bx 4 _ _ hga; have hnx : w9.heap.size ≠ bx := Nat.ne_of_gt (heap_lt hg9); have hnw := ((fr5 (w9.alloc (.cells #[.int .i64 0, .int .i64 0, .slice none 0 0, .int .i64 0] 42)) bx (.slice B1 m1 e1) (.slice B2 m2 e2) (.slice B3 m3 e3) (.int .i64 s9) (.int .i64 l9)).block w9.heap.size (by simp) (by simp; exact hnx)).trans (heap_alloc_new w9 (.cells #[.int .i64 0, .int .i64 0, .slice none 0 0, .int .i64 0] 42)); have y0 := cell_of_row _ w9.heap.size 0 _ _ _ hnw; have y1 := cell_of_row _ w9.heap.size 1 _ _ _ hnw; have y2 := cell_of_row _ w9.heap.size 2 _ _ _ hnw; have y3 := cell_of_row _ w9.heap.size 3 _ _ _ hnw; have yf0 := frozen_of_row _ w9.heap.size 0 _ _ hnw; have yf1 := frozen_of_row _ w9.heap.size 1 _ _ hnw; have yf2 := frozen_of_row _ w9.heap.size 2 _ _ hnw; have yf3 := frozen_of_row _ w9.heap.size 3 _ _ hnw; have HNW := Lib.hid (And.intro hnw (And.intro hb9 hR9)); clear hnw hga hg9 hb9 hR9 hnx)
  obtain ⟨hB9, hnw9, hf9⟩ := opened_box HX5.out.1 HNW.out.2.1 HNW.out.2.2 (.int .i64 0) (.int .i64 0) (.slice none 0 0) (.int .i64 0)
  dsimp only [putLg, lgN] at hB9 hnw9 hf9
  have HB9 := Lib.hid hB9
  clear hB9 hnw9 hf9 gx0 gx1 gx2 gx3 gx4 gf0 gf1 gf2 gf3 gf4 y0 y1 y2 y3 yf0 yf1 yf2 yf3 x0 x1 x2 x3 x4 d1 d2 HNW HR HOP HRO
  generalize (((((((((w9.alloc (.cells #[.int .i64 0, .int .i64 0, .slice none 0 0, .int .i64 0] 42)).setCell ⟨bx, 0, none⟩ (.slice B1 m1 e1)).setCell ⟨bx, 1, none⟩ (.slice B2 m2 e2)).setCell ⟨bx, 2, none⟩ (.slice B3 m3 e3)).setCell ⟨bx, 3, none⟩ (.int .i64 s9)).setCell ⟨bx, 4, none⟩ (.int .i64 l9)).setCell ⟨w9.heap.size, 0, none⟩ (.int .i64 0)).setCell ⟨w9.heap.size, 1, none⟩ (.int .i64 0)).setCell ⟨w9.heap.size, 2, none⟩ (.slice none 0 0)).setCell ⟨w9.heap.size, 3, none⟩ (.int .i64 0) = W9 at HB9 ⊢
  obtain ⟨A1, A2, A3, n1, n2, n3, c1, c2, c3, s, l, hg, hv⟩ := HB9.out.box
  have x0 := cell_of_row W9 bx 0 _ _ _ hg; have x1 := cell_of_row W9 bx 1 _ _ _ hg; have x2 := cell_of_row W9 bx 2 _ _ _ hg; have x3 := cell_of_row W9 bx 3 _ _ _ hg; have x4 := cell_of_row W9 bx 4 _ _ _ hg
  have HTL := Lib.hid (tells_any W9 _ _ _ _ _ _ (HB9.out.both hv))
  clear hg hv
  go_wp2_with (go_at_call 23; (with_reducible refine HTL.out.mono ?_); rintro e w10 ⟨rfl, hb10⟩)
  show K _ _
  exact HK.out _ _ _ _ _ _ _ _ _ _ _ _ _ _ _ _ _ _ _ _ _ _ _ _ _ _ _ _ _ _ _ _ _ _ _ _ _ _ _ _ _ _ _ _ _ _ _ _ _ _ _ _ _ _ _ _ _ _ _ _ _ _ _ _ _ _ _ _ _ _ _ _ _ _ _ _ _ _ _ _ _ _ (HB9.out.below.trans (lower' hb10 HB9.out.below.size))
/-- A log that was opened, and its records. -/
structure LrOk (w : World) (q p bs bw T first behind : Nat) (M : DM) (rs : List Rec) (A : Option Addr) (c : Nat) : Prop where
  recs : RecsAt w (q + 1) (.slice A rs.length c) rs
  log : ∃ v, LogD w (q + 1) q p bs bw T (LG.of first behind rs) v M
theorem LrOk.kept {w w' : World} {q p bs bw T first behind c : Nat} {M : DM} {rs : List Rec} {A : Option Addr} (h : LrOk w q p bs bw T first behind M rs A c) (hb : Below w.heap.size w w') : LrOk w' q p bs bw T first behind M rs A c := by
  obtain ⟨v, hl⟩ := h.log
  exact ⟨h.recs.below hb, v, hl.kept hb⟩
theorem recs_ge {w : World} {lo : Nat} {u : Value} {rs : List Rec} (h : RecsAt w lo u rs) : ∀ s ∈ u.ownBlock.toList, lo ≤ s := by
  obtain ⟨R, _, h2, _⟩ := h.ex
  exact own_ge h2
theorem LrOk.box {w w' : World} {q p bs bw bx T first behind c : Nat} {M : DM} {rs : List Rec} {A : Option Addr} {cs : Array Value} (h : LrOk w q p bs bw T first behind M rs A c) (hf : Fr w w' [bx]) (hg : w.heap[bx]? = some (.cells cs 33 (0, 0))) (hlt : bx < q) (hne : bx ≠ p ∧ bx ≠ bs ∧ bx ≠ bw) : LrOk w' q p bs bw T first behind M rs A c := by
  obtain ⟨v, hl⟩ := h.log
  refine ⟨h.recs.fr hf (fun s hs cs' fr e => ?_) (fun s hs hm => ?_), v, ?_⟩
  · rw [List.mem_singleton.1 hs, hg] at e
    simp at e
  · have := recs_ge h.recs s hs
    rw [List.mem_singleton.1 hm] at this
    omega
  · have hrow := own_ge hl.log.row
    exact ⟨hl.log.frS hf (by simp; omega) (fun s hs hm => by have := hrow s hs; rw [List.mem_singleton.1 hm] at this; omega), hl.disk.fr hf (by simp; omega) (by simp; omega) (by simp; omega), hl.ap, Nat.le_trans hl.low hf.size, hl.fits, hl.size⟩
theorem LrOk.again {w w' : World} {q p bs bw T T' first behind c : Nat} {M : DM} {rs : List Rec} {A : Option Addr} (h : LrOk w q p bs bw T first behind M rs A c) (hD : DiskM w' p bs bw M T') (hf : Fr w w' [p, bs, bw]) (hlt : p < q + 1 ∧ bs < q + 1 ∧ bw < q + 1) : LrOk w' q p bs bw T' first behind M rs A c := by
  obtain ⟨v, hl⟩ := h.log
  exact ⟨h.recs.disk hl.disk hf hlt, v, hl.over hD hf rfl⟩
/-- Open, of a disk on which nothing refuses. -/
theorem open_lr {w : World} {p bs bw T : Nat} {M : DM} (hD : DiskM w p bs bw M T) (first count : Nat) (hc : 2 ≤ count) (hfit : first + count ≤ M.size) (hft : Fit M T 4097) (h0 : (runOps (openOps M first (first + count)) M).1 = 0) :
    Calls Try.prog 9 #[.pointer (some ⟨p, 0, none⟩), .int .i64 (first : Int), .int .i64 (count : Int)] w fun e w' => ∃ q A c, e = .returned (.tuple #[.pointer (some ⟨q, 0, none⟩), .slice A (scan M.get (first + count) first none).length c, .int .i64 0]) ∧ w.heap.size ≤ q ∧ LrOk w' q p bs bw (T + 4097) first (first + count) (runOps (openOps M first (first + count)) M).2 (scan M.get (first + count) first none) A c ∧ Fr w w' [p, bs, bw] := by
  refine (open_any hD first count hc hfit hft).mono ?_
  rintro e w' ⟨ha, -, hf⟩
  obtain ⟨q, u, v, rfl, hq, hr, hl⟩ := ha h0
  obtain ⟨R, h1, h2, h3⟩ := hr.ex
  have hlen : R.length = (scan M.get (first + count) first none).length := by rw [← h1, List.length_map]
  obtain ⟨A, c, hu, _, _, _⟩ := own_shape h2
  rw [hlen] at hu
  subst hu
  exact ⟨q, A, c, rfl, hq, ⟨hr, v, hl⟩, hf⟩
set_option maxRecDepth 1000000 in
set_option maxHeartbeats 4000000 in
theorem lr_yes {W0 wc : World} {ba bx p bs bw m T first count : Nat} {M : DM} {K : Act → World → Prop} (h : LrAt W0 wc ba bx p bs bw m T M (first : Int) (count : Int)) (hc2 : 2 ≤ count) (hfit : first + count ≤ m) (h0 : (runOps (openOps M first (first + count)) M).1 = 0)
    (u0 u1 u2 u4 u5 u6 u8 u10 u11 u12 u13 u14 u15 u16 u17 u18 u19 u20 u21 u22 u23 u24 u25 u26 u27 u28 u29 u30 u31 u32 u33 u34 u35 u36 u37 u38 u39 u40 u41 u42 u43 u44 u45 u46 u47 u48 u49 u50 u51 u52 u53 u54 u55 u56 u57 u58 u59 u60 u61 u62 u63 u64 u65 u66 u67 u68 u69 u70 u71 u72 u73 u74 u75 u76 u77 u78 u79 u80 u81 u82 u83 u84 u85 u86 u87 u88 u89 u90 u91 u92 u93 u94 u95 u96 u97 u98 u99 u100 u101 u102 u103 u104 u105 u106 u107 u108 u109 u110 u111 u112 u113 u114 u115 u116 u117 u118 u119 u120 u121 u122 u123 u124 u125 u126 u127 u128 u129 u130 u131 u132 u133 u134 u135 u136 u137 u138 u139 u140 u141 u142 u143 u144 u145 u146 u147 u148 u149 u150 u151 u152 u153 u154 u155 u156 u157 u158 u159 u160 u161 u162 u163 u164 u165 u166 u167 u168 u169 u170 u171 u172 u173 u174 u175 u176 u177 u178 u179 u180 u181 u182 u183 u184 u185 u186 u187 u188 u189 u190 u191 u192 u193 u194 u195 u196 u197 u198 u199 : Value)
    (hK : ∀ (v8 v14 v15 v16 v17 v18 v19 v20 v127 v128 v129 v130 v131 v132 v133 v134 v135 v136 v137 v138 v139 v140 v141 v142 v143 v144 v145 v146 v147 v148 v149 v150 v151 v152 v153 v154 v155 v156 v157 v158 v159 v160 v161 v162 v163 v164 v165 v166 v167 v168 v169 v170 v171 v172 v173 v174 v175 v176 v177 v178 v179 v180 v181 v182 v183 v184 v185 v186 v187 v188 v189 v190 v191 v192 v193 v194 v195 v196 v197 v198 v199 : Value) (w1 : World), Below W0.heap.size W0 w1 → K ⟨#[u0, u1, u2, .pointer (some ⟨ba, 0, none⟩), u4, u5, .bool true, .pointer (some ⟨p, 0, none⟩), v8, .pointer (some ⟨bx, 0, none⟩), u10, u11, u12, u13, v14, v15, v16, v17, v18, v19, v20, u21, u22, u23, u24, u25, u26, u27, u28, u29, u30, u31, u32, u33, u34, u35, u36, u37, u38, u39, u40, u41, u42, u43, u44, u45, u46, u47, u48, u49, u50, u51, u52, u53, u54, u55, u56, u57, u58, u59, u60, u61, u62, u63, u64, u65, u66, u67, u68, u69, u70, u71, u72, u73, u74, u75, u76, u77, u78, u79, u80, u81, u82, u83, u84, u85, u86, u87, u88, u89, u90, u91, u92, u93, u94, u95, u96, u97, u98, u99, u100, u101, u102, u103, u104, u105, u106, u107, u108, u109, u110, u111, u112, u113, u114, u115, u116, u117, u118, u119, u120, u121, u122, u123, u124, u125, u126, v127, v128, v129, v130, v131, v132, v133, v134, v135, v136, v137, v138, v139, v140, v141, v142, v143, v144, v145, v146, v147, v148, v149, v150, v151, v152, v153, v154, v155, v156, v157, v158, v159, v160, v161, v162, v163, v164, v165, v166, v167, v168, v169, v170, v171, v172, v173, v174, v175, v176, v177, v178, v179, v180, v181, v182, v183, v184, v185, v186, v187, v188, v189, v190, v191, v192, v193, v194, v195, v196, v197, v198, v199], []⟩ w1) :
    Code.wp Try.prog lrTail (OnlyRet K) ⟨#[u0, u1, u2, .pointer (some ⟨ba, 0, none⟩), u4, u5, u6, .pointer (some ⟨p, 0, none⟩), u8, .pointer (some ⟨bx, 0, none⟩), u10, u11, u12, u13, u14, u15, u16, u17, u18, u19, u20, u21, u22, u23, u24, u25, u26, u27, u28, u29, u30, u31, u32, u33, u34, u35, u36, u37, u38, u39, u40, u41, u42, u43, u44, u45, u46, u47, u48, u49, u50, u51, u52, u53, u54, u55, u56, u57, u58, u59, u60, u61, u62, u63, u64, u65, u66, u67, u68, u69, u70, u71, u72, u73, u74, u75, u76, u77, u78, u79, u80, u81, u82, u83, u84, u85, u86, u87, u88, u89, u90, u91, u92, u93, u94, u95, u96, u97, u98, u99, u100, u101, u102, u103, u104, u105, u106, u107, u108, u109, u110, u111, u112, u113, u114, u115, u116, u117, u118, u119, u120, u121, u122, u123, u124, u125, u126, u127, u128, u129, u130, u131, u132, u133, u134, u135, u136, u137, u138, u139, u140, u141, u142, u143, u144, u145, u146, u147, u148, u149, u150, u151, u152, u153, u154, u155, u156, u157, u158, u159, u160, u161, u162, u163, u164, u165, u166, u167, u168, u169, u170, u171, u172, u173, u174, u175, u176, u177, u178, u179, u180, u181, u182, u183, u184, u185, u186, u187, u188, u189, u190, u191, u192, u193, u194, u195, u196, u197, u198, u199], []⟩ wc := by
  conv => arg 2; whnf
  have HK := Lib.hid hK
  have HH := Lib.hid h
  have hsM := h.box.sizeM
  have hT := h.tl
  have hm := h.m40
  have hfM : first + count ≤ M.size := by omega
  have hft : Fit M T 4097 := ⟨h.box.okM.size, by have := h.box.stepsM; omega, h.box.okM.left, by omega⟩
  have hful := h.box.disk.full
  have hop := open_lr h.box.disk first count hc2 hfM hft h0
  have htw := open_twice (M := M) (first := first) (behind := first + count) (fun i hi => (hful i (by omega)).2) (Nat.le_add_right _ _) h0
  have hfa := runOps_facts (openOps M first (first + count)) M
  have hol := openOps_len (M := M) (first := first) (behind := first + count) (by omega)
  obtain ⟨rs, hrs⟩ : ∃ rs, rs = scan M.get (first + count) first none := ⟨_, rfl⟩
  obtain ⟨M', hM'⟩ : ∃ M', M' = (runOps (openOps M first (first + count)) M).2 := ⟨_, rfl⟩
  have hro := fun (w5 : World) (v : Value) (hX : BoxD W0 w5 bx p bs bw m (T + 4097) M' M) (hv : RefV w5 [bx, p, bs, bw] (refOf M) v) => ropen_good w5 [bx, p, bs, bw] M (T + 4097) v hv hX.okR (by have := h.box.stepsM; omega) hful (by rw [hsM]; exact h.box.pos) (refv_lt hX) first count hc2 hfM
  rw [← hrs, ← hM'] at hop htw
  rw [← hM', h0, ← hrs] at hro
  rw [← hM'] at hfa
  have hrl : rs.length ≤ 4096 := by
    have h1 := (laid_scan (g := M.get) (behind := first + count) (a := first) (nx := none) (fun i _ hi => (hful i (by omega)).2)).end_le (Nat.le_add_right _ _)
    rw [← hrs] at h1
    have h2 := endR_le first rs
    omega
  have HOP := Lib.hid hop
  have HRO := Lib.hid hro
  have HTW := Lib.hid (And.intro htw (And.intro hfa (And.intro hol (And.intro hrl (And.intro hfM hc2)))))
  have ga := (h.box.below.block ba (heap_lt h.area)).trans h.area
  have d1 := cell_of_row wc ba 1 _ _ _ ga; have d2 := cell_of_row wc ba 2 _ _ _ ga
  clear h hK hop hro ga htw hfa hol hrl hfM hc2 hful hft h0 hsM hT hm hrs hM'
  go_upto_region 19 with (go_at_call 9; (with_reducible refine HOP.out.mono ?_); rintro e w5 ⟨q, A5, c5, rfl, hq5, hok5, hf5⟩)
  have hX5 : BoxD W0 w5 bx p bs bw m (T + 4097) M' M := by
    obtain ⟨v, hl⟩ := hok5.log
    exact HH.out.box.turn4 hl.disk hf5 (Nat.le_add_right _ _) (by have := HH.out.tl; omega) HTW.out.2.1.1 (by have := HTW.out.2.1.2.1; have := HTW.out.2.2.1; have := HH.out.box.stepsM; omega) (Nat.le_trans HTW.out.2.1.2.2.1 HH.out.box.okM.left)
  have ga := (hX5.below.block ba (heap_lt HH.out.area)).trans HH.out.area
  have d1 := cell_of_row w5 ba 1 _ _ _ ga; have d2 := cell_of_row w5 ba 2 _ _ _ ga
  obtain ⟨A1, A2, A3, n1, n2, n3, c1, c2, c3, s, l, hg, hv⟩ := hX5.box
  have x0 := cell_of_row w5 bx 0 _ _ _ hg; have x1 := cell_of_row w5 bx 1 _ _ _ hg; have x2 := cell_of_row w5 bx 2 _ _ _ hg; have x3 := cell_of_row w5 bx 3 _ _ _ hg; have x4 := cell_of_row w5 bx 4 _ _ _ hg
  have hro := HRO.out w5 _ hX5 hv
  have HR := Lib.hid hro
  have HX5 := Lib.hid (And.intro hX5 (And.intro hg (And.intro hok5 hq5)))
  clear ga hro hX5 hg hv hok5 hq5 hf5
  go_upto_region 20 with (go_at_call 10; (with_reducible refine HR.out.mono ?_); rintro e w9 ⟨B1, B2, B3, m1, m2, m3, e1, e2, e3, s9, l9, l0, l1, l2, l3, rfl, hR9, hz9, -, hb9⟩; obtain ⟨A9, c9, rfl, rfl, rfl, rfl, ho9⟩ := hz9 rfl; have hg9 := (hb9.block bx (heap_lt HX5.out.2.1)).trans HX5.out.2.1; have hga := (Below.heap_alloc w9 (.cells #[.int .i64 0, .int .i64 0, .slice none 0 0, .int .i64 0] 42) bx (heap_lt hg9)).trans hg9; have gx0 := cell_of_row _ bx 0 _ _ _ hga; have gx1 := cell_of_row _ bx 1 _ _ _ hga; have gx2 := cell_of_row _ bx 2 _ _ _ hga; have gx3 := cell_of_row _ bx 3 _ _ _ hga; have gx4 := cell_of_row _ bx 4 _ _ _ hga; have gf0 := frozen_of_row _ bx 0 _ _ hga; have gf1 := frozen_of_row _ bx 1 _ _ hga; have gf2 := frozen_of_row _ bx 2 _ _ hga; have gf3 := frozen_of_row _ bx 3 _ _ hga; have gf4 := frozen_of_row _ bx 4 _ _ hga; have hnx : w9.heap.size ≠ bx := Nat.ne_of_gt (heap_lt hg9); have hnw := ((fr5 (w9.alloc (.cells #[.int .i64 0, .int .i64 0, .slice none 0 0, .int .i64 0] 42)) bx (.slice B1 m1 e1) (.slice B2 m2 e2) (.slice B3 m3 e3) (.int .i64 s9) (.int .i64 l9)).block w9.heap.size (by simp) (by simp; exact hnx)).trans (heap_alloc_new w9 (.cells #[.int .i64 0, .int .i64 0, .slice none 0 0, .int .i64 0] 42)); have y0 := cell_of_row _ w9.heap.size 0 _ _ _ hnw; have y1 := cell_of_row _ w9.heap.size 1 _ _ _ hnw; have y2 := cell_of_row _ w9.heap.size 2 _ _ _ hnw; have y3 := cell_of_row _ w9.heap.size 3 _ _ _ hnw; have yf0 := frozen_of_row _ w9.heap.size 0 _ _ hnw; have yf1 := frozen_of_row _ w9.heap.size 1 _ _ hnw; have yf2 := frozen_of_row _ w9.heap.size 2 _ _ hnw; have yf3 := frozen_of_row _ w9.heap.size 3 _ _ hnw; have HNW := Lib.hid (And.intro ho9 (And.intro hb9 (And.intro hR9 hg9))); clear hnw hga hg9 hb9 hR9 hnx ho9 hz9)
  obtain ⟨hB9, hnw9, hf9⟩ := opened_box HX5.out.1 HNW.out.2.1 HNW.out.2.2.1 (.int .i64 (first : Int)) (.int .i64 (count : Int)) (.slice A9 rs.length c9) (.int .i64 (nxtN rs : Int))
  dsimp only [putLg, lgN] at hB9 hnw9 hf9
  have hbq : bx < q := Nat.lt_of_lt_of_le HH.out.box.lt HX5.out.2.2.2
  have hoff := HH.out.box.off
  have hok9 := (HX5.out.2.2.1.kept HNW.out.2.1).box hf9 HNW.out.2.2.2 hbq (by omega)
  have ho9 := own_keptBy (g := bx) HNW.out.1 (grown_of_fr hf9) HX5.out.1.lt
  have hlq : p < w9.heap.size ∧ bs < w9.heap.size ∧ bw < w9.heap.size := by
    have h1 := HX5.out.1.disk.lt
    have h2 := HNW.out.2.1.size
    omega
  generalize hlb : w9.heap.size = lb at hB9 hnw9 hf9 hok9 ho9 hlq ⊢
  have HB9 := Lib.hid (And.intro hB9 (And.intro hnw9 (And.intro hok9 (And.intro ho9 (And.intro hlq (And.intro HX5.out.2.2.2 HX5.out.1.disk.lt))))))
  clear hlb hB9 hnw9 hf9 hok9 ho9 hlq hbq hoff gx0 gx1 gx2 gx3 gx4 gf0 gf1 gf2 gf3 gf4 y0 y1 y2 y3 yf0 yf1 yf2 yf3 x0 x1 x2 x3 x4 d1 d2 HNW HR HOP HRO
  generalize (((((((((w9.alloc (.cells #[.int .i64 0, .int .i64 0, .slice none 0 0, .int .i64 0] 42)).setCell ⟨bx, 0, none⟩ (.slice B1 m1 e1)).setCell ⟨bx, 1, none⟩ (.slice B2 m2 e2)).setCell ⟨bx, 2, none⟩ (.slice B3 m3 e3)).setCell ⟨bx, 3, none⟩ (.int .i64 s9)).setCell ⟨bx, 4, none⟩ (.int .i64 l9)).setCell ⟨lb, 0, none⟩ (.int .i64 (first : Int))).setCell ⟨lb, 1, none⟩ (.int .i64 (count : Int))).setCell ⟨lb, 2, none⟩ (.slice A9 rs.length c9)).setCell ⟨lb, 3, none⟩ (.int .i64 (nxtN rs : Int)) = W9 at HB9 ⊢
  obtain ⟨A1, A2, A3, n1, n2, n3, c1, c2, c3, s, l, hg, hv⟩ := HB9.out.1.box
  have x0 := cell_of_row W9 bx 0 _ _ _ hg; have x1 := cell_of_row W9 bx 1 _ _ _ hg; have x2 := cell_of_row W9 bx 2 _ _ _ hg; have x3 := cell_of_row W9 bx 3 _ _ _ hg; have x4 := cell_of_row W9 bx 4 _ _ _ hg
  have HTL := Lib.hid (tells_any W9 _ _ _ _ _ _ (HB9.out.1.both hv))
  clear hg hv
  go_upto_region 24 with (go_at_call 23; (with_reducible refine HTL.out.mono ?_); rintro e w10 ⟨rfl, hb10⟩)
  have hX10 := HB9.out.1.kept hb10
  have hn10 := (hb10.block lb (heap_lt HB9.out.2.1)).trans HB9.out.2.1
  have hok10 := HB9.out.2.2.1.kept hb10
  have ho10 := own_below HB9.out.2.2.2.1 hb10 (Nat.le_refl _)
  have ga := (hX10.below.block ba (heap_lt HH.out.area)).trans HH.out.area
  have d1 := cell_of_row w10 ba 1 _ _ _ ga; have d2 := cell_of_row w10 ba 2 _ _ _ ga
  have e0 : runOps (openOps M' first (first + count)) M' = (0, M') := by
    rw [HTW.out.1.2]
    rfl
  have hop2 := open_lr hX10.disk first count HTW.out.2.2.2.2.2 (by rw [HTW.out.2.1.1]; exact HTW.out.2.2.2.2.1) ⟨hX10.okM.size, by have := hX10.stepsM; have := HH.out.tl; omega, hX10.okM.left, by have := HH.out.tl; omega⟩ (by rw [e0])
  rw [HTW.out.1.1, e0] at hop2
  have HOP2 := Lib.hid hop2
  have H10 := Lib.hid (And.intro hX10 (And.intro hn10 (And.intro hok10 ho10)))
  clear ga hop2 e0 hX10 hn10 hok10 ho10 hb10 x0 x1 x2 x3 x4
  go_upto_region 25 with (go_at_call 9; (with_reducible refine HOP2.out.mono ?_); rintro e w11 ⟨q2, A11, c11, rfl, hq11, hok11, hf11⟩)
  have hD11 : DiskM w11 p bs bw M' (T + 4097 + 4097) := by
    obtain ⟨v, hl⟩ := hok11.log
    exact hl.disk
  have hok1 := H10.out.2.2.1.again hD11 hf11 (by have h1 := HB9.out.2.2.2.2.2.1; have h2 := HH.out.box.disk.lt; omega)
  have hn11 := (hf11.block lb (heap_lt H10.out.2.1) (by have := HB9.out.2.2.2.2.1; simp; omega)).trans H10.out.2.1
  have ho11 := rowFrS H10.out.2.2.2 hf11 (fun s hs hm => by
    have h1 := own_ge H10.out.2.2.2 s hs
    have h2 := HB9.out.2.2.2.2.2.2
    simp at hm
    omega)
  have hb11 : Below W0.heap.size W0 w11 := H10.out.1.below.trans (hf11.below H10.out.1.below.size (by have := HH.out.box.low; simp; omega))
  have HM := Lib.hid (And.intro hok1 (And.intro hok11 (And.intro ho11 hn11)))
  have KS := Lib.hid fun (w' : World) (hb : Below w11.heap.size w11 w') => show w'.cell? ⟨lb, 2, none⟩ = some (.slice A9 rs.length c9) ∧ w'.cell? ⟨lb, 3, none⟩ = some (.int .i64 (nxtN rs : Int)) from And.intro (cell_of_row w' lb 2 _ _ _ ((hb.block lb (heap_lt HM.out.2.2.2)).trans HM.out.2.2.2)) (cell_of_row w' lb 3 _ _ _ ((hb.block lb (heap_lt HM.out.2.2.2)).trans HM.out.2.2.2))
  have hsm : ∀ (w' : World) (T3 g0 cc : Nat) (M3 : DM) (AA : Option Addr), LrOk w11 g0 p bs bw T3 first (first + count) M3 rs AA cc → Below w11.heap.size w11 w' → Calls Try.prog 22 #[.slice AA rs.length cc, .slice A9 rs.length c9] w' fun e w'' => e = .returned (.bool true) ∧ Below w'.heap.size w' w'' := fun w' T3 g0 cc M3 AA hx hb => by
    obtain ⟨A', c', e, _, _, hr⟩ := own_shape HM.out.2.2.1
    injection e with e1 e2 e3
    subst e1 e3
    exact same4_any rs AA cc A9 c9 (hx.recs.below hb) (hr.below hb (Nat.le_refl _)) HTW.out.2.2.2.1 rs.length rfl
  have hnx : ∀ (w' : World) (T3 g0 cc : Nat) (M3 : DM) (AA : Option Addr), LrOk w11 g0 p bs bw T3 first (first + count) M3 rs AA cc → Below w11.heap.size w11 w' → Calls Try.prog 24 #[.pointer (some ⟨g0, 0, none⟩)] w' fun e w'' => e = .returned (.int .i64 (nxtN rs : Int)) ∧ w' = w'' := fun w' T3 g0 cc M3 AA hx hb => by
    obtain ⟨v, hl⟩ := (hx.kept hb).log
    exact next_any hl.log
  have KM := Lib.hid (And.intro hsm hnx)
  have hS0 := KS.out w11.drew (Below.refl _ _).drew
  clear hsm hnx hok1 hok11 ho11 hn11 HTW HOP2 hD11 hf11 H10
  refine wp_region_M (fun j => decide (j < 21)) (fun w' => w'.cell? ⟨lb, 2, none⟩ = some (.slice A9 rs.length c9) ∧ w'.cell? ⟨lb, 3, none⟩ = some (.int .i64 (nxtN rs : Int))) (by kernel_rfl) ?_
  refine wpAnyM_take (i := 0) (v := ?_) rfl (by kernel_rfl) (by kernel_rfl) (by kernel_rfl) (by kernel_rfl) (fun _ _ _ h => h) (Or.inl ⟨by rfl, ?_⟩) hS0 ?_
  rotate_left
  · intro w hSw; (try dsimp only at hSw); go_simp; (try with_reducible rfl)
  simp only [Act.put, List.getElem_toArray, List.getElem_cons_zero, List.getElem_cons_succ, List.setIfInBounds_toArray, List.set_cons_zero, List.set_cons_succ]
  refine wpAnyM_take (i := 1) (v := ?_) rfl (by kernel_rfl) (by kernel_rfl) (by kernel_rfl) (by kernel_rfl) (fun _ _ _ h => h) (Or.inl ⟨by rfl, ?_⟩) hS0 ?_
  rotate_left
  · intro w hSw; (try dsimp only at hSw); go_simp; (try with_reducible rfl)
  simp only [Act.put, List.getElem_toArray, List.getElem_cons_zero, List.getElem_cons_succ, List.setIfInBounds_toArray, List.set_cons_zero, List.set_cons_succ]
  refine wpAnyM_take (i := 2) (v := ?_) rfl (by kernel_rfl) (by kernel_rfl) (by kernel_rfl) (by kernel_rfl) (fun _ _ _ h => h) (Or.inl ⟨by rfl, ?_⟩) hS0 ?_
  rotate_left
  · intro w hSw; (try dsimp only at hSw); go_simp; (try with_reducible rfl)
  simp only [Act.put, List.getElem_toArray, List.getElem_cons_zero, List.getElem_cons_succ, List.setIfInBounds_toArray, List.set_cons_zero, List.set_cons_succ]
  refine wpAnyM_one (i := 3) (by kernel_rfl) rfl (fun K hK => ?_)
  go_simp
  go_wp2_with (go_at_call 22; (with_reducible refine (KM.out.1 _ _ _ _ _ _ HM.out.1 (Below.refl _ _).drew).mono ?_); rintro e w12 ⟨rfl, hb12⟩)
  have hb12' : Below w11.heap.size w11 w12 := (Below.refl w11.heap.size w11).drew.trans hb12
  have hS12 := KS.out w12 hb12'
  refine hK.out _ _ (fun _ => hS12) ?_
  clear hK K
  refine wpAnyM_take (i := 4) (v := ?_) rfl (by kernel_rfl) (by kernel_rfl) (by kernel_rfl) (by kernel_rfl) (fun _ _ _ h => h) (Or.inl ⟨by rfl, ?_⟩) hS12 ?_
  rotate_left
  · intro w hSw; (try dsimp only at hSw); go_simp; (try with_reducible rfl)
  simp only [Act.put, List.getElem_toArray, List.getElem_cons_zero, List.getElem_cons_succ, List.setIfInBounds_toArray, List.set_cons_zero, List.set_cons_succ]
  refine wpAnyM_take (i := 5) (v := ?_) rfl (by kernel_rfl) (by kernel_rfl) (by kernel_rfl) (by kernel_rfl) (fun _ _ _ h => h) (Or.inl ⟨by rfl, ?_⟩) hS12 ?_
  rotate_left
  · intro w hSw; (try dsimp only at hSw); go_simp; (try with_reducible rfl)
  simp only [Act.put, List.getElem_toArray, List.getElem_cons_zero, List.getElem_cons_succ, List.setIfInBounds_toArray, List.set_cons_zero, List.set_cons_succ]
  refine wpAnyM_take (i := 6) (v := ?_) rfl (by kernel_rfl) (by kernel_rfl) (by kernel_rfl) (by kernel_rfl) (fun _ _ _ h => h) (Or.inl ⟨by rfl, ?_⟩) hS12 ?_
  rotate_left
  · intro w hSw; (try dsimp only at hSw); go_simp; (try with_reducible rfl)
  simp only [Act.put, List.getElem_toArray, List.getElem_cons_zero, List.getElem_cons_succ, List.setIfInBounds_toArray, List.set_cons_zero, List.set_cons_succ]
  refine wpAnyM_take (i := 7) (v := ?_) rfl (by kernel_rfl) (by kernel_rfl) (by kernel_rfl) (by kernel_rfl) (fun _ _ _ h => h) (Or.inl ⟨by rfl, ?_⟩) hS12 ?_
  rotate_left
  · intro w hSw; (try dsimp only at hSw); go_simp; (try with_reducible rfl)
  simp only [Act.put, List.getElem_toArray, List.getElem_cons_zero, List.getElem_cons_succ, List.setIfInBounds_toArray, List.set_cons_zero, List.set_cons_succ]
  refine wpAnyM_take (i := 8) (v := ?_) rfl (by kernel_rfl) (by kernel_rfl) (by kernel_rfl) (by kernel_rfl) (fun _ _ _ h => h) (Or.inl ⟨by rfl, ?_⟩) hS12 ?_
  rotate_left
  · intro w hSw; (try dsimp only at hSw); go_simp; (try with_reducible rfl)
  simp only [Act.put, List.getElem_toArray, List.getElem_cons_zero, List.getElem_cons_succ, List.setIfInBounds_toArray, List.set_cons_zero, List.set_cons_succ]
  refine wpAnyM_take (i := 9) (v := ?_) rfl (by kernel_rfl) (by kernel_rfl) (by kernel_rfl) (by kernel_rfl) (fun _ _ _ h => h) (Or.inl ⟨by rfl, ?_⟩) hS12 ?_
  rotate_left
  · intro w hSw; (try dsimp only at hSw); go_simp; (try with_reducible rfl)
  simp only [Act.put, List.getElem_toArray, List.getElem_cons_zero, List.getElem_cons_succ, List.setIfInBounds_toArray, List.set_cons_zero, List.set_cons_succ]
  refine wpAnyM_take (i := 10) (v := ?_) rfl (by kernel_rfl) (by kernel_rfl) (by kernel_rfl) (by kernel_rfl) (fun _ _ _ h => h) (Or.inl ⟨by rfl, ?_⟩) hS12 ?_
  rotate_left
  · intro w hSw; (try dsimp only at hSw); go_simp; (try with_reducible rfl)
  simp only [Act.put, List.getElem_toArray, List.getElem_cons_zero, List.getElem_cons_succ, List.setIfInBounds_toArray, List.set_cons_zero, List.set_cons_succ]
  refine wpAnyM_take (i := 11) (v := ?_) rfl (by kernel_rfl) (by kernel_rfl) (by kernel_rfl) (by kernel_rfl) (fun _ _ _ h => h) (Or.inl ⟨by rfl, ?_⟩) hS12 ?_
  rotate_left
  · intro w hSw; (try dsimp only at hSw); go_simp; (try with_reducible rfl)
  simp only [Act.put, List.getElem_toArray, List.getElem_cons_zero, List.getElem_cons_succ, List.setIfInBounds_toArray, List.set_cons_zero, List.set_cons_succ]
  refine wpAnyM_one (i := 12) (by kernel_rfl) rfl (fun K hK => ?_)
  go_simp
  go_wp2_with (go_at_call 22; (with_reducible refine (KM.out.1 _ _ _ _ _ _ HM.out.2.1 hb12').mono ?_); rintro e w13 ⟨rfl, hb13⟩)
  have hb13' : Below w11.heap.size w11 w13 := hb12'.trans (lower' hb13 hb12'.size)
  have hS13 := KS.out w13 hb13'
  refine hK.out _ _ (fun _ => hS13) ?_
  clear hK K
  refine wpAnyM_take (i := 13) (v := ?_) rfl (by kernel_rfl) (by kernel_rfl) (by kernel_rfl) (by kernel_rfl) (fun _ _ _ h => h) (Or.inl ⟨by rfl, ?_⟩) hS13 ?_
  rotate_left
  · intro w hSw; (try dsimp only at hSw); go_simp; (try with_reducible rfl)
  simp only [Act.put, List.getElem_toArray, List.getElem_cons_zero, List.getElem_cons_succ, List.setIfInBounds_toArray, List.set_cons_zero, List.set_cons_succ]
  refine wpAnyM_take (i := 14) (v := ?_) rfl (by kernel_rfl) (by kernel_rfl) (by kernel_rfl) (by kernel_rfl) (fun _ _ _ h => h) (Or.inl ⟨by rfl, ?_⟩) hS13 ?_
  rotate_left
  · intro w hSw; (try dsimp only at hSw); go_simp; (try with_reducible rfl)
  simp only [Act.put, List.getElem_toArray, List.getElem_cons_zero, List.getElem_cons_succ, List.setIfInBounds_toArray, List.set_cons_zero, List.set_cons_succ]
  refine wpAnyM_take (i := 15) (v := ?_) rfl (by kernel_rfl) (by kernel_rfl) (by kernel_rfl) (by kernel_rfl) (fun _ _ _ h => h) (Or.inl ⟨by rfl, ?_⟩) hS13 ?_
  rotate_left
  · intro w hSw; (try dsimp only at hSw); go_simp; (try with_reducible rfl)
  simp only [Act.put, List.getElem_toArray, List.getElem_cons_zero, List.getElem_cons_succ, List.setIfInBounds_toArray, List.set_cons_zero, List.set_cons_succ]
  refine wpAnyM_take (i := 17) (v := ?_) rfl (by kernel_rfl) (by kernel_rfl) (by kernel_rfl) (by kernel_rfl) (fun _ _ _ h => h) (Or.inl ⟨by rfl, ?_⟩) hS13 ?_
  rotate_left
  · intro w hSw; (try dsimp only at hSw); go_simp; (try with_reducible rfl)
  simp only [Act.put, List.getElem_toArray, List.getElem_cons_zero, List.getElem_cons_succ, List.setIfInBounds_toArray, List.set_cons_zero, List.set_cons_succ]
  refine wpAnyM_take (i := 18) (v := ?_) rfl (by kernel_rfl) (by kernel_rfl) (by kernel_rfl) (by kernel_rfl) (fun _ _ _ h => h) (Or.inl ⟨by rfl, ?_⟩) hS13 ?_
  rotate_left
  · intro w hSw; (try dsimp only at hSw); go_simp; (try with_reducible rfl)
  simp only [Act.put, List.getElem_toArray, List.getElem_cons_zero, List.getElem_cons_succ, List.setIfInBounds_toArray, List.set_cons_zero, List.set_cons_succ]
  refine wpAnyM_one (i := 16) (by kernel_rfl) rfl (fun K hK => ?_)
  go_simp
  go_wp2_with (go_at_call 24; (first | (with_reducible refine (KM.out.2 _ _ _ _ _ _ HM.out.1 hb13').mono ?_) | (with_reducible refine (KM.out.2 _ _ _ _ _ _ HM.out.2.1 hb13').mono ?_)); rintro e w14 ⟨rfl, rfl⟩)
  refine hK.out _ _ (fun _ => hS13) ?_
  clear hK K
  refine wpAnyM_take (i := 19) (v := ?_) rfl (by kernel_rfl) (by kernel_rfl) (by kernel_rfl) (by kernel_rfl) (fun _ _ _ h => h) (Or.inl ⟨by rfl, ?_⟩) hS13 ?_
  rotate_left
  · intro w hSw; (try dsimp only at hSw); go_simp; (try with_reducible rfl)
  simp only [Act.put, List.getElem_toArray, List.getElem_cons_zero, List.getElem_cons_succ, List.setIfInBounds_toArray, List.set_cons_zero, List.set_cons_succ]
  refine wpAnyM_take (i := 20) (v := ?_) rfl (by kernel_rfl) (by kernel_rfl) (by kernel_rfl) (by kernel_rfl) (fun _ _ _ h => h) (Or.inl ⟨by rfl, ?_⟩) hS13 ?_
  rotate_left
  · intro w hSw; (try dsimp only at hSw); go_simp; (try with_reducible rfl)
  simp only [Act.put, List.getElem_toArray, List.getElem_cons_zero, List.getElem_cons_succ, List.setIfInBounds_toArray, List.set_cons_zero, List.set_cons_succ]
  refine wpAnyM_value (i := 21) (v := ?_) rfl (by kernel_rfl) (by kernel_rfl) (by kernel_rfl) (by kernel_rfl) (fun _ _ _ h => h) (Or.inl ⟨by rfl, ?_⟩) ?_
  rotate_left
  · intro w hSw; go_simp; (try with_reducible rfl)
  simp only [Act.put, List.getElem_toArray, List.getElem_cons_zero, List.getElem_cons_succ, List.setIfInBounds_toArray, List.set_cons_zero, List.set_cons_succ]
  refine wpAnyM_done (by kernel_rfl) ?_ _
  go_wp2_with (fail)
  show K _ _
  exact HK.out _ _ _ _ _ _ _ _ _ _ _ _ _ _ _ _ _ _ _ _ _ _ _ _ _ _ _ _ _ _ _ _ _ _ _ _ _ _ _ _ _ _ _ _ _ _ _ _ _ _ _ _ _ _ _ _ _ _ _ _ _ _ _ _ _ _ _ _ _ _ _ _ _ _ _ _ _ _ _ _ _ _ (hb11.trans (lower' hb13' hb11.size))
end Go.Proofs.Ytdjcpjfomgfjlaa
