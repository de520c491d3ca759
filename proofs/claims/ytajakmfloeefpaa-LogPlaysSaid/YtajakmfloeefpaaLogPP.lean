/- LogPlays: a sector is written by the document. -/
import Derived.Test.YtajakmfloeefpaaLogPQ
import Derived.Test.YtajakmfloeefpaaJnI
import Derived.Deep.CutBlock
import Derived.Deep.CutRange
namespace Go.Proofs.Ytajakmfloeefpaa
open Go.RowKit Go.Maps

noncomputable def lpReg32 : Code := ((Try.f3.body.bind (findReg 32)).getD .skip)
set_option maxRecDepth 1000000 in
set_option maxHeartbeats 4000000 in
theorem lp_r32 {W0 w W8 : World} {bx bl bo p bs bw q base m T count lo c : Nat} {M : DM} {L : LG} {v : Value} {A : Option Addr} {on oc kk : Int} {ob : RowB} {oA : Option Addr} {ol : List Bool} {ocap : Nat} {K : Act → World → Prop} {M' : DM} (h : LpS W0 W8 bx bl p bs bw q base m T M' M L L v lo A c count) (hM' : M' = M.writeM on (bytesL ob.l)) (hk : M.Ok T) (hlo : lo ≤ W8.heap.size) (ho : OpAt W0 w W8 bo ⟨kk, on, oc, ob, oA, ol, ocap⟩)
    (u0 u1 u2 u3 u4 u5 u6 u8 u9 u10 u11 u12 u13 u15 u16 u17 u18 u19 u20 u21 u22 u23 u24 u25 u26 u27 u28 u29 u30 u31 u32 u33 u34 u35 u36 u37 u38 u39 u40 u41 u42 u43 u44 u45 u46 u47 u48 u49 u50 u51 u52 u53 u54 u55 u56 u57 u58 u59 u60 u61 u62 u63 u64 u65 u66 u67 u68 u69 u70 u71 u72 u73 u74 u75 u76 u77 u78 u79 u80 u81 u82 u83 u84 u85 u86 u87 u88 u89 u90 u91 u92 u93 u94 u95 u96 u97 u98 u99 u100 u101 u102 u103 u104 u105 u106 u107 u108 u109 u110 u111 u112 u113 u114 u115 u116 u117 u118 u119 u120 u121 u122 u123 u124 u125 u126 u127 u128 u129 u130 u131 u132 u133 u134 u135 u136 u137 u138 u139 u140 u141 u142 u143 u144 u145 u146 u147 u148 u149 u150 u151 u152 u153 u154 u155 u156 u157 u158 u159 u160 u161 u162 u163 u164 u165 u166 u167 u168 u169 u170 u171 u172 u173 u174 u175 u176 u177 u178 u179 u180 u181 u182 u183 u184 u185 u186 u187 u188 u189 u190 u191 u192 u193 u194 u195 u196 u197 u198 u199 u200 u201 u202 u203 u204 u205 u206 u207 u208 u209 u210 u211 u212 u213 u214 u215 u216 u217 u218 u219 u220 u221 u222 u223 u224 u225 u226 u227 u228 u229 u230 u231 u232 u233 u234 u235 u236 u237 u238 u239 u240 u241 u242 u243 u244 u245 u246 u247 u248 u249 u250 u251 u252 u253 u254 u255 u256 : Value)
    (hK : ∀  (v168 v169 v170 v171 v172 v173 v174 v175 v176 v177 v178 : Value) (w1 : World), LpS W0 w1 bx bl p bs bw q base m T M' M' L L v lo A c count ∧ M'.Ok T ∧ OpAt W0 w w1 bo ⟨kk, on, oc, ob, oA, ol, ocap⟩ ∧ lo ≤ w1.heap.size → K ⟨#[u0, u1, u2, u3, u4, u5, u6, .pointer (some ⟨bx, 0, none⟩), u8, u9, u10, u11, .int .i64 (M.writeE on (bytesL ob.l)), u13, .pointer (some ⟨bo, 0, none⟩), u15, u16, u17, u18, u19, u20, u21, u22, u23, u24, u25, u26, u27, u28, u29, u30, u31, u32, u33, u34, u35, u36, u37, u38, u39, u40, u41, u42, u43, u44, u45, u46, u47, u48, u49, u50, u51, u52, u53, u54, u55, u56, u57, u58, u59, u60, u61, u62, u63, u64, u65, u66, u67, u68, u69, u70, u71, u72, u73, u74, u75, u76, u77, u78, u79, u80, u81, u82, u83, u84, u85, u86, u87, u88, u89, u90, u91, u92, u93, u94, u95, u96, u97, u98, u99, u100, u101, u102, u103, u104, u105, u106, u107, u108, u109, u110, u111, u112, u113, u114, u115, u116, u117, u118, u119, u120, u121, u122, u123, u124, u125, u126, u127, u128, u129, u130, u131, u132, u133, u134, u135, u136, u137, u138, u139, u140, u141, u142, u143, u144, u145, u146, u147, u148, u149, u150, u151, u152, u153, u154, u155, u156, u157, u158, u159, u160, u161, u162, u163, u164, u165, u166, u167, v168, v169, v170, v171, v172, v173, v174, v175, v176, v177, v178, u179, u180, u181, u182, u183, u184, u185, u186, u187, u188, u189, u190, u191, u192, u193, u194, u195, u196, u197, u198, u199, u200, u201, u202, u203, u204, u205, u206, u207, u208, u209, u210, u211, u212, u213, u214, u215, u216, u217, u218, u219, u220, u221, u222, u223, u224, u225, u226, u227, u228, u229, u230, u231, u232, u233, u234, u235, u236, u237, u238, u239, u240, u241, u242, u243, u244, u245, u246, u247, u248, u249, u250, u251, u252, u253, u254, u255, u256], []⟩ w1) :
    Code.wp Try.prog lpReg32 (Exit.then K (fun _ _ _ => False)) ⟨#[u0, u1, u2, u3, u4, u5, u6, .pointer (some ⟨bx, 0, none⟩), u8, u9, u10, u11, u12, u13, .pointer (some ⟨bo, 0, none⟩), u15, u16, u17, u18, u19, u20, u21, u22, u23, u24, u25, u26, u27, u28, u29, u30, u31, u32, u33, u34, u35, u36, u37, u38, u39, u40, u41, u42, u43, u44, u45, u46, u47, u48, u49, u50, u51, u52, u53, u54, u55, u56, u57, u58, u59, u60, u61, u62, u63, u64, u65, u66, u67, u68, u69, u70, u71, u72, u73, u74, u75, u76, u77, u78, u79, u80, u81, u82, u83, u84, u85, u86, u87, u88, u89, u90, u91, u92, u93, u94, u95, u96, u97, u98, u99, u100, u101, u102, u103, u104, u105, u106, u107, u108, u109, u110, u111, u112, u113, u114, u115, u116, u117, u118, u119, u120, u121, u122, u123, u124, u125, u126, u127, u128, u129, u130, u131, u132, u133, u134, u135, u136, u137, u138, u139, u140, u141, u142, u143, u144, u145, u146, u147, u148, u149, u150, u151, u152, u153, u154, u155, u156, u157, u158, u159, u160, u161, u162, u163, u164, u165, u166, u167, u168, u169, u170, u171, u172, u173, u174, u175, u176, u177, u178, u179, u180, u181, u182, u183, u184, u185, u186, u187, u188, u189, u190, u191, u192, u193, u194, u195, u196, u197, u198, u199, u200, u201, u202, u203, u204, u205, u206, u207, u208, u209, u210, u211, u212, u213, u214, u215, u216, u217, u218, u219, u220, u221, u222, u223, u224, u225, u226, u227, u228, u229, u230, u231, u232, u233, u234, u235, u236, u237, u238, u239, u240, u241, u242, u243, u244, u245, u246, u247, u248, u249, u250, u251, u252, u253, u254, u255, u256], []⟩ W8 := by
  conv => arg 2; whnf
  have HK := Lib.hid hK
  have HH := Lib.hid h
  have HO := Lib.hid ho
  have HP := Lib.hid (And.intro hM' (And.intro hk hlo))
  have hoff : bo ∉ [bx] := fun hm => h.toC.offO ho (by simp at hm ⊢; omega)
  have hby : ∀ W, Below W0.heap.size W0 W → Calls Try.prog 16 #[.slice ob.A ob.l.length ob.c] W fun e w' => ∃ g, e = .returned (.slice (some ⟨g, 0, none⟩) 64 64) ∧ W.heap.size ≤ g ∧ g < w'.heap.size ∧ Rd w' w'.heap.size (some ⟨g, 0, none⟩) (u8s (bytesL ob.l)) ∧ Below W.heap.size W w' :=
    fun W hW => bytesC ob.A ob.l ob.c w.heap.size W (HO.out.ok.b.1.below (HO.out.low W hW) (Nat.le_refl _)) (HO.out.low W hW).size (by have h1 := HO.out.ok.b.2.1; have h2 := HO.out.ok.b.2.2; dsimp only at h1 h2; omega)
  have HBY := Lib.hid hby
  obtain ⟨A1, A2, A3, n1, n2, n3, e1, e2, e3, s7, l7, hg6, hv6⟩ := h.box
  have HV6 := Lib.hid (And.intro hg6 hv6)
  have hSix : ∀ w' : World, Below W8.heap.size W8 w' → (w'.cell? ⟨bo, 1, none⟩ = some (.int .i64 on) ∧ w'.cell? ⟨bo, 3, none⟩ = some (.slice ob.A ob.l.length ob.c)) ∧ w'.cell? ⟨bx, 0, none⟩ = some (.slice A1 n1 e1) ∧ w'.cell? ⟨bx, 1, none⟩ = some (.slice A2 n2 e2) ∧ w'.cell? ⟨bx, 2, none⟩ = some (.slice A3 n3 e3) ∧ w'.cell? ⟨bx, 3, none⟩ = some (.int .i64 s7) ∧ w'.cell? ⟨bx, 4, none⟩ = some (.int .i64 l7) := fun w' hb => by
    have g1 := (HO.out.kept hb).op
    have g2 := (hb.block bx (heap_lt hg6)).trans hg6
    exact ⟨⟨cell_of_row w' bo 1 _ _ _ g1, cell_of_row w' bo 3 _ _ _ g1⟩, cell_of_row w' bx 0 _ _ _ g2, cell_of_row w' bx 1 _ _ _ g2, cell_of_row w' bx 2 _ _ _ g2, cell_of_row w' bx 3 _ _ _ g2, cell_of_row w' bx 4 _ _ _ g2⟩
  have KS := Lib.hid hSix
  have HOF := Lib.hid hoff
  clear h hK ho hby hoff hg6 hv6 hSix hM' hk hlo
  have hS0 := KS.out W8.drew (Below.refl _ _).drew
  refine wp_region_M (fun j => decide (j < 8)) (fun w' => (w'.cell? ⟨bo, 1, none⟩ = some (.int .i64 on) ∧ w'.cell? ⟨bo, 3, none⟩ = some (.slice ob.A ob.l.length ob.c)) ∧ w'.cell? ⟨bx, 0, none⟩ = some (.slice A1 n1 e1) ∧ w'.cell? ⟨bx, 1, none⟩ = some (.slice A2 n2 e2) ∧ w'.cell? ⟨bx, 2, none⟩ = some (.slice A3 n3 e3) ∧ w'.cell? ⟨bx, 3, none⟩ = some (.int .i64 s7) ∧ w'.cell? ⟨bx, 4, none⟩ = some (.int .i64 l7)) (by kernel_rfl) ?_
  refine wpAnyM_take (i := 0) (v := ?_) rfl (by kernel_rfl) (by kernel_rfl) (by kernel_rfl) (by kernel_rfl) (fun _ _ _ h => h) (Or.inl ⟨by rfl, ?_⟩) hS0 ?_
  rotate_left
  · intro w hSw; (try dsimp only at hSw); go_simp; (try with_reducible rfl)
  simp only [Act.put, List.getElem_toArray, List.getElem_cons_zero, List.getElem_cons_succ, List.setIfInBounds_toArray, List.set_cons_zero, List.set_cons_succ]
  refine wpAnyM_take (i := 1) (v := ?_) rfl (by kernel_rfl) (by kernel_rfl) (by kernel_rfl) (by kernel_rfl) (fun _ _ _ h => h) (Or.inl ⟨by rfl, ?_⟩) hS0 ?_
  rotate_left
  · intro w hSw; (try dsimp only at hSw); go_simp; (try with_reducible rfl)
  simp only [Act.put, List.getElem_toArray, List.getElem_cons_zero, List.getElem_cons_succ, List.setIfInBounds_toArray, List.set_cons_zero, List.set_cons_succ]
  refine wpAnyM_take (i := 2) (v := ?_) rfl (by kernel_rfl) (by kernel_rfl) (by kernel_rfl) (by kernel_rfl) (fun _ _ _ h => h) (Or.inl ⟨by rfl, ?_⟩) hS0 ?_
  rotate_left
  · intro w hSw; (try dsimp only at hSw); go_simp; (try with_reducible rfl)
  simp only [Act.put, List.getElem_toArray, List.getElem_cons_zero, List.getElem_cons_succ, List.setIfInBounds_toArray, List.set_cons_zero, List.set_cons_succ]
  refine wpAnyM_take (i := 3) (v := ?_) rfl (by kernel_rfl) (by kernel_rfl) (by kernel_rfl) (by kernel_rfl) (fun _ _ _ h => h) (Or.inl ⟨by rfl, ?_⟩) hS0 ?_
  rotate_left
  · intro w hSw; (try dsimp only at hSw); go_simp; (try with_reducible rfl)
  simp only [Act.put, List.getElem_toArray, List.getElem_cons_zero, List.getElem_cons_succ, List.setIfInBounds_toArray, List.set_cons_zero, List.set_cons_succ]
  refine wpAnyM_take (i := 4) (v := ?_) rfl (by kernel_rfl) (by kernel_rfl) (by kernel_rfl) (by kernel_rfl) (fun _ _ _ h => h) (Or.inl ⟨by rfl, ?_⟩) hS0 ?_
  rotate_left
  · intro w hSw; (try dsimp only at hSw); go_simp; (try with_reducible rfl)
  simp only [Act.put, List.getElem_toArray, List.getElem_cons_zero, List.getElem_cons_succ, List.setIfInBounds_toArray, List.set_cons_zero, List.set_cons_succ]
  refine wpAnyM_one (i := 5) (by kernel_rfl) rfl (fun K hK => ?_)
  go_simp
  go_wp2_with (go_at_call 16; (with_reducible refine (HBY.out W8.drew (HH.out.below.trans (lower' (Below.refl _ _).drew HH.out.below.size))).mono ?_); rintro e w8 ⟨g8, rfl, hg81, hg82, hr8, hb8⟩)
  have hb8' : Below W8.heap.size W8 w8 := (Below.refl W8.heap.size W8).drew.trans hb8
  have hS8 := KS.out w8 hb8'
  have q8 := strAt (n := 64) (c := 64) hr8 (bytesL_len ob.l).symm
  have hX8 := HH.out.kept hb8'
  have HW8 := Lib.hid (rwrite_X ((HV6.out.2.below (Below.refl _ _).drew).below (w' := w8) hb8) hX8.okR hX8.lt on (bytesL ob.l))
  refine hK.out _ _ (fun _ => hS8) ?_
  clear hK K
  refine wpAnyM_one (i := 6) (by kernel_rfl) rfl (fun K hK => ?_)
  go_simp
  refine hK.out _ _ (fun _ => hS8) ?_
  clear hK K
  refine wpAnyM_one (i := 7) (by kernel_rfl) rfl (fun K hK => ?_)
  go_simp
  go_wp2_with (go_at_call 17; (with_reducible refine HW8.out.mono ?_); rintro e w9 ⟨B1, B2, B3, r1, r2, r3, f1, f2, f3, s9, l9, rfl, hR9, hb9⟩)
  have hb9' : Below W8.heap.size W8 w9 := hb8'.trans (lower' hb9 hb8'.size)
  have hS9 := KS.out w9 hb9'
  have hg9 := (hb9'.block bx (heap_lt HV6.out.1)).trans HV6.out.1
  have x0 := cell_of_row w9 bx 0 _ _ _ hg9; have x1 := cell_of_row w9 bx 1 _ _ _ hg9; have x2 := cell_of_row w9 bx 2 _ _ _ hg9; have x3 := cell_of_row w9 bx 3 _ _ _ hg9; have x4 := cell_of_row w9 bx 4 _ _ _ hg9
  have t0 := frozen_of_row w9 bx 0 _ _ hg9; have t1 := frozen_of_row w9 bx 1 _ _ hg9; have t2 := frozen_of_row w9 bx 2 _ _ hg9; have t3 := frozen_of_row w9 bx 3 _ _ hg9; have t4 := frozen_of_row w9 bx 4 _ _ hg9
  refine hK.out _ _ (fun _ => hS9) ?_
  clear hK K
  refine wpAnyM_value (i := 8) (v := ?_) rfl (by kernel_rfl) (by kernel_rfl) (by kernel_rfl) (by kernel_rfl) (fun _ _ _ h => h) (Or.inl ⟨by rfl, ?_⟩) ?_
  rotate_left
  · intro w hSw; go_simp; (try with_reducible rfl)
  simp only [Act.put, List.getElem_toArray, List.getElem_cons_zero, List.getElem_cons_succ, List.setIfInBounds_toArray, List.set_cons_zero, List.set_cons_succ]
  refine wpAnyM_value (i := 9) (v := ?_) rfl (by kernel_rfl) (by kernel_rfl) (by kernel_rfl) (by kernel_rfl) (fun _ _ _ h => h) (Or.inl ⟨by rfl, ?_⟩) ?_
  rotate_left
  · intro w hSw; go_simp; (try with_reducible rfl)
  simp only [Act.put, List.getElem_toArray, List.getElem_cons_zero, List.getElem_cons_succ, List.setIfInBounds_toArray, List.set_cons_zero, List.set_cons_succ]
  refine wpAnyM_value (i := 10) (v := ?_) rfl (by kernel_rfl) (by kernel_rfl) (by kernel_rfl) (by kernel_rfl) (fun _ _ _ h => h) (Or.inl ⟨by rfl, ?_⟩) ?_
  rotate_left
  · intro w hSw; go_simp; (try with_reducible rfl)
  simp only [Act.put, List.getElem_toArray, List.getElem_cons_zero, List.getElem_cons_succ, List.setIfInBounds_toArray, List.set_cons_zero, List.set_cons_succ]
  refine wpAnyM_one (i := 11) (by kernel_rfl) rfl (fun K hK => ?_)
  go_simp
  refine hK.out _ _ (fun h => absurd h (by decide)) ?_
  clear hK K
  refine wpAnyM_value (i := 12) (v := ?_) rfl (by kernel_rfl) (by kernel_rfl) (by kernel_rfl) (by kernel_rfl) (fun _ _ _ h => h) (Or.inl ⟨by rfl, ?_⟩) ?_
  rotate_left
  · intro w hSw; go_simp; (try with_reducible rfl)
  simp only [Act.put, List.getElem_toArray, List.getElem_cons_zero, List.getElem_cons_succ, List.setIfInBounds_toArray, List.set_cons_zero, List.set_cons_succ]
  refine wpAnyM_done (by kernel_rfl) ?_ _
  show K _ _
  rw [← HP.out.1] at hR9
  have hF := hX8.put hb9 hR9
  exact HK.out _ _ _ _ _ _ _ _ _ _ _ _ ⟨hF, hF.okM, (HO.out.kept hb9').fr (fr5 w9 bx _ _ _ _ _) HOF.out, Nat.le_trans HP.out.2.2 (Nat.le_trans hb9'.size (fr5 w9 bx _ _ _ _ _).size)⟩
end Go.Proofs.Ytajakmfloeefpaa
