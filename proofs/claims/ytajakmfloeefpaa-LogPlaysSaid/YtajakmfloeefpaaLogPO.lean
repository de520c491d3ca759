/- LogPlays: both disks crash. -/
import Derived.Test.YtajakmfloeefpaaLogPQ
import Derived.Test.YtajakmfloeefpaaJnI
import Derived.Deep.CutBlock
import Derived.Deep.CutRange
namespace Go.Proofs.Ytajakmfloeefpaa
open Go.RowKit Go.Maps

noncomputable def lpReg35 : Code := ((Try.f3.body.bind (findReg 35)).getD .skip)
set_option maxRecDepth 1000000 in
set_option maxHeartbeats 4000000 in
theorem lp_r35 {W0 w W8 : World} {bx bl bo p bs bw m T count lo c : Nat} {M : DM} {L : LG} {A : Option Addr} {on oc kk : Int} {ob : RowB} {oA : Option Addr} {ol : List Bool} {ocap : Nat} {K : Act → World → Prop} (h : LpC W0 W8 bx bl p bs bw m T M M L lo A c count) (ho : OpAt W0 w W8 bo ⟨kk, on, oc, ob, oA, ol, ocap⟩)
    (u0 u1 u2 u3 u4 u6 u8 u9 u10 u11 u12 u13 u15 u16 u17 u18 u19 u20 u21 u22 u23 u24 u25 u26 u27 u28 u29 u30 u31 u32 u33 u34 u35 u36 u37 u38 u39 u40 u41 u42 u43 u44 u45 u46 u47 u48 u49 u50 u51 u52 u53 u54 u55 u56 u57 u58 u59 u60 u61 u62 u63 u64 u65 u66 u67 u68 u69 u70 u71 u72 u73 u74 u75 u76 u77 u78 u79 u80 u81 u82 u83 u84 u85 u86 u87 u88 u89 u90 u91 u92 u93 u94 u95 u96 u97 u98 u99 u100 u101 u102 u103 u104 u105 u106 u107 u108 u109 u110 u111 u112 u113 u114 u115 u116 u117 u118 u119 u120 u121 u122 u123 u124 u125 u126 u127 u128 u129 u130 u131 u132 u133 u134 u135 u136 u137 u138 u139 u140 u141 u142 u143 u144 u145 u146 u147 u148 u149 u150 u151 u152 u153 u154 u155 u156 u157 u158 u159 u160 u161 u162 u163 u164 u165 u166 u167 u168 u169 u170 u171 u172 u173 u174 u175 u176 u177 u178 u179 u180 u181 u182 u183 u184 u185 u186 u187 u188 u189 u190 u191 u192 u193 u194 u195 u196 u197 u198 u199 u200 u201 u202 u203 u204 u205 u206 u207 u208 u209 u210 u211 u212 u213 u214 u215 u216 u217 u218 u219 u220 u221 u222 u223 u224 u225 u226 u227 u228 u229 u230 u231 u232 u233 u234 u235 u236 u237 u238 u239 u240 u241 u242 u243 u244 u245 u246 u247 u248 u249 u250 u251 u252 u253 u254 u255 u256 : Value)
    (hK : ∀ (p' bs' bw' : Nat) (v182 v183 v184 v185 v186 v187 v188 v189 v190 v191 v192 v193 v194 v195 v196 v197 : Value) (w1 : World), LpC W0 w1 bx bl p' bs' bw' m T (M.crashed ol on oc) (M.crashed ol on oc) L lo A c count ∧ OpAt W0 w w1 bo ⟨kk, on, oc, ob, oA, ol, ocap⟩ ∧ W8.heap.size ≤ w1.heap.size → K ⟨#[u0, u1, u2, u3, u4, .pointer (some ⟨p', 0, none⟩), u6, .pointer (some ⟨bx, 0, none⟩), u8, u9, u10, u11, u12, u13, .pointer (some ⟨bo, 0, none⟩), u15, u16, u17, u18, u19, u20, u21, u22, u23, u24, u25, u26, u27, u28, u29, u30, u31, u32, u33, u34, u35, u36, u37, u38, u39, u40, u41, u42, u43, u44, u45, u46, u47, u48, u49, u50, u51, u52, u53, u54, u55, u56, u57, u58, u59, u60, u61, u62, u63, u64, u65, u66, u67, u68, u69, u70, u71, u72, u73, u74, u75, u76, u77, u78, u79, u80, u81, u82, u83, u84, u85, u86, u87, u88, u89, u90, u91, u92, u93, u94, u95, u96, u97, u98, u99, u100, u101, u102, u103, u104, u105, u106, u107, u108, u109, u110, u111, u112, u113, u114, u115, u116, u117, u118, u119, u120, u121, u122, u123, u124, u125, u126, u127, u128, u129, u130, u131, u132, u133, u134, u135, u136, u137, u138, u139, u140, u141, u142, u143, u144, u145, u146, u147, u148, u149, u150, u151, u152, u153, u154, u155, u156, u157, u158, u159, u160, u161, u162, u163, u164, u165, u166, u167, u168, u169, u170, u171, u172, u173, u174, u175, u176, u177, u178, u179, u180, u181, v182, v183, v184, v185, v186, v187, v188, v189, v190, v191, v192, v193, v194, v195, v196, v197, u198, u199, u200, u201, u202, u203, u204, u205, u206, u207, u208, u209, u210, u211, u212, u213, u214, u215, u216, u217, u218, u219, u220, u221, u222, u223, u224, u225, u226, u227, u228, u229, u230, u231, u232, u233, u234, u235, u236, u237, u238, u239, u240, u241, u242, u243, u244, u245, u246, u247, u248, u249, u250, u251, u252, u253, u254, u255, u256], []⟩ w1) :
    Code.wp Try.prog lpReg35 (Exit.then K (fun _ _ _ => False)) ⟨#[u0, u1, u2, u3, u4, .pointer (some ⟨p, 0, none⟩), u6, .pointer (some ⟨bx, 0, none⟩), u8, u9, u10, u11, u12, u13, .pointer (some ⟨bo, 0, none⟩), u15, u16, u17, u18, u19, u20, u21, u22, u23, u24, u25, u26, u27, u28, u29, u30, u31, u32, u33, u34, u35, u36, u37, u38, u39, u40, u41, u42, u43, u44, u45, u46, u47, u48, u49, u50, u51, u52, u53, u54, u55, u56, u57, u58, u59, u60, u61, u62, u63, u64, u65, u66, u67, u68, u69, u70, u71, u72, u73, u74, u75, u76, u77, u78, u79, u80, u81, u82, u83, u84, u85, u86, u87, u88, u89, u90, u91, u92, u93, u94, u95, u96, u97, u98, u99, u100, u101, u102, u103, u104, u105, u106, u107, u108, u109, u110, u111, u112, u113, u114, u115, u116, u117, u118, u119, u120, u121, u122, u123, u124, u125, u126, u127, u128, u129, u130, u131, u132, u133, u134, u135, u136, u137, u138, u139, u140, u141, u142, u143, u144, u145, u146, u147, u148, u149, u150, u151, u152, u153, u154, u155, u156, u157, u158, u159, u160, u161, u162, u163, u164, u165, u166, u167, u168, u169, u170, u171, u172, u173, u174, u175, u176, u177, u178, u179, u180, u181, u182, u183, u184, u185, u186, u187, u188, u189, u190, u191, u192, u193, u194, u195, u196, u197, u198, u199, u200, u201, u202, u203, u204, u205, u206, u207, u208, u209, u210, u211, u212, u213, u214, u215, u216, u217, u218, u219, u220, u221, u222, u223, u224, u225, u226, u227, u228, u229, u230, u231, u232, u233, u234, u235, u236, u237, u238, u239, u240, u241, u242, u243, u244, u245, u246, u247, u248, u249, u250, u251, u252, u253, u254, u255, u256], []⟩ W8 := by
  conv => arg 2; whnf
  have HK := Lib.hid hK
  have HH := Lib.hid h
  have HO := Lib.hid ho
  have hoff : bo ∉ [bx] := fun hm => h.offO ho (by simp at hm ⊢; omega)
  obtain ⟨A1, A2, A3, n1, n2, n3, e1, e2, e3, s7, l7, hg6, hv6⟩ := h.box
  have HV := Lib.hid (And.intro hg6 hv6)
  have hSix : ∀ w' : World, Below W8.heap.size W8 w' → (w'.cell? ⟨bo, 1, none⟩ = some (.int .i64 on) ∧ w'.cell? ⟨bo, 2, none⟩ = some (.int .i64 oc) ∧ w'.cell? ⟨bo, 4, none⟩ = some (.slice oA ol.length ocap)) ∧ w'.cell? ⟨bx, 0, none⟩ = some (.slice A1 n1 e1) ∧ w'.cell? ⟨bx, 1, none⟩ = some (.slice A2 n2 e2) ∧ w'.cell? ⟨bx, 2, none⟩ = some (.slice A3 n3 e3) ∧ w'.cell? ⟨bx, 3, none⟩ = some (.int .i64 s7) ∧ w'.cell? ⟨bx, 4, none⟩ = some (.int .i64 l7) := fun w' hb => by
    have g1 := (HO.out.kept hb).op
    have g2 := (hb.block bx (heap_lt hg6)).trans hg6
    exact ⟨⟨cell_of_row w' bo 1 _ _ _ g1, cell_of_row w' bo 2 _ _ _ g1, cell_of_row w' bo 4 _ _ _ g1⟩, cell_of_row w' bx 0 _ _ _ g2, cell_of_row w' bx 1 _ _ _ g2, cell_of_row w' bx 2 _ _ _ g2, cell_of_row w' bx 3 _ _ _ g2, cell_of_row w' bx 4 _ _ _ g2⟩
  have KS := Lib.hid hSix
  have hkeep : ∀ W, Below W8.heap.size W8 W → Rd W W.heap.size oA (ol.map Value.bool) := fun W hW => by
    have hlow := HO.out.low W (HH.out.below.trans (lower' hW HH.out.below.size))
    exact (HO.out.ok.keep.below hlow (Nat.le_refl _)).more hlow.size
  have HKP := Lib.hid hkeep
  have HOF := Lib.hid hoff
  clear h hK ho hoff hg6 hv6 hSix hkeep
  have hS0 := KS.out W8.drew (Below.refl _ _).drew
  have hB0 : Below W8.heap.size W8 W8.drew := (Below.refl _ _).drew
  refine wp_region_M (fun j => decide (j < 16)) (fun w' => (w'.cell? ⟨bo, 1, none⟩ = some (.int .i64 on) ∧ w'.cell? ⟨bo, 2, none⟩ = some (.int .i64 oc) ∧ w'.cell? ⟨bo, 4, none⟩ = some (.slice oA ol.length ocap)) ∧ w'.cell? ⟨bx, 0, none⟩ = some (.slice A1 n1 e1) ∧ w'.cell? ⟨bx, 1, none⟩ = some (.slice A2 n2 e2) ∧ w'.cell? ⟨bx, 2, none⟩ = some (.slice A3 n3 e3) ∧ w'.cell? ⟨bx, 3, none⟩ = some (.int .i64 s7) ∧ w'.cell? ⟨bx, 4, none⟩ = some (.int .i64 l7)) (by kernel_rfl) ?_
  refine wpAnyM_take (i := 0) (v := ?_) rfl (by kernel_rfl) (by kernel_rfl) (by kernel_rfl) (by kernel_rfl) (fun _ _ _ h => h) (Or.inl ⟨by rfl, ?_⟩) hS0 ?_
  rotate_left
  · intro w hSw; (try dsimp only at hSw); go_simp; (try with_reducible rfl)
  simp only [Act.put, List.getElem_toArray, List.getElem_cons_zero, List.getElem_cons_succ, List.setIfInBounds_toArray, List.set_cons_zero, List.set_cons_succ]
  refine wpAnyM_take (i := 1) (v := ?_) rfl (by kernel_rfl) (by kernel_rfl) (by kernel_rfl) (by kernel_rfl) (fun _ _ _ h => h) (Or.inl ⟨by rfl, ?_⟩) hS0 ?_
  rotate_left
  · intro w hSw; (try dsimp only at hSw); go_simp; (try with_reducible rfl)
  simp only [Act.put, List.getElem_toArray, List.getElem_cons_zero, List.getElem_cons_succ, List.setIfInBounds_toArray, List.set_cons_zero, List.set_cons_succ]
  refine wpAnyM_take (i := 2) (v := ?_) rfl (by kernel_rfl) (by kernel_rfl) (by kernel_rfl) (by kernel_rfl) (fun _ _ _ h => h) (Or.inl ⟨by rfl, ?_⟩) hS0 ?_
  rotate_left
  · intro w hSw; (try dsimp only at hSw); go_simp; (try with_reducible rfl)
  simp only [Act.put, List.getElem_toArray, List.getElem_cons_zero, List.getElem_cons_succ, List.setIfInBounds_toArray, List.set_cons_zero, List.set_cons_succ]
  refine wpAnyM_take (i := 3) (v := ?_) rfl (by kernel_rfl) (by kernel_rfl) (by kernel_rfl) (by kernel_rfl) (fun _ _ _ h => h) (Or.inl ⟨by rfl, ?_⟩) hS0 ?_
  rotate_left
  · intro w hSw; (try dsimp only at hSw); go_simp; (try with_reducible rfl)
  simp only [Act.put, List.getElem_toArray, List.getElem_cons_zero, List.getElem_cons_succ, List.setIfInBounds_toArray, List.set_cons_zero, List.set_cons_succ]
  refine wpAnyM_take (i := 4) (v := ?_) rfl (by kernel_rfl) (by kernel_rfl) (by kernel_rfl) (by kernel_rfl) (fun _ _ _ h => h) (Or.inl ⟨by rfl, ?_⟩) hS0 ?_
  rotate_left
  · intro w hSw; (try dsimp only at hSw); go_simp; (try with_reducible rfl)
  simp only [Act.put, List.getElem_toArray, List.getElem_cons_zero, List.getElem_cons_succ, List.setIfInBounds_toArray, List.set_cons_zero, List.set_cons_succ]
  refine wpAnyM_take (i := 5) (v := ?_) rfl (by kernel_rfl) (by kernel_rfl) (by kernel_rfl) (by kernel_rfl) (fun _ _ _ h => h) (Or.inl ⟨by rfl, ?_⟩) hS0 ?_
  rotate_left
  · intro w hSw; (try dsimp only at hSw); go_simp; (try with_reducible rfl)
  simp only [Act.put, List.getElem_toArray, List.getElem_cons_zero, List.getElem_cons_succ, List.setIfInBounds_toArray, List.set_cons_zero, List.set_cons_succ]
  refine wpAnyM_take (i := 6) (v := ?_) rfl (by kernel_rfl) (by kernel_rfl) (by kernel_rfl) (by kernel_rfl) (fun _ _ _ h => h) (Or.inl ⟨by rfl, ?_⟩) hS0 ?_
  rotate_left
  · intro w hSw; (try dsimp only at hSw); go_simp; (try with_reducible rfl)
  simp only [Act.put, List.getElem_toArray, List.getElem_cons_zero, List.getElem_cons_succ, List.setIfInBounds_toArray, List.set_cons_zero, List.set_cons_succ]
  refine wpAnyM_take (i := 8) (v := ?_) rfl (by kernel_rfl) (by kernel_rfl) (by kernel_rfl) (by kernel_rfl) (fun _ _ _ h => h) (Or.inl ⟨by rfl, ?_⟩) hS0 ?_
  rotate_left
  · intro w hSw; (try dsimp only at hSw); go_simp; (try with_reducible rfl)
  simp only [Act.put, List.getElem_toArray, List.getElem_cons_zero, List.getElem_cons_succ, List.setIfInBounds_toArray, List.set_cons_zero, List.set_cons_succ]
  refine wpAnyM_take (i := 9) (v := ?_) rfl (by kernel_rfl) (by kernel_rfl) (by kernel_rfl) (by kernel_rfl) (fun _ _ _ h => h) (Or.inl ⟨by rfl, ?_⟩) hS0 ?_
  rotate_left
  · intro w hSw; (try dsimp only at hSw); go_simp; (try with_reducible rfl)
  simp only [Act.put, List.getElem_toArray, List.getElem_cons_zero, List.getElem_cons_succ, List.setIfInBounds_toArray, List.set_cons_zero, List.set_cons_succ]
  refine wpAnyM_take (i := 10) (v := ?_) rfl (by kernel_rfl) (by kernel_rfl) (by kernel_rfl) (by kernel_rfl) (fun _ _ _ h => h) (Or.inl ⟨by rfl, ?_⟩) hS0 ?_
  rotate_left
  · intro w hSw; (try dsimp only at hSw); go_simp; (try with_reducible rfl)
  simp only [Act.put, List.getElem_toArray, List.getElem_cons_zero, List.getElem_cons_succ, List.setIfInBounds_toArray, List.set_cons_zero, List.set_cons_succ]
  refine wpAnyM_take (i := 11) (v := ?_) rfl (by kernel_rfl) (by kernel_rfl) (by kernel_rfl) (by kernel_rfl) (fun _ _ _ h => h) (Or.inl ⟨by rfl, ?_⟩) hS0 ?_
  rotate_left
  · intro w hSw; (try dsimp only at hSw); go_simp; (try with_reducible rfl)
  simp only [Act.put, List.getElem_toArray, List.getElem_cons_zero, List.getElem_cons_succ, List.setIfInBounds_toArray, List.set_cons_zero, List.set_cons_succ]
  refine wpAnyM_take (i := 12) (v := ?_) rfl (by kernel_rfl) (by kernel_rfl) (by kernel_rfl) (by kernel_rfl) (fun _ _ _ h => h) (Or.inl ⟨by rfl, ?_⟩) hS0 ?_
  rotate_left
  · intro w hSw; (try dsimp only at hSw); go_simp; (try with_reducible rfl)
  simp only [Act.put, List.getElem_toArray, List.getElem_cons_zero, List.getElem_cons_succ, List.setIfInBounds_toArray, List.set_cons_zero, List.set_cons_succ]
  refine wpAnyM_take (i := 13) (v := ?_) rfl (by kernel_rfl) (by kernel_rfl) (by kernel_rfl) (by kernel_rfl) (fun _ _ _ h => h) (Or.inl ⟨by rfl, ?_⟩) hS0 ?_
  rotate_left
  · intro w hSw; (try dsimp only at hSw); go_simp; (try with_reducible rfl)
  simp only [Act.put, List.getElem_toArray, List.getElem_cons_zero, List.getElem_cons_succ, List.setIfInBounds_toArray, List.set_cons_zero, List.set_cons_succ]
  refine wpAnyM_take (i := 14) (v := ?_) rfl (by kernel_rfl) (by kernel_rfl) (by kernel_rfl) (by kernel_rfl) (fun _ _ _ h => h) (Or.inl ⟨by rfl, ?_⟩) hS0 ?_
  rotate_left
  · intro w hSw; (try dsimp only at hSw); go_simp; (try with_reducible rfl)
  simp only [Act.put, List.getElem_toArray, List.getElem_cons_zero, List.getElem_cons_succ, List.setIfInBounds_toArray, List.set_cons_zero, List.set_cons_succ]
  have hokm := HH.out.okM
  have HCR := Lib.hid (crashM (HH.out.disk.kept hB0) hokm.T oA ocap ol on oc (HKP.out _ hB0))
  refine wpAnyM_one (i := 7) (by kernel_rfl) rfl (fun K hK => ?_)
  go_simp
  go_wp2_with (go_at_call 18; (with_reducible refine HCR.out.mono ?_); rintro e w5 ⟨p', bs', bw', rfl, hp1, hp2, hp3, hD5, hb5⟩)
  have hb5' := hB0.trans (lower' hb5 (Nat.le_refl _))
  have hS5 := KS.out w5 hb5'
  refine hK.out _ _ (fun _ => hS5) ?_
  clear hK K
  have hX5 := HH.out.crash (M' := M.crashed ol on oc) (T' := T) hp1 hp2 hp3 hD5 hb5' ⟨hokm.size, Nat.zero_le _, Nat.zero_le _, hokm.T⟩ hokm rfl
  obtain ⟨A1', A2', A3', n1', n2', n3', e1', e2', e3', s7', l7', hg5, hv5⟩ := hX5.box
  have hgg := hg5
  rw [(hb5'.block bx (heap_lt HV.out.1)).trans HV.out.1] at hgg
  simp at hgg
  obtain ⟨⟨rfl, rfl, rfl⟩, ⟨rfl, rfl, rfl⟩, ⟨rfl, rfl, rfl⟩, rfl, rfl⟩ := hgg
  have HRC := Lib.hid (rcrash_X hv5 hX5.okR hX5.lt HH.out.disk.full oA ol ocap (HKP.out _ hb5') on oc)
  refine wpAnyM_one (i := 15) (by kernel_rfl) rfl (fun K hK => ?_)
  go_simp
  go_wp2_with (go_at_call 19; (with_reducible refine HRC.out.mono ?_); rintro e w6 ⟨B1, B2, B3, r1, r2, r3, f1, f2, f3, s9, l9, rfl, hR6, hb56⟩)
  have hb6 := hb5'.trans (lower' hb56 hb5'.size)
  have hS6 := KS.out w6 hb6
  refine hK.out _ _ (fun _ => hS6) ?_
  clear hK K
  have hg9 := (hb6.block bx (heap_lt HV.out.1)).trans HV.out.1
  have y0 := cell_of_row w6 bx 0 _ _ _ hg9; have y1 := cell_of_row w6 bx 1 _ _ _ hg9; have y2 := cell_of_row w6 bx 2 _ _ _ hg9; have y3 := cell_of_row w6 bx 3 _ _ _ hg9; have y4 := cell_of_row w6 bx 4 _ _ _ hg9
  have t0 := frozen_of_row w6 bx 0 _ _ hg9; have t1 := frozen_of_row w6 bx 1 _ _ hg9; have t2 := frozen_of_row w6 bx 2 _ _ hg9; have t3 := frozen_of_row w6 bx 3 _ _ hg9; have t4 := frozen_of_row w6 bx 4 _ _ hg9
  refine wpAnyM_value (i := 16) (v := ?_) rfl (by kernel_rfl) (by kernel_rfl) (by kernel_rfl) (by kernel_rfl) (fun _ _ _ h => h) (Or.inl ⟨by rfl, ?_⟩) ?_
  rotate_left
  · intro w hSw; go_simp; (try with_reducible rfl)
  simp only [Act.put, List.getElem_toArray, List.getElem_cons_zero, List.getElem_cons_succ, List.setIfInBounds_toArray, List.set_cons_zero, List.set_cons_succ]
  refine wpAnyM_one (i := 17) (by kernel_rfl) rfl (fun K hK => ?_)
  go_simp
  refine hK.out _ _ (fun h => absurd h (by decide)) ?_
  clear hK K
  refine wpAnyM_done (by kernel_rfl) ?_ _
  show K _ _
  have hF := hX5.put hb56 hR6
  exact HK.out p' bs' bw' _ _ _ _ _ _ _ _ _ _ _ _ _ _ _ _ _ ⟨hF, (HO.out.kept hb6).fr (fr5 w6 bx _ _ _ _ _) HOF.out, Nat.le_trans hb6.size (fr5 w6 bx _ _ _ _ _).size⟩
end Go.Proofs.Ytajakmfloeefpaa
