/- LogPlays: a sector is written, by the program, by the document; both crash. -/
import Derived.Test.YtajakmfloeefpaaJnP
import Derived.Test.YtajakmfloeefpaaJnI
import Derived.Deep.CutBlock
import Derived.Deep.CutRange
namespace Go.Proofs.Ytajakmfloeefpaa
open Go.RowKit Go.Maps

/-- A call of the script, in a box. -/
structure OpAt (W0 w W : World) (bo : Nat) (o : OpL) : Prop where
  op : W.heap[bo]? = some (.cells #[.int .i64 o.kind, .int .i64 o.n, .int .i64 o.cut, .slice o.b.A o.b.l.length o.b.c, .slice o.KA o.keep.length o.kc] 47 (0, 0))
  ok : o.ok w w.heap.size
  low : ∀ W, Below W0.heap.size W0 W → Below w.heap.size w W
theorem OpAt.kept {W0 w W W' : World} {bo : Nat} {o : OpL} (h : OpAt W0 w W bo o) (hb : Below W.heap.size W W') : OpAt W0 w W' bo o := ⟨(hb.block bo (heap_lt h.op)).trans h.op, h.ok, h.low⟩
theorem OpAt.fr {W0 w W W' : World} {bo : Nat} {o : OpL} {S : List Nat} (h : OpAt W0 w W bo o) (hf : Fr W W' S) (hS : bo ∉ S) : OpAt W0 w W' bo o := ⟨fr_get hf h.op hS, h.ok, h.low⟩
theorem LpC.offO {W0 w W : World} {bx bl bo p bs bw m T lo c C : Nat} {M Md : DM} {L : LG} {A : Option Addr} {o : OpL} (h : LpC W0 W bx bl p bs bw m T M Md L lo A c C) (ho : OpAt W0 w W bo o) : bo ∉ [bx, bl, p, bs, bw] := by
  intro hx
  have hg := ho.op
  obtain ⟨A1, A2, A3, n1, n2, n3, c1, c2, c3, s, l, hgx, _⟩ := h.box
  obtain ⟨D, ⟨h1, _, ns, nw, ⟨es, cl, h2, _⟩, ⟨es2, cl2, h3, _⟩, _⟩, _⟩ := h.disk
  simp only [List.mem_cons, List.not_mem_nil, or_false] at hx
  rcases hx with rfl | rfl | rfl | rfl | rfl
  · rw [hgx] at hg; simp at hg
  · rw [h.rlg] at hg; simp at hg
  · rw [h1] at hg; simp [DK.cells] at hg
  · rw [h2] at hg; cases hg
  · rw [h3] at hg; cases hg
noncomputable def lpReg31 : Code := ((Try.f3.body.bind (findReg 31)).getD .skip)
set_option maxRecDepth 1000000 in
set_option maxHeartbeats 4000000 in
theorem lp_r31 {W0 w W8 : World} {bx bl bo p bs bw q base m T first count lo c : Nat} {M : DM} {L : LG} {v : Value} {A : Option Addr} {on oc kk : Int} {ob : RowB} {oA : Option Addr} {ol : List Bool} {ocap : Nat} {K : Act → World → Prop} (h : LpT W0 W8 bx bl p bs bw q base m T first count M L v lo A c) (hT : T ≤ 1000000) (ho : OpAt W0 w W8 bo ⟨kk, on, oc, ob, oA, ol, ocap⟩)
    (u0 u1 u2 u3 u4 u6 u7 u8 u9 u10 u11 u12 u13 u15 u16 u17 u18 u19 u20 u21 u22 u23 u24 u25 u26 u27 u28 u29 u30 u31 u32 u33 u34 u35 u36 u37 u38 u39 u40 u41 u42 u43 u44 u45 u46 u47 u48 u49 u50 u51 u52 u53 u54 u55 u56 u57 u58 u59 u60 u61 u62 u63 u64 u65 u66 u67 u68 u69 u70 u71 u72 u73 u74 u75 u76 u77 u78 u79 u80 u81 u82 u83 u84 u85 u86 u87 u88 u89 u90 u91 u92 u93 u94 u95 u96 u97 u98 u99 u100 u101 u102 u103 u104 u105 u106 u107 u108 u109 u110 u111 u112 u113 u114 u115 u116 u117 u118 u119 u120 u121 u122 u123 u124 u125 u126 u127 u128 u129 u130 u131 u132 u133 u134 u135 u136 u137 u138 u139 u140 u141 u142 u143 u144 u145 u146 u147 u148 u149 u150 u151 u152 u153 u154 u155 u156 u157 u158 u159 u160 u161 u162 u163 u164 u165 u166 u167 u168 u169 u170 u171 u172 u173 u174 u175 u176 u177 u178 u179 u180 u181 u182 u183 u184 u185 u186 u187 u188 u189 u190 u191 u192 u193 u194 u195 u196 u197 u198 u199 u200 u201 u202 u203 u204 u205 u206 u207 u208 u209 u210 u211 u212 u213 u214 u215 u216 u217 u218 u219 u220 u221 u222 u223 u224 u225 u226 u227 u228 u229 u230 u231 u232 u233 u234 u235 u236 u237 u238 u239 u240 u241 u242 u243 u244 u245 u246 u247 u248 u249 u250 u251 u252 u253 u254 u255 u256 : Value)
    (hK : ∀ (v1 : Value) (v161 v162 v163 v164 v165 v166 v167 : Value) (w1 : World), LpS W0 w1 bx bl p bs bw q base m (T + 1) (M.writeM on (bytesL ob.l)) M L L v1 lo A c count → OpAt W0 w w1 bo ⟨kk, on, oc, ob, oA, ol, ocap⟩ → lo ≤ w1.heap.size → K ⟨#[u0, u1, u2, u3, u4, .pointer (some ⟨p, 0, none⟩), .int .i64 (M.writeE on (bytesL ob.l)), u7, u8, u9, u10, u11, u12, u13, .pointer (some ⟨bo, 0, none⟩), u15, u16, u17, u18, u19, u20, u21, u22, u23, u24, u25, u26, u27, u28, u29, u30, u31, u32, u33, u34, u35, u36, u37, u38, u39, u40, u41, u42, u43, u44, u45, u46, u47, u48, u49, u50, u51, u52, u53, u54, u55, u56, u57, u58, u59, u60, u61, u62, u63, u64, u65, u66, u67, u68, u69, u70, u71, u72, u73, u74, u75, u76, u77, u78, u79, u80, u81, u82, u83, u84, u85, u86, u87, u88, u89, u90, u91, u92, u93, u94, u95, u96, u97, u98, u99, u100, u101, u102, u103, u104, u105, u106, u107, u108, u109, u110, u111, u112, u113, u114, u115, u116, u117, u118, u119, u120, u121, u122, u123, u124, u125, u126, u127, u128, u129, u130, u131, u132, u133, u134, u135, u136, u137, u138, u139, u140, u141, u142, u143, u144, u145, u146, u147, u148, u149, u150, u151, u152, u153, u154, u155, u156, u157, u158, u159, u160, v161, v162, v163, v164, v165, v166, v167, u168, u169, u170, u171, u172, u173, u174, u175, u176, u177, u178, u179, u180, u181, u182, u183, u184, u185, u186, u187, u188, u189, u190, u191, u192, u193, u194, u195, u196, u197, u198, u199, u200, u201, u202, u203, u204, u205, u206, u207, u208, u209, u210, u211, u212, u213, u214, u215, u216, u217, u218, u219, u220, u221, u222, u223, u224, u225, u226, u227, u228, u229, u230, u231, u232, u233, u234, u235, u236, u237, u238, u239, u240, u241, u242, u243, u244, u245, u246, u247, u248, u249, u250, u251, u252, u253, u254, u255, u256], []⟩ w1) :
    Code.wp Try.prog lpReg31 (Exit.then K (fun _ _ _ => False)) ⟨#[u0, u1, u2, u3, u4, .pointer (some ⟨p, 0, none⟩), u6, u7, u8, u9, u10, u11, u12, u13, .pointer (some ⟨bo, 0, none⟩), u15, u16, u17, u18, u19, u20, u21, u22, u23, u24, u25, u26, u27, u28, u29, u30, u31, u32, u33, u34, u35, u36, u37, u38, u39, u40, u41, u42, u43, u44, u45, u46, u47, u48, u49, u50, u51, u52, u53, u54, u55, u56, u57, u58, u59, u60, u61, u62, u63, u64, u65, u66, u67, u68, u69, u70, u71, u72, u73, u74, u75, u76, u77, u78, u79, u80, u81, u82, u83, u84, u85, u86, u87, u88, u89, u90, u91, u92, u93, u94, u95, u96, u97, u98, u99, u100, u101, u102, u103, u104, u105, u106, u107, u108, u109, u110, u111, u112, u113, u114, u115, u116, u117, u118, u119, u120, u121, u122, u123, u124, u125, u126, u127, u128, u129, u130, u131, u132, u133, u134, u135, u136, u137, u138, u139, u140, u141, u142, u143, u144, u145, u146, u147, u148, u149, u150, u151, u152, u153, u154, u155, u156, u157, u158, u159, u160, u161, u162, u163, u164, u165, u166, u167, u168, u169, u170, u171, u172, u173, u174, u175, u176, u177, u178, u179, u180, u181, u182, u183, u184, u185, u186, u187, u188, u189, u190, u191, u192, u193, u194, u195, u196, u197, u198, u199, u200, u201, u202, u203, u204, u205, u206, u207, u208, u209, u210, u211, u212, u213, u214, u215, u216, u217, u218, u219, u220, u221, u222, u223, u224, u225, u226, u227, u228, u229, u230, u231, u232, u233, u234, u235, u236, u237, u238, u239, u240, u241, u242, u243, u244, u245, u246, u247, u248, u249, u250, u251, u252, u253, u254, u255, u256], []⟩ W8 := by
  conv => arg 2; whnf
  have HK := Lib.hid hK
  have HH := Lib.hid h
  have HO := Lib.hid ho
  have hoff : bo ∉ [p, bs, bw] := fun hm => h.st.toC.offO ho (by simp at hm ⊢; omega)
  have hby : ∀ W, Below W0.heap.size W0 W → Calls Try.prog 16 #[.slice ob.A ob.l.length ob.c] W fun e w' => ∃ g, e = .returned (.slice (some ⟨g, 0, none⟩) 64 64) ∧ W.heap.size ≤ g ∧ g < w'.heap.size ∧ Rd w' w'.heap.size (some ⟨g, 0, none⟩) (u8s (bytesL ob.l)) ∧ Below W.heap.size W w' :=
    fun W hW => bytesC ob.A ob.l ob.c w.heap.size W (HO.out.ok.b.1.below (HO.out.low W hW) (Nat.le_refl _)) (HO.out.low W hW).size (by have h1 := HO.out.ok.b.2.1; have h2 := HO.out.ok.b.2.2; dsimp only at h1 h2; omega)
  have HBY := Lib.hid hby
  have KS := Lib.hid fun (w' : World) (hb : Below W8.heap.size W8 w') => And.intro (cell_of_row w' bo 1 _ _ _ (HO.out.kept hb).op) (cell_of_row w' bo 3 _ _ _ (HO.out.kept hb).op)
  dsimp only at KS
  have KF := Lib.hid fun (w' w'' : World) (hb : Below W8.heap.size W8 w') (hf : Fr w' w'' [p, bs, bw]) => And.intro (cell_of_row w'' bo 1 _ _ _ ((HO.out.kept hb).fr hf hoff).op) (cell_of_row w'' bo 3 _ _ _ ((HO.out.kept hb).fr hf hoff).op)
  dsimp only at KF
  have HOF := Lib.hid hoff
  have HT := Lib.hid hT
  clear h hK ho hby hoff hT
  have hS0 := KS.out W8.drew (Below.refl _ _).drew
  refine wp_region_M (fun j => decide (j < 7)) (fun w' => w'.cell? ⟨bo, 1, none⟩ = some (.int .i64 on) ∧ w'.cell? ⟨bo, 3, none⟩ = some (.slice ob.A ob.l.length ob.c)) (by kernel_rfl) ?_
  refine wpAnyM_take (i := 0) (v := ?_) rfl (by kernel_rfl) (by kernel_rfl) (by kernel_rfl) (by kernel_rfl) (fun _ _ _ h => h) (Or.inl ⟨by rfl, ?_⟩) hS0 ?_
  rotate_left
  · intro w hSw; (try dsimp only at hSw); go_simp; (try with_reducible rfl)
  simp only [Act.put, List.getElem_toArray, List.getElem_cons_zero, List.getElem_cons_succ, List.setIfInBounds_toArray, List.set_cons_zero, List.set_cons_succ]
  refine wpAnyM_take (i := 1) (v := ?_) rfl (by kernel_rfl) (by kernel_rfl) (by kernel_rfl) (by kernel_rfl) (fun _ _ _ h => h) (Or.inl ⟨by rfl, ?_⟩) hS0 ?_
  rotate_left
  · intro w hSw; (try dsimp only at hSw); go_simp; (try with_reducible rfl)
  simp only [Act.put, List.getElem_toArray, List.getElem_cons_zero, List.getElem_cons_succ, List.setIfInBounds_toArray, List.set_cons_zero, List.set_cons_succ]
  refine wpAnyM_take (i := 2) (v := ?_) rfl (by kernel_rfl) (by kernel_rfl) (by kernel_rfl) (by kernel_rfl) (fun _ _ _ h => h) (Or.inl ⟨by rfl, ?_⟩) hS0 ?_
  rotate_left
  · intro w hSw; (try dsimp only at hSw); go_simp; (try with_reducible rfl)
  simp only [Act.put, List.getElem_toArray, List.getElem_cons_zero, List.getElem_cons_succ, List.setIfInBounds_toArray, List.set_cons_zero, List.set_cons_succ]
  refine wpAnyM_take (i := 3) (v := ?_) rfl (by kernel_rfl) (by kernel_rfl) (by kernel_rfl) (by kernel_rfl) (fun _ _ _ h => h) (Or.inl ⟨by rfl, ?_⟩) hS0 ?_
  rotate_left
  · intro w hSw; (try dsimp only at hSw); go_simp; (try with_reducible rfl)
  simp only [Act.put, List.getElem_toArray, List.getElem_cons_zero, List.getElem_cons_succ, List.setIfInBounds_toArray, List.set_cons_zero, List.set_cons_succ]
  refine wpAnyM_take (i := 4) (v := ?_) rfl (by kernel_rfl) (by kernel_rfl) (by kernel_rfl) (by kernel_rfl) (fun _ _ _ h => h) (Or.inl ⟨by rfl, ?_⟩) hS0 ?_
  rotate_left
  · intro w hSw; (try dsimp only at hSw); go_simp; (try with_reducible rfl)
  simp only [Act.put, List.getElem_toArray, List.getElem_cons_zero, List.getElem_cons_succ, List.setIfInBounds_toArray, List.set_cons_zero, List.set_cons_succ]
  refine wpAnyM_one (i := 5) (by kernel_rfl) rfl (fun K hK => ?_)
  go_simp
  go_wp2_with (go_at_call 16; (with_reducible refine (HBY.out W8.drew (HH.out.st.below.trans (lower' (Below.refl _ _).drew HH.out.st.below.size))).mono ?_); rintro e w5 ⟨g5, rfl, hg51, hg52, hr5, hb5⟩)
  have hb5' : Below W8.heap.size W8 w5 := (Below.refl W8.heap.size W8).drew.trans (hb5 : Below W8.heap.size _ _)
  have hS5 := KS.out w5 hb5'
  have hX5 := HH.out.st.kept hb5'
  have HWR := Lib.hid (writeC hX5.log.disk hX5.okM on g5 (bytesL ob.l) (bytesL_len _) _ hr5 (by have := HH.out.st.log.disk.lt; have hq : W8.heap.size ≤ g5 := hg51; omega))
  refine hK.out _ _ (fun _ => hS5) ?_
  clear hK K
  refine wpAnyM_one (i := 6) (by kernel_rfl) rfl (fun K hK => ?_)
  go_simp
  go_wp2_with (go_at_call 15; (with_reducible refine HWR.out.mono ?_); rintro e w6 ⟨rfl, hD6, hF6⟩)
  have hF6' : Fr w5 w6 [p, bs, bw] := hF6.mono (by simp)
  have hS6 := KF.out _ _ hb5' hF6'
  refine hK.out _ _ (fun _ => hS6) ?_
  clear hK K
  refine wpAnyM_value (i := 7) (v := ?_) rfl (by kernel_rfl) (by kernel_rfl) (by kernel_rfl) (by kernel_rfl) (fun _ _ _ h => h) (Or.inl ⟨by rfl, ?_⟩) ?_
  rotate_left
  · intro w hSw; go_simp; (try with_reducible rfl)
  simp only [Act.put, List.getElem_toArray, List.getElem_cons_zero, List.getElem_cons_succ, List.setIfInBounds_toArray, List.set_cons_zero, List.set_cons_succ]
  refine wpAnyM_done (by kernel_rfl) ?_ _
  show K _ _
  have hwf := write_facts M on (bytesL ob.l)
  have hokm := HH.out.st.okM
  have hT := HT.out
  obtain ⟨v1, hL6⟩ := hX5.disk hD6 hF6' ⟨by rw [hwf.1]; exact hokm.size, by have := HH.out.steps; omega, Nat.le_trans hwf.2.2 hokm.left, by omega⟩ ⟨hokm.size, hokm.steps, hokm.left, by omega⟩ hwf.1
  exact HK.out v1 _ _ _ _ _ _ _ _ hL6 ((HO.out.kept hb5').fr hF6' HOF.out) (Nat.le_trans HH.out.lo (Nat.le_trans hb5'.size hF6.size))
end Go.Proofs.Ytajakmfloeefpaa
