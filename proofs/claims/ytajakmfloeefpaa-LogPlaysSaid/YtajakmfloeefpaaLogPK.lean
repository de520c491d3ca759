/- LogPlays: what is compared behind each call. -/
import Derived.Test.YtajakmfloeefpaaJnP
import Derived.Test.YtajakmfloeefpaaJnI
import Derived.Deep.CutBlock
import Derived.Deep.CutRange
namespace Go.Proofs.Ytajakmfloeefpaa
open Go.RowKit Go.Maps

noncomputable def lpReg42 : Code := ((Try.f3.body.bind (findReg 42)).getD .skip)
set_option maxRecDepth 1000000 in
set_option maxHeartbeats 4000000 in
theorem lp_r42 {W0 W8 : World} {cd : Int} {bx bl p bs bw q base m T first count lo c : Nat} {M : DM} {L : LG} {v : Value} {A : Option Addr} {K : Act → World → Prop} (h : LpT W0 W8 bx bl p bs bw q base m T first count M L v lo A c)
    (u0 u1 u2 u3 u4 u8 u10 u13 u14 u15 u16 u17 u18 u19 u20 u21 u22 u23 u24 u25 u26 u27 u28 u29 u30 u31 u32 u33 u34 u35 u36 u37 u38 u39 u40 u41 u42 u43 u44 u45 u46 u47 u48 u49 u50 u51 u52 u53 u54 u55 u56 u57 u58 u59 u60 u61 u62 u63 u64 u65 u66 u67 u68 u69 u70 u71 u72 u73 u74 u75 u76 u77 u78 u79 u80 u81 u82 u83 u84 u85 u86 u87 u88 u89 u90 u91 u92 u93 u94 u95 u96 u97 u98 u99 u100 u101 u102 u103 u104 u105 u106 u107 u108 u109 u110 u111 u112 u113 u114 u115 u116 u117 u118 u119 u120 u121 u122 u123 u124 u125 u126 u127 u128 u129 u130 u131 u132 u133 u134 u135 u136 u137 u138 u139 u140 u141 u142 u143 u144 u145 u146 u147 u148 u149 u150 u151 u152 u153 u154 u155 u156 u157 u158 u159 u160 u161 u162 u163 u164 u165 u166 u167 u168 u169 u170 u171 u172 u173 u174 u175 u176 u177 u178 u179 u180 u181 u182 u183 u184 u185 u186 u187 u188 u189 u190 u191 u192 u193 u194 u195 u196 u197 u198 u199 u200 u201 u202 u203 u204 u205 u206 u207 u208 u209 u210 u211 u212 u213 u214 u215 u216 u217 u218 u219 u220 u221 u222 u223 u224 u225 u226 u227 u228 u229 u230 u231 u232 u233 u234 u235 u236 u237 u238 u239 u240 u241 u242 u243 u244 u245 u246 u247 u248 u249 u250 u251 u252 u253 u254 u255 u256 : Value)
    (hK : ∀  (v234 v235 v236 v237 v238 v239 v240 v241 v242 v243 v244 v245 v246 v247 v248 v249 v250 v251 v252 v253 v254 v255 : Value) (w1 : World), LpT W0 w1 bx bl p bs bw q base m T first count M L v lo A c → K ⟨#[u0, u1, u2, u3, u4, .pointer (some ⟨p, 0, none⟩), .int .i64 cd, .pointer (some ⟨bx, 0, none⟩), u8, .pointer (some ⟨q, 0, none⟩), u10, .pointer (some ⟨bl, 0, none⟩), .int .i64 cd, u13, u14, u15, u16, u17, u18, u19, u20, u21, u22, u23, u24, u25, u26, u27, u28, u29, u30, u31, u32, u33, u34, u35, u36, u37, u38, u39, u40, u41, u42, u43, u44, u45, u46, u47, u48, u49, u50, u51, u52, u53, u54, u55, u56, u57, u58, u59, u60, u61, u62, u63, u64, u65, u66, u67, u68, u69, u70, u71, u72, u73, u74, u75, u76, u77, u78, u79, u80, u81, u82, u83, u84, u85, u86, u87, u88, u89, u90, u91, u92, u93, u94, u95, u96, u97, u98, u99, u100, u101, u102, u103, u104, u105, u106, u107, u108, u109, u110, u111, u112, u113, u114, u115, u116, u117, u118, u119, u120, u121, u122, u123, u124, u125, u126, u127, u128, u129, u130, u131, u132, u133, u134, u135, u136, u137, u138, u139, u140, u141, u142, u143, u144, u145, u146, u147, u148, u149, u150, u151, u152, u153, u154, u155, u156, u157, u158, u159, u160, u161, u162, u163, u164, u165, u166, u167, u168, u169, u170, u171, u172, u173, u174, u175, u176, u177, u178, u179, u180, u181, u182, u183, u184, u185, u186, u187, u188, u189, u190, u191, u192, u193, u194, u195, u196, u197, u198, u199, u200, u201, u202, u203, u204, u205, u206, u207, u208, u209, u210, u211, u212, u213, u214, u215, u216, u217, u218, u219, u220, u221, u222, u223, u224, u225, u226, u227, u228, u229, u230, u231, u232, u233, v234, v235, v236, v237, v238, v239, v240, v241, v242, v243, v244, v245, v246, v247, v248, v249, v250, v251, v252, v253, v254, v255, .bool false], []⟩ w1) :
    Code.wp Try.prog lpReg42 (Exit.then K (fun _ _ _ => False)) ⟨#[u0, u1, u2, u3, u4, .pointer (some ⟨p, 0, none⟩), .int .i64 cd, .pointer (some ⟨bx, 0, none⟩), u8, .pointer (some ⟨q, 0, none⟩), u10, .pointer (some ⟨bl, 0, none⟩), .int .i64 cd, u13, u14, u15, u16, u17, u18, u19, u20, u21, u22, u23, u24, u25, u26, u27, u28, u29, u30, u31, u32, u33, u34, u35, u36, u37, u38, u39, u40, u41, u42, u43, u44, u45, u46, u47, u48, u49, u50, u51, u52, u53, u54, u55, u56, u57, u58, u59, u60, u61, u62, u63, u64, u65, u66, u67, u68, u69, u70, u71, u72, u73, u74, u75, u76, u77, u78, u79, u80, u81, u82, u83, u84, u85, u86, u87, u88, u89, u90, u91, u92, u93, u94, u95, u96, u97, u98, u99, u100, u101, u102, u103, u104, u105, u106, u107, u108, u109, u110, u111, u112, u113, u114, u115, u116, u117, u118, u119, u120, u121, u122, u123, u124, u125, u126, u127, u128, u129, u130, u131, u132, u133, u134, u135, u136, u137, u138, u139, u140, u141, u142, u143, u144, u145, u146, u147, u148, u149, u150, u151, u152, u153, u154, u155, u156, u157, u158, u159, u160, u161, u162, u163, u164, u165, u166, u167, u168, u169, u170, u171, u172, u173, u174, u175, u176, u177, u178, u179, u180, u181, u182, u183, u184, u185, u186, u187, u188, u189, u190, u191, u192, u193, u194, u195, u196, u197, u198, u199, u200, u201, u202, u203, u204, u205, u206, u207, u208, u209, u210, u211, u212, u213, u214, u215, u216, u217, u218, u219, u220, u221, u222, u223, u224, u225, u226, u227, u228, u229, u230, u231, u232, u233, u234, u235, u236, u237, u238, u239, u240, u241, u242, u243, u244, u245, u246, u247, u248, u249, u250, u251, u252, u253, u254, u255, u256], []⟩ W8 := by
  conv => arg 2; whnf
  have HK := Lib.hid hK
  have HH := Lib.hid h
  obtain ⟨A1, A2, A3, n1, n2, n3, e1, e2, e3, s7, l7, hg7, hv7⟩ := h.st.box
  have hgl := h.st.rlg
  have KS := Lib.hid fun (w' : World) (hb : Below W8.heap.size W8 w') => show w'.cell? ⟨bx, 0, none⟩ = some (.slice A1 n1 e1) ∧ w'.cell? ⟨bx, 1, none⟩ = some (.slice A2 n2 e2) ∧ w'.cell? ⟨bx, 2, none⟩ = some (.slice A3 n3 e3) ∧ w'.cell? ⟨bx, 3, none⟩ = some (.int .i64 s7) ∧ w'.cell? ⟨bx, 4, none⟩ = some (.int .i64 l7) ∧ w'.cell? ⟨bl, 0, none⟩ = some (.int .i64 (L.first : Int)) ∧ w'.cell? ⟨bl, 1, none⟩ = some (.int .i64 (count : Int)) ∧ w'.cell? ⟨bl, 2, none⟩ = some (.slice A L.recs.length c) ∧ w'.cell? ⟨bl, 3, none⟩ = some (.int .i64 (L.next : Int)) from by
    have g1 := (hb.block bx (heap_lt hg7)).trans hg7
    have g2 := (hb.block bl (heap_lt hgl)).trans hgl
    exact ⟨cell_of_row w' bx 0 _ _ _ g1, cell_of_row w' bx 1 _ _ _ g1, cell_of_row w' bx 2 _ _ _ g1, cell_of_row w' bx 3 _ _ _ g1, cell_of_row w' bx 4 _ _ _ g1, cell_of_row w' bl 0 _ _ _ g2, cell_of_row w' bl 1 _ _ _ g2, cell_of_row w' bl 2 _ _ _ g2, cell_of_row w' bl 3 _ _ _ g2⟩
  have htl := fun (w' : World) (hb : Below W8.heap.size W8 w') => tells_any w' _ _ _ _ _ _ ((h.kept hb).both (hv7.below hb))
  have hnx := fun (w' : World) (hb : Below W8.heap.size W8 w') => next_any (h.kept hb).st.log.log
  have hrm := fun (w' : World) (hb : Below W8.heap.size W8 w') => room_any (h.kept hb).st.log.log
  have hrr : ∀ w' : World, Below W8.heap.size W8 w' → Calls Try.prog 24 #[.agg #[.int .i64 (L.first : Int), .int .i64 (count : Int), .slice A L.recs.length c, .int .i64 (L.next : Int)]] w' fun e w'' => e = .returned (.int .i64 L.room) ∧ Below w'.heap.size w' w'' := fun w' hb => by
    obtain ⟨A', c', e', _, _, hr⟩ := own_shape (h.kept hb).st.own
    injection e' with e6 e7 e8
    rw [← e6] at hr
    have hok := h.ok
    have h1 := hok.behind
    have h2 : endR L.first L.recs ≤ L.behind := hok.endd
    have h3 := h.fst
    have h4 := h.bh
    have h5 : roomR L.first count L.next L.recs = L.room := by rw [← room_same hok]; congr 1; omega
    rw [← h5]
    exact rRoom_any L.first count L.next L.recs A c _ w' hr (Nat.le_refl _) h.dat (by omega) (by omega) (by omega) hok.next
  have KC := Lib.hid (And.intro htl (And.intro hnx (And.intro hrm hrr)))
  clear h hK hg7 hv7 hgl htl hnx hrm hrr
  have hB0 : Below W8.heap.size W8 W8.drew := (Below.refl _ _).drew
  have hS0 := KS.out W8.drew hB0
  refine wp_region_M (fun j => decide (j < 22)) (fun w' => w'.cell? ⟨bx, 0, none⟩ = some (.slice A1 n1 e1) ∧ w'.cell? ⟨bx, 1, none⟩ = some (.slice A2 n2 e2) ∧ w'.cell? ⟨bx, 2, none⟩ = some (.slice A3 n3 e3) ∧ w'.cell? ⟨bx, 3, none⟩ = some (.int .i64 s7) ∧ w'.cell? ⟨bx, 4, none⟩ = some (.int .i64 l7) ∧ w'.cell? ⟨bl, 0, none⟩ = some (.int .i64 (L.first : Int)) ∧ w'.cell? ⟨bl, 1, none⟩ = some (.int .i64 (count : Int)) ∧ w'.cell? ⟨bl, 2, none⟩ = some (.slice A L.recs.length c) ∧ w'.cell? ⟨bl, 3, none⟩ = some (.int .i64 (L.next : Int))) (by kernel_rfl) ?_
  refine wpAnyM_take (i := 0) (v := ?_) rfl (by kernel_rfl) (by kernel_rfl) (by kernel_rfl) (by kernel_rfl) (fun _ _ _ h => h) (Or.inl ⟨by rfl, ?_⟩) hS0 ?_
  rotate_left
  · intro w hSw; (try dsimp only at hSw); go_simp; (try with_reducible rfl)
  simp only [Act.put, List.getElem_toArray, List.getElem_cons_zero, List.getElem_cons_succ, List.setIfInBounds_toArray, List.set_cons_zero, List.set_cons_succ]
  refine wpAnyM_take (i := 1) (v := ?_) rfl (by kernel_rfl) (by kernel_rfl) (by kernel_rfl) (by kernel_rfl) (fun _ _ _ h => h) (Or.inl ⟨by rfl, ?_⟩) hS0 ?_
  rotate_left
  · intro w hSw; (try dsimp only at hSw); go_simp; (try with_reducible rfl)
  simp only [Act.put, List.getElem_toArray, List.getElem_cons_zero, List.getElem_cons_succ, List.setIfInBounds_toArray, List.set_cons_zero, List.set_cons_succ]
  refine wpAnyM_take (i := 2) (v := .bool false) rfl (by kernel_rfl) (by kernel_rfl) (by kernel_rfl) (by kernel_rfl) (fun _ _ _ h => h) (Or.inl ⟨by rfl, ?_⟩) hS0 ?_
  · intro w hSw; (try dsimp only at hSw); go_simp; (try simp)
  simp only [Act.put, List.getElem_toArray, List.getElem_cons_zero, List.getElem_cons_succ, List.setIfInBounds_toArray, List.set_cons_zero, List.set_cons_succ]
  refine wpAnyM_take (i := 3) (v := ?_) rfl (by kernel_rfl) (by kernel_rfl) (by kernel_rfl) (by kernel_rfl) (fun _ _ _ h => h) (Or.inl ⟨by rfl, ?_⟩) hS0 ?_
  rotate_left
  · intro w hSw; (try dsimp only at hSw); go_simp; (try with_reducible rfl)
  simp only [Act.put, List.getElem_toArray, List.getElem_cons_zero, List.getElem_cons_succ, List.setIfInBounds_toArray, List.set_cons_zero, List.set_cons_succ]
  refine wpAnyM_take (i := 4) (v := ?_) rfl (by kernel_rfl) (by kernel_rfl) (by kernel_rfl) (by kernel_rfl) (fun _ _ _ h => h) (Or.inl ⟨by rfl, ?_⟩) hS0 ?_
  rotate_left
  · intro w hSw; (try dsimp only at hSw); go_simp; (try with_reducible rfl)
  simp only [Act.put, List.getElem_toArray, List.getElem_cons_zero, List.getElem_cons_succ, List.setIfInBounds_toArray, List.set_cons_zero, List.set_cons_succ]
  refine wpAnyM_take (i := 5) (v := ?_) rfl (by kernel_rfl) (by kernel_rfl) (by kernel_rfl) (by kernel_rfl) (fun _ _ _ h => h) (Or.inl ⟨by rfl, ?_⟩) hS0 ?_
  rotate_left
  · intro w hSw; (try dsimp only at hSw); go_simp; (try with_reducible rfl)
  simp only [Act.put, List.getElem_toArray, List.getElem_cons_zero, List.getElem_cons_succ, List.setIfInBounds_toArray, List.set_cons_zero, List.set_cons_succ]
  refine wpAnyM_one (i := 6) (by kernel_rfl) rfl (fun K hK => ?_)
  go_simp
  go_wp2_with (go_at_call 21; (with_reducible refine (KC.out.1 _ hB0).mono ?_); rintro e w9 ⟨rfl, hbn⟩)
  have hB9 : Below W8.heap.size W8 w9 := hB0.trans (lower' hbn hB0.size)
  have hS9 := KS.out w9 hB9
  refine hK.out _ _ (fun _ => hS9) ?_
  clear hK K
  refine wpAnyM_take (i := 7) (v := ?_) rfl (by kernel_rfl) (by kernel_rfl) (by kernel_rfl) (by kernel_rfl) (fun _ _ _ h => h) (Or.inl ⟨by rfl, ?_⟩) hS9 ?_
  rotate_left
  · intro w hSw; (try dsimp only at hSw); go_simp; (try with_reducible rfl)
  simp only [Act.put, List.getElem_toArray, List.getElem_cons_zero, List.getElem_cons_succ, List.setIfInBounds_toArray, List.set_cons_zero, List.set_cons_succ]
  refine wpAnyM_take (i := 8) (v := ?_) rfl (by kernel_rfl) (by kernel_rfl) (by kernel_rfl) (by kernel_rfl) (fun _ _ _ h => h) (Or.inl ⟨by rfl, ?_⟩) hS9 ?_
  rotate_left
  · intro w hSw; (try dsimp only at hSw); go_simp; (try with_reducible rfl)
  simp only [Act.put, List.getElem_toArray, List.getElem_cons_zero, List.getElem_cons_succ, List.setIfInBounds_toArray, List.set_cons_zero, List.set_cons_succ]
  refine wpAnyM_take (i := 9) (v := ?_) rfl (by kernel_rfl) (by kernel_rfl) (by kernel_rfl) (by kernel_rfl) (fun _ _ _ h => h) (Or.inl ⟨by rfl, ?_⟩) hS9 ?_
  rotate_left
  · intro w hSw; (try dsimp only at hSw); go_simp; (try with_reducible rfl)
  simp only [Act.put, List.getElem_toArray, List.getElem_cons_zero, List.getElem_cons_succ, List.setIfInBounds_toArray, List.set_cons_zero, List.set_cons_succ]
  refine wpAnyM_take (i := 10) (v := ?_) rfl (by kernel_rfl) (by kernel_rfl) (by kernel_rfl) (by kernel_rfl) (fun _ _ _ h => h) (Or.inl ⟨by rfl, ?_⟩) hS9 ?_
  rotate_left
  · intro w hSw; (try dsimp only at hSw); go_simp; (try with_reducible rfl)
  simp only [Act.put, List.getElem_toArray, List.getElem_cons_zero, List.getElem_cons_succ, List.setIfInBounds_toArray, List.set_cons_zero, List.set_cons_succ]
  refine wpAnyM_take (i := 12) (v := ?_) rfl (by kernel_rfl) (by kernel_rfl) (by kernel_rfl) (by kernel_rfl) (fun _ _ _ h => h) (Or.inl ⟨by rfl, ?_⟩) hS9 ?_
  rotate_left
  · intro w hSw; (try dsimp only at hSw); go_simp; (try with_reducible rfl)
  simp only [Act.put, List.getElem_toArray, List.getElem_cons_zero, List.getElem_cons_succ, List.setIfInBounds_toArray, List.set_cons_zero, List.set_cons_succ]
  refine wpAnyM_take (i := 13) (v := ?_) rfl (by kernel_rfl) (by kernel_rfl) (by kernel_rfl) (by kernel_rfl) (fun _ _ _ h => h) (Or.inl ⟨by rfl, ?_⟩) hS9 ?_
  rotate_left
  · intro w hSw; (try dsimp only at hSw); go_simp; (try with_reducible rfl)
  simp only [Act.put, List.getElem_toArray, List.getElem_cons_zero, List.getElem_cons_succ, List.setIfInBounds_toArray, List.set_cons_zero, List.set_cons_succ]
  refine wpAnyM_one (i := 11) (by kernel_rfl) rfl (fun K hK => ?_)
  go_simp
  go_wp2_with (go_at_call 22; (with_reducible refine (KC.out.2.1 _ hB9).mono ?_); rintro e w10 ⟨rfl, rfl⟩)
  refine hK.out _ _ (fun _ => hS9) ?_
  clear hK K
  refine wpAnyM_take (i := 14) (v := .bool false) rfl (by kernel_rfl) (by kernel_rfl) (by kernel_rfl) (by kernel_rfl) (fun _ _ _ h => h) (Or.inl ⟨by rfl, ?_⟩) hS9 ?_
  · intro w hSw; (try dsimp only at hSw); go_simp; (try simp)
  simp only [Act.put, List.getElem_toArray, List.getElem_cons_zero, List.getElem_cons_succ, List.setIfInBounds_toArray, List.set_cons_zero, List.set_cons_succ]
  refine wpAnyM_take (i := 15) (v := ?_) rfl (by kernel_rfl) (by kernel_rfl) (by kernel_rfl) (by kernel_rfl) (fun _ _ _ h => h) (Or.inl ⟨by rfl, ?_⟩) hS9 ?_
  rotate_left
  · intro w hSw; (try dsimp only at hSw); go_simp; (try with_reducible rfl)
  simp only [Act.put, List.getElem_toArray, List.getElem_cons_zero, List.getElem_cons_succ, List.setIfInBounds_toArray, List.set_cons_zero, List.set_cons_succ]
  refine wpAnyM_take (i := 16) (v := ?_) rfl (by kernel_rfl) (by kernel_rfl) (by kernel_rfl) (by kernel_rfl) (fun _ _ _ h => h) (Or.inl ⟨by rfl, ?_⟩) hS9 ?_
  rotate_left
  · intro w hSw; (try dsimp only at hSw); go_simp; (try with_reducible rfl)
  simp only [Act.put, List.getElem_toArray, List.getElem_cons_zero, List.getElem_cons_succ, List.setIfInBounds_toArray, List.set_cons_zero, List.set_cons_succ]
  refine wpAnyM_take (i := 17) (v := ?_) rfl (by kernel_rfl) (by kernel_rfl) (by kernel_rfl) (by kernel_rfl) (fun _ _ _ h => h) (Or.inl ⟨by rfl, ?_⟩) hS9 ?_
  rotate_left
  · intro w hSw; (try dsimp only at hSw); go_simp; (try with_reducible rfl)
  simp only [Act.put, List.getElem_toArray, List.getElem_cons_zero, List.getElem_cons_succ, List.setIfInBounds_toArray, List.set_cons_zero, List.set_cons_succ]
  refine wpAnyM_take (i := 19) (v := ?_) rfl (by kernel_rfl) (by kernel_rfl) (by kernel_rfl) (by kernel_rfl) (fun _ _ _ h => h) (Or.inl ⟨by rfl, ?_⟩) hS9 ?_
  rotate_left
  · intro w hSw; (try dsimp only at hSw); go_simp; (try with_reducible rfl)
  simp only [Act.put, List.getElem_toArray, List.getElem_cons_zero, List.getElem_cons_succ, List.setIfInBounds_toArray, List.set_cons_zero, List.set_cons_succ]
  refine wpAnyM_one (i := 18) (by kernel_rfl) rfl (fun K hK => ?_)
  go_simp
  go_wp2_with (go_at_call 23; (with_reducible refine (KC.out.2.2.1 _ hB9).mono ?_); rintro e w11 ⟨rfl, hbn⟩)
  have hB11 : Below W8.heap.size W8 w11 := hB9.trans (lower' hbn hB9.size)
  have hS11 := KS.out w11 hB11
  refine hK.out _ _ (fun _ => hS11) ?_
  clear hK K
  refine wpAnyM_one (i := 20) (by kernel_rfl) rfl (fun K hK => ?_)
  go_simp
  go_wp2_with (go_at_call 24; (with_reducible refine (KC.out.2.2.2 _ hB11).mono ?_); rintro e w12 ⟨rfl, hbn⟩)
  have hB12 : Below W8.heap.size W8 w12 := hB11.trans (lower' hbn hB11.size)
  have hS12 := KS.out w12 hB12
  refine hK.out _ _ (fun _ => hS12) ?_
  clear hK K
  refine wpAnyM_take (i := 21) (v := .bool false) rfl (by kernel_rfl) (by kernel_rfl) (by kernel_rfl) (by kernel_rfl) (fun _ _ _ h => h) (Or.inl ⟨by rfl, ?_⟩) hS12 ?_
  · intro w hSw; (try dsimp only at hSw); go_simp; (try simp)
  simp only [Act.put, List.getElem_toArray, List.getElem_cons_zero, List.getElem_cons_succ, List.setIfInBounds_toArray, List.set_cons_zero, List.set_cons_succ]
  refine wpAnyM_value (i := 22) (v := ?_) rfl (by kernel_rfl) (by kernel_rfl) (by kernel_rfl) (by kernel_rfl) (fun _ _ _ h => h) (Or.inl ⟨by rfl, ?_⟩) ?_
  rotate_left
  · intro w hSw; go_simp; (try with_reducible rfl)
  simp only [Act.put, List.getElem_toArray, List.getElem_cons_zero, List.getElem_cons_succ, List.setIfInBounds_toArray, List.set_cons_zero, List.set_cons_succ]
  refine wpAnyM_done (by kernel_rfl) ?_ _
  show K _ _
  exact HK.out _ _ _ _ _ _ _ _ _ _ _ _ _ _ _ _ _ _ _ _ _ _ _ (HH.out.kept hB12)
end Go.Proofs.Ytajakmfloeefpaa
