/- Joined: LogAI0 LogAI1 LogAJ. -/
import Derived.Test.YtajakmfloeefpaaLogAH
import Derived.Test.YtajakmfloeefpaaJnJ
/- The document's Append: region 27 (the record is put behind the others). -/
namespace Go.Proofs.Ytajakmfloeefpaa
open Go.RowKit Go.Maps

def findReg (k : Nat) : Code → Option Code
  | .region n ops d => if n == k then some (.region n ops d) else none
  | .seq a b => match findReg k a with
    | some c => some c
    | none => findReg k b
  | .block _ c => findReg k c
  | .loop c => findReg k c
  | .scope c => findReg k c
  | .cond _ a b => match findReg k a with
    | some c => some c
    | none => findReg k b
  | _ => none
/-- Whoever does not leave a statement but at its end does not, whatever is asked of a way out. -/
theorem wp_noway {P : Program} {c : Code} {K : Act → World → Prop} {Q : Exit → Act → World → Prop} {a : Act} {w : World} (h : Code.wp P c (Exit.then K (fun _ _ _ => False)) a w) : Code.wp P c (Exit.then K Q) a w := by
  refine Code.wp_mono ?_ h
  intro e a' w' hq
  cases e with
  | normal => exact hq
  | exit id => exact hq.elim
  | goto l => exact hq.elim
  | ret => exact hq.elim
  | panic ch => exact hq.elim
  | outgrown => exact hq.elim
noncomputable def apReg27 : Code := ((Try.f10.body.bind (findReg 27)).getD .skip)
set_option maxRecDepth 1000000 in
set_option maxHeartbeats 4000000 in
theorem ra27 {w w13 : World} {X : List Nat} {M : DM} {lo c next : Nat} {A : Option Addr} {R : List Rec} {first C : Int} {d : List UInt8} {K : Act → World → Prop} (HX : Hid (ApX w w13 X M lo A c R first C (next : Int))) (hn : R.length ≤ 100000)
    (u0 u1 u3 u5 u6 u7 u8 u9 u10 u11 u12 u13 u14 u15 u16 u17 u18 u19 u20 u21 u22 u23 u24 u25 u26 u27 u28 u29 u30 u31 u32 u33 u34 u35 u36 u37 u38 u39 u40 u41 u42 u43 u44 u45 u46 u47 u48 u49 u50 u51 u52 u53 u54 u55 u56 u57 u58 u59 u60 u61 u62 u63 u64 u65 u66 u67 u68 u69 u70 u71 u72 u73 u74 u75 u76 u77 u78 u79 u80 u81 u82 u83 u84 u85 u86 u87 u88 u89 u90 u91 u92 u93 u94 u95 u96 u97 u98 u99 u100 u101 u102 u103 u104 u105 u106 u107 u108 u109 u110 u111 u112 u113 u114 u115 u116 u117 u118 u119 u120 u121 u122 u123 u124 u125 u126 u127 : Value)
    (hK0 : ∀ (A6 : Option Addr) (c6 : Nat) (w6 : World) (v111 v112 v113 v114 v115 v116 v117 v118 v119 v120 v121 : Value), w6.ownsRow w13.heap.size 80 2 (.slice A6 (R.length + 1) c6) (R.length + 1) (recS (R ++ [(next, d)])) → Below w13.heap.size w13 w6 → K ⟨#[u0, u1, .string ⟨d.toArray⟩, u3, .pointer (some ⟨w.heap.size + 1, 0, none⟩), u5, u6, u7, u8, u9, u10, u11, u12, u13, u14, u15, u16, u17, u18, u19, u20, u21, u22, u23, u24, u25, u26, u27, u28, u29, u30, u31, u32, u33, u34, u35, u36, u37, u38, u39, u40, u41, u42, u43, u44, u45, u46, u47, u48, u49, u50, u51, u52, u53, u54, u55, u56, u57, u58, u59, u60, u61, u62, u63, u64, u65, u66, u67, u68, u69, u70, u71, u72, u73, u74, u75, u76, u77, u78, u79, u80, u81, u82, u83, u84, u85, u86, u87, u88, u89, u90, u91, u92, u93, u94, u95, u96, u97, u98, u99, u100, u101, u102, u103, u104, u105, u106, u107, u108, u109, u110, v111, v112, v113, v114, v115, v116, v117, v118, v119, v120, v121, u122, u123, u124, u125, u126, u127], []⟩ (w6.setCell ⟨w.heap.size + 1, 2, none⟩ (.slice A6 (R.length + 1) c6))) :
    Code.wp Try.prog apReg27 (Exit.then K (fun _ _ _ => False)) ⟨#[u0, u1, .string ⟨d.toArray⟩, u3, .pointer (some ⟨w.heap.size + 1, 0, none⟩), u5, u6, u7, u8, u9, u10, u11, u12, u13, u14, u15, u16, u17, u18, u19, u20, u21, u22, u23, u24, u25, u26, u27, u28, u29, u30, u31, u32, u33, u34, u35, u36, u37, u38, u39, u40, u41, u42, u43, u44, u45, u46, u47, u48, u49, u50, u51, u52, u53, u54, u55, u56, u57, u58, u59, u60, u61, u62, u63, u64, u65, u66, u67, u68, u69, u70, u71, u72, u73, u74, u75, u76, u77, u78, u79, u80, u81, u82, u83, u84, u85, u86, u87, u88, u89, u90, u91, u92, u93, u94, u95, u96, u97, u98, u99, u100, u101, u102, u103, u104, u105, u106, u107, u108, u109, u110, u111, u112, u113, u114, u115, u116, u117, u118, u119, u120, u121, u122, u123, u124, u125, u126, u127], []⟩ w13 := by
  conv => arg 2; whnf
  have HK := Lib.hid hK0
  clear hK0
  have hsa : ∀ WW, Below w13.heap.size w13 WW → WW.cell? ⟨w.heap.size + 1, 2, none⟩ = some (.slice A R.length c) ∧ WW.cell? ⟨w.heap.size + 1, 3, none⟩ = some (.int .i64 (next : Int)) := fun WW hW => by
    have g2 := (hW.block _ (heap_lt HX.out.log)).trans HX.out.log
    exact ⟨cell_of_row _ _ 2 _ _ _ g2, cell_of_row _ _ 3 _ _ _ g2⟩
  have KS := Lib.hid hsa
  clear hsa
  have hS0 := KS.out w13.drew (Below.refl _ _).drew
  have HRD := Lib.hid (Rd.ofOwn HX.out.recs)
  refine wp_region_M (fun j => decide (j < 10)) (fun w' => w'.cell? ⟨w.heap.size + 1, 2, none⟩ = some (.slice A R.length c) ∧ w'.cell? ⟨w.heap.size + 1, 3, none⟩ = some (.int .i64 (next : Int))) (by kernel_rfl) ?_
  refine wpAnyM_take (i := 1) (v := ?_) rfl (by kernel_rfl) (by kernel_rfl) (by kernel_rfl) (by kernel_rfl) (fun _ _ _ h => h) (Or.inl ⟨by rfl, ?_⟩) hS0 ?_
  rotate_left
  · intro w hSw; (try dsimp only at hSw); go_simp; (try with_reducible rfl)
  simp only [Act.put, List.getElem_toArray, List.getElem_cons_zero, List.getElem_cons_succ, List.setIfInBounds_toArray, List.set_cons_zero, List.set_cons_succ]
  refine wpAnyM_take (i := 2) (v := ?_) rfl (by kernel_rfl) (by kernel_rfl) (by kernel_rfl) (by kernel_rfl) (fun _ _ _ h => h) (Or.inl ⟨by rfl, ?_⟩) hS0 ?_
  rotate_left
  · intro w hSw; (try dsimp only at hSw); go_simp; (try with_reducible rfl)
  simp only [Act.put, List.getElem_toArray, List.getElem_cons_zero, List.getElem_cons_succ, List.setIfInBounds_toArray, List.set_cons_zero, List.set_cons_succ]
  refine wpAnyM_take (i := 4) (v := ?_) rfl (by kernel_rfl) (by kernel_rfl) (by kernel_rfl) (by kernel_rfl) (fun _ _ _ h => h) (Or.inl ⟨by rfl, ?_⟩) hS0 ?_
  rotate_left
  · intro w hSw; (try dsimp only at hSw); go_simp; (try with_reducible rfl)
  simp only [Act.put, List.getElem_toArray, List.getElem_cons_zero, List.getElem_cons_succ, List.setIfInBounds_toArray, List.set_cons_zero, List.set_cons_succ]
  refine wpAnyM_take (i := 5) (v := ?_) rfl (by kernel_rfl) (by kernel_rfl) (by kernel_rfl) (by kernel_rfl) (fun _ _ _ h => h) (Or.inl ⟨by rfl, ?_⟩) hS0 ?_
  rotate_left
  · intro w hSw; (try dsimp only at hSw); go_simp; (try with_reducible rfl)
  simp only [Act.put, List.getElem_toArray, List.getElem_cons_zero, List.getElem_cons_succ, List.setIfInBounds_toArray, List.set_cons_zero, List.set_cons_succ]
  refine wpAnyM_take (i := 6) (v := ?_) rfl (by kernel_rfl) (by kernel_rfl) (by kernel_rfl) (by kernel_rfl) (fun _ _ _ h => h) (Or.inl ⟨by rfl, ?_⟩) hS0 ?_
  rotate_left
  · intro w hSw; (try dsimp only at hSw); go_simp; (try with_reducible rfl)
  simp only [Act.put, List.getElem_toArray, List.getElem_cons_zero, List.getElem_cons_succ, List.setIfInBounds_toArray, List.set_cons_zero, List.set_cons_succ]
  refine wpAnyM_take (i := 7) (v := ?_) rfl (by kernel_rfl) (by kernel_rfl) (by kernel_rfl) (by kernel_rfl) (fun _ _ _ h => h) (Or.inl ⟨by rfl, ?_⟩) hS0 ?_
  rotate_left
  · intro w hSw; (try dsimp only at hSw); go_simp; (try with_reducible rfl)
  simp only [Act.put, List.getElem_toArray, List.getElem_cons_zero, List.getElem_cons_succ, List.setIfInBounds_toArray, List.set_cons_zero, List.set_cons_succ]
  refine wpAnyM_two (i := 0) (j := 8) (by kernel_rfl) rfl rfl (fun K' hK => ?_) (fun K' hK => ?_)
  · skip
    go_simp
    refine hK.out _ _ (fun _ => KS.out _ ((Below.refl _ _).alloc (Nat.le_refl _) _).drew) ?_
    clear hK K'
    refine wpAnyM_two (i := 3) (j := 8) (by kernel_rfl) rfl rfl (fun K' hK => ?_) (fun K' hK => ?_)
    · skip
      obtain ⟨A5, c5, w5, A6, c6, w6, hrun5, hrun6, hown6, hb6, hb5⟩ := order1d (A := A) (c := c) (W := w13) HRD.out (Nat.le_refl _) hn next d
      refine step_appK _ (by rfl) (.tmp 111) (.tmp 113) 40 rfl rfl _ _ _ _ rfl rfl hrun5 ?_
      refine hK.out _ _ (fun _ => KS.out _ hb5) ?_
      clear hK K'
      refine wpAnyM_one (i := 8) (by kernel_rfl) rfl (fun K' hK => ?_)
      go_simp
      refine hK.out _ _ (fun _ => KS.out _ (hb5.alloc hb5.size _)) ?_
      clear hK K'
      refine wpAnyM_one (i := 9) (by kernel_rfl) rfl (fun K' hK => ?_)
      refine step_appK _ (by rfl) (.tmp 114) (.tmp 119) 40 rfl rfl _ _ _ _ rfl rfl hrun6 ?_
      refine hK.out _ _ (fun _ => KS.out _ hb6) ?_
      clear hK K'
      have hlg6 := (hb6.block _ (heap_lt HX.out.log)).trans HX.out.log
      have k0 := cell_of_row w6 (w.heap.size + 1) 0 _ _ _ hlg6; have k1 := cell_of_row w6 (w.heap.size + 1) 1 _ _ _ hlg6; have k2 := cell_of_row w6 (w.heap.size + 1) 2 _ _ _ hlg6; have k3 := cell_of_row w6 (w.heap.size + 1) 3 _ _ _ hlg6; have kf0 := frozen_of_row w6 (w.heap.size + 1) 0 _ _ hlg6; have kf1 := frozen_of_row w6 (w.heap.size + 1) 1 _ _ hlg6; have kf2 := frozen_of_row w6 (w.heap.size + 1) 2 _ _ hlg6; have kf3 := frozen_of_row w6 (w.heap.size + 1) 3 _ _ hlg6
      refine wpAnyM_value (i := 10) (v := ?_) rfl (by kernel_rfl) (by kernel_rfl) (by kernel_rfl) (by kernel_rfl) (fun _ _ _ h => h) (Or.inl ⟨by rfl, ?_⟩) ?_
      rotate_left
      · intro w hSw; go_simp; (try with_reducible rfl)
      simp only [Act.put, List.getElem_toArray, List.getElem_cons_zero, List.getElem_cons_succ, List.setIfInBounds_toArray, List.set_cons_zero, List.set_cons_succ]
      refine wpAnyM_one (i := 11) (by kernel_rfl) rfl (fun K' hK => ?_)
      go_simp
      refine hK.out _ _ (fun h => absurd h (by decide)) ?_
      clear hK K'
      refine wpAnyM_done (by kernel_rfl) ?_ _
      show K _ _
      exact HK.out A6 c6 w6 _ _ _ _ _ _ _ _ _ _ _ hown6 hb6
    · skip
      go_simp
      refine hK.out _ _ (fun _ => KS.out _ (((Below.refl _ _).alloc (Nat.le_refl _) _).alloc (by simp) _).drew) ?_
      clear hK K'
      refine wpAnyM_one (i := 3) (by kernel_rfl) rfl (fun K' hK => ?_)
      obtain ⟨A5, c5, w5, A6, c6, w6, hrun5, hrun6, hown6, hb6, hb5⟩ := order2d (A := A) (c := c) (W := w13) HRD.out (Nat.le_refl _) hn next d
      refine step_appK _ (by rfl) (.tmp 111) (.tmp 113) 40 rfl rfl _ _ _ _ rfl rfl hrun5 ?_
      refine hK.out _ _ (fun _ => KS.out _ hb5) ?_
      clear hK K'
      refine wpAnyM_one (i := 9) (by kernel_rfl) rfl (fun K' hK => ?_)
      refine step_appK _ (by rfl) (.tmp 114) (.tmp 119) 40 rfl rfl _ _ _ _ rfl rfl hrun6 ?_
      refine hK.out _ _ (fun _ => KS.out _ hb6) ?_
      clear hK K'
      have hlg6 := (hb6.block _ (heap_lt HX.out.log)).trans HX.out.log
      have k0 := cell_of_row w6 (w.heap.size + 1) 0 _ _ _ hlg6; have k1 := cell_of_row w6 (w.heap.size + 1) 1 _ _ _ hlg6; have k2 := cell_of_row w6 (w.heap.size + 1) 2 _ _ _ hlg6; have k3 := cell_of_row w6 (w.heap.size + 1) 3 _ _ _ hlg6; have kf0 := frozen_of_row w6 (w.heap.size + 1) 0 _ _ hlg6; have kf1 := frozen_of_row w6 (w.heap.size + 1) 1 _ _ hlg6; have kf2 := frozen_of_row w6 (w.heap.size + 1) 2 _ _ hlg6; have kf3 := frozen_of_row w6 (w.heap.size + 1) 3 _ _ hlg6
      refine wpAnyM_value (i := 10) (v := ?_) rfl (by kernel_rfl) (by kernel_rfl) (by kernel_rfl) (by kernel_rfl) (fun _ _ _ h => h) (Or.inl ⟨by rfl, ?_⟩) ?_
      rotate_left
      · intro w hSw; go_simp; (try with_reducible rfl)
      simp only [Act.put, List.getElem_toArray, List.getElem_cons_zero, List.getElem_cons_succ, List.setIfInBounds_toArray, List.set_cons_zero, List.set_cons_succ]
      refine wpAnyM_one (i := 11) (by kernel_rfl) rfl (fun K' hK => ?_)
      go_simp
      refine hK.out _ _ (fun h => absurd h (by decide)) ?_
      clear hK K'
      refine wpAnyM_done (by kernel_rfl) ?_ _
      show K _ _
      exact HK.out A6 c6 w6 _ _ _ _ _ _ _ _ _ _ _ hown6 hb6
  · skip
    go_simp
    refine hK.out _ _ (fun _ => KS.out _ ((Below.refl _ _).alloc (Nat.le_refl _) _).drew) ?_
    clear hK K'
    refine wpAnyM_one (i := 0) (by kernel_rfl) rfl (fun K' hK => ?_)
    go_simp
    refine hK.out _ _ (fun _ => KS.out _ (((Below.refl _ _).alloc (Nat.le_refl _) _).alloc (by simp) _).drew) ?_
    clear hK K'
    refine wpAnyM_one (i := 3) (by kernel_rfl) rfl (fun K' hK => ?_)
    obtain ⟨A5, c5, w5, A6, c6, w6, hrun5, hrun6, hown6, hb6, hb5⟩ := order3d (A := A) (c := c) (W := w13) HRD.out (Nat.le_refl _) hn next d
    refine step_appK _ (by rfl) (.tmp 111) (.tmp 113) 40 rfl rfl _ _ _ _ rfl rfl hrun5 ?_
    refine hK.out _ _ (fun _ => KS.out _ hb5) ?_
    clear hK K'
    refine wpAnyM_one (i := 9) (by kernel_rfl) rfl (fun K' hK => ?_)
    refine step_appK _ (by rfl) (.tmp 114) (.tmp 119) 40 rfl rfl _ _ _ _ rfl rfl hrun6 ?_
    refine hK.out _ _ (fun _ => KS.out _ hb6) ?_
    clear hK K'
    have hlg6 := (hb6.block _ (heap_lt HX.out.log)).trans HX.out.log
    have k0 := cell_of_row w6 (w.heap.size + 1) 0 _ _ _ hlg6; have k1 := cell_of_row w6 (w.heap.size + 1) 1 _ _ _ hlg6; have k2 := cell_of_row w6 (w.heap.size + 1) 2 _ _ _ hlg6; have k3 := cell_of_row w6 (w.heap.size + 1) 3 _ _ _ hlg6; have kf0 := frozen_of_row w6 (w.heap.size + 1) 0 _ _ hlg6; have kf1 := frozen_of_row w6 (w.heap.size + 1) 1 _ _ hlg6; have kf2 := frozen_of_row w6 (w.heap.size + 1) 2 _ _ hlg6; have kf3 := frozen_of_row w6 (w.heap.size + 1) 3 _ _ hlg6
    refine wpAnyM_value (i := 10) (v := ?_) rfl (by kernel_rfl) (by kernel_rfl) (by kernel_rfl) (by kernel_rfl) (fun _ _ _ h => h) (Or.inl ⟨by rfl, ?_⟩) ?_
    rotate_left
    · intro w hSw; go_simp; (try with_reducible rfl)
    simp only [Act.put, List.getElem_toArray, List.getElem_cons_zero, List.getElem_cons_succ, List.setIfInBounds_toArray, List.set_cons_zero, List.set_cons_succ]
    refine wpAnyM_one (i := 11) (by kernel_rfl) rfl (fun K' hK => ?_)
    go_simp
    refine hK.out _ _ (fun h => absurd h (by decide)) ?_
    clear hK K'
    refine wpAnyM_done (by kernel_rfl) ?_ _
    show K _ _
    exact HK.out A6 c6 w6 _ _ _ _ _ _ _ _ _ _ _ hown6 hb6
end Go.Proofs.Ytajakmfloeefpaa
/- The document's Append: its ways out. -/
namespace Go.Proofs.Ytajakmfloeefpaa
open Go.RowKit Go.Maps

def OnlyRet (K : Act → World → Prop) : Exit → Act → World → Prop
  | .ret, a, w => K a w
  | _, _, _ => False
theorem wp_onlyret {P : Program} {c : Code} {Q : Exit → Act → World → Prop} {a : Act} {w : World} (h : Code.wp P c (OnlyRet (fun a w => Q .ret a w)) a w) : Code.wp P c Q a w := by
  refine Code.wp_mono ?_ h
  intro e a' w' hq
  cases e with
  | normal => exact hq.elim
  | exit id => exact hq.elim
  | goto l => exact hq.elim
  | ret => exact hq
  | panic ch => exact hq.elim
  | outgrown => exact hq.elim
/-- What is asked of the end is put aside. -/
theorem onlyret_k {P : Program} {c : Code} {Q : Exit → Act → World → Prop} {K9 : Act → World → Prop} (h : ∀ a w, Code.wp P c Q a w → K9 a w) : ∃ KR : Act → World → Prop, Hid (∀ a w, Q .ret a w → KR a w) ∧ ∀ a w, Code.wp P c (OnlyRet KR) a w → K9 a w :=
  ⟨fun a w => Q .ret a w, Lib.hid fun _ _ h => h, fun a w h1 => h a w (wp_onlyret h1)⟩
noncomputable def apReg29 : Code := ((Try.f10.body.bind (findReg 29)).getD .skip)
set_option maxRecDepth 1000000 in
set_option maxHeartbeats 4000000 in
theorem ra29 {w w14 : World} {X : List Nat} {M : DM} {lo c : Nat} {A : Option Addr} {R : List Rec} {first C next : Int} {K : Act → World → Prop} (HX : Hid (ApX w w14 X M lo A c R first C next)) (hs0 : ∀ s ∈ (Value.slice A R.length c).ownBlock.toList, s ∉ [w.heap.size + 2, w.heap.size + 3])
    (u0 u1 u2 u5 u8 u9 u10 u11 u12 u13 u14 u15 u16 u17 u18 u19 u20 u21 u22 u23 u24 u25 u26 u27 u28 u29 u30 u31 u32 u33 u34 u35 u36 u37 u38 u39 u40 u41 u42 u43 u44 u45 u46 u47 u48 u49 u50 u51 u52 u53 u54 u55 u56 u57 u58 u59 u60 u61 u62 u63 u64 u65 u66 u67 u68 u69 u70 u71 u72 u73 u74 u75 u76 u77 u78 u79 u80 u81 u82 u83 u84 u85 u86 u87 u88 u89 u90 u91 u92 u93 u94 u95 u96 u97 u98 u99 u100 u101 u102 u103 u104 u105 u106 u107 u108 u109 u110 u111 u112 u113 u114 u115 u116 u117 u118 u119 u120 u121 u122 u123 u124 u125 u126 u127 : Value)
    (hK0 : ∀ (Q1 Q2 Q3 : Option Addr) (q1 q2 q3 g1 g2 g3 : Nat) (sq lq : Int) (v126 v127 : Value) (w9 : World), w9.heap[w.heap.size + 2]? = some (.cells #[.slice Q1 q1 g1, .slice Q2 q2 g2, .slice Q3 q3 g3, .int .i64 sq, .int .i64 lq] 33 (0, 0)) → w9.heap[w.heap.size + 3]? = some (.cells #[.int .i64 first, .int .i64 C, .slice A R.length c, .int .i64 next] 42 (0, 0)) → RefV w9 X (refOf M) (.agg #[.slice Q1 q1 g1, .slice Q2 q2 g2, .slice Q3 q3 g3, .int .i64 sq, .int .i64 lq]) → w9.ownsRow lo 80 2 (.slice A R.length c) R.length (recS R) → Below w.heap.size w w9 → K ⟨#[u0, u1, u2, .pointer (some ⟨w.heap.size, 0, none⟩), .pointer (some ⟨w.heap.size + 1, 0, none⟩), u5, .pointer (some ⟨w.heap.size + 2, 0, none⟩), .pointer (some ⟨w.heap.size + 3, 0, none⟩), .int .i64 0, u9, u10, u11, u12, u13, u14, u15, u16, u17, u18, u19, u20, u21, u22, u23, u24, u25, u26, u27, u28, u29, u30, u31, u32, u33, u34, u35, u36, u37, u38, u39, u40, u41, u42, u43, u44, u45, u46, u47, u48, u49, u50, u51, u52, u53, u54, u55, u56, u57, u58, u59, u60, u61, u62, u63, u64, u65, u66, u67, u68, u69, u70, u71, u72, u73, u74, u75, u76, u77, u78, u79, u80, u81, u82, u83, u84, u85, u86, u87, u88, u89, u90, u91, u92, u93, u94, u95, u96, u97, u98, u99, u100, u101, u102, u103, u104, u105, u106, u107, u108, u109, u110, u111, u112, u113, u114, u115, u116, u117, u118, u119, u120, u121, u122, u123, u124, u125, v126, v127], []⟩ w9) :
    Code.wp Try.prog apReg29 (Exit.then K (fun _ _ _ => False)) ⟨#[u0, u1, u2, .pointer (some ⟨w.heap.size, 0, none⟩), .pointer (some ⟨w.heap.size + 1, 0, none⟩), u5, .pointer (some ⟨w.heap.size + 2, 0, none⟩), .pointer (some ⟨w.heap.size + 3, 0, none⟩), u8, u9, u10, u11, u12, u13, u14, u15, u16, u17, u18, u19, u20, u21, u22, u23, u24, u25, u26, u27, u28, u29, u30, u31, u32, u33, u34, u35, u36, u37, u38, u39, u40, u41, u42, u43, u44, u45, u46, u47, u48, u49, u50, u51, u52, u53, u54, u55, u56, u57, u58, u59, u60, u61, u62, u63, u64, u65, u66, u67, u68, u69, u70, u71, u72, u73, u74, u75, u76, u77, u78, u79, u80, u81, u82, u83, u84, u85, u86, u87, u88, u89, u90, u91, u92, u93, u94, u95, u96, u97, u98, u99, u100, u101, u102, u103, u104, u105, u106, u107, u108, u109, u110, u111, u112, u113, u114, u115, u116, u117, u118, u119, u120, u121, u122, u123, u124, u125, u126, u127], []⟩ w14 := by
  conv => arg 2; whnf
  have HK := Lib.hid hK0
  clear hK0
  obtain ⟨Q1, Q2, Q3, q1, q2, q3, g1, g2, g3, sq, lq, hgq, hvq⟩ := HX.out.box
  have hlg := HX.out.log
  have hr1 := HX.out.res1
  have hr2 := HX.out.res2
  have x0 := cell_of_row w14 (w.heap.size) 0 _ _ _ hgq; have x1 := cell_of_row w14 (w.heap.size) 1 _ _ _ hgq; have x2 := cell_of_row w14 (w.heap.size) 2 _ _ _ hgq; have x3 := cell_of_row w14 (w.heap.size) 3 _ _ _ hgq; have x4 := cell_of_row w14 (w.heap.size) 4 _ _ _ hgq
  have k0 := cell_of_row w14 (w.heap.size + 1) 0 _ _ _ hlg; have k1 := cell_of_row w14 (w.heap.size + 1) 1 _ _ _ hlg; have k2 := cell_of_row w14 (w.heap.size + 1) 2 _ _ _ hlg; have k3 := cell_of_row w14 (w.heap.size + 1) 3 _ _ _ hlg
  have y0 := cell_of_row w14 (w.heap.size + 2) 0 _ _ _ hr1; have y1 := cell_of_row w14 (w.heap.size + 2) 1 _ _ _ hr1; have y2 := cell_of_row w14 (w.heap.size + 2) 2 _ _ _ hr1; have y3 := cell_of_row w14 (w.heap.size + 2) 3 _ _ _ hr1; have y4 := cell_of_row w14 (w.heap.size + 2) 4 _ _ _ hr1
  have yf0 := frozen_of_row w14 (w.heap.size + 2) 0 _ _ hr1; have yf1 := frozen_of_row w14 (w.heap.size + 2) 1 _ _ hr1; have yf2 := frozen_of_row w14 (w.heap.size + 2) 2 _ _ hr1; have yf3 := frozen_of_row w14 (w.heap.size + 2) 3 _ _ hr1; have yf4 := frozen_of_row w14 (w.heap.size + 2) 4 _ _ hr1
  have z0 := cell_of_row w14 (w.heap.size + 3) 0 _ _ _ hr2; have z1 := cell_of_row w14 (w.heap.size + 3) 1 _ _ _ hr2; have z2 := cell_of_row w14 (w.heap.size + 3) 2 _ _ _ hr2; have z3 := cell_of_row w14 (w.heap.size + 3) 3 _ _ _ hr2
  have zf0 := frozen_of_row w14 (w.heap.size + 3) 0 _ _ hr2; have zf1 := frozen_of_row w14 (w.heap.size + 3) 1 _ _ hr2; have zf2 := frozen_of_row w14 (w.heap.size + 3) 2 _ _ hr2; have zf3 := frozen_of_row w14 (w.heap.size + 3) 3 _ _ hr2
  have hdn := ApX.end_ (HX.out.done hvq (.slice Q1 q1 g1) (.slice Q2 q2 g2) (.slice Q3 q3 g3) (.int .i64 sq) (.int .i64 lq) (.int .i64 first) (.int .i64 C) (.slice A R.length c) (.int .i64 next)) HX.out.recs hs0
  have HDN := Lib.hid hdn
  have hsa : ∀ WW, Below w14.heap.size w14 WW → (WW.cell? ⟨w.heap.size, 0, none⟩ = some (.slice Q1 q1 g1) ∧ WW.cell? ⟨w.heap.size, 1, none⟩ = some (.slice Q2 q2 g2) ∧ WW.cell? ⟨w.heap.size, 2, none⟩ = some (.slice Q3 q3 g3) ∧ WW.cell? ⟨w.heap.size, 3, none⟩ = some (.int .i64 sq) ∧ WW.cell? ⟨w.heap.size, 4, none⟩ = some (.int .i64 lq)) ∧ WW.cell? ⟨w.heap.size + 1, 0, none⟩ = some (.int .i64 first) ∧ WW.cell? ⟨w.heap.size + 1, 1, none⟩ = some (.int .i64 C) ∧ WW.cell? ⟨w.heap.size + 1, 2, none⟩ = some (.slice A R.length c) ∧ WW.cell? ⟨w.heap.size + 1, 3, none⟩ = some (.int .i64 next) := fun WW hW => by
    have g1 := (hW.block _ (heap_lt hgq)).trans hgq
    have g2 := (hW.block _ (heap_lt hlg)).trans hlg
    exact ⟨⟨cell_of_row _ _ 0 _ _ _ g1, cell_of_row _ _ 1 _ _ _ g1, cell_of_row _ _ 2 _ _ _ g1, cell_of_row _ _ 3 _ _ _ g1, cell_of_row _ _ 4 _ _ _ g1⟩, cell_of_row _ _ 0 _ _ _ g2, cell_of_row _ _ 1 _ _ _ g2, cell_of_row _ _ 2 _ _ _ g2, cell_of_row _ _ 3 _ _ _ g2⟩
  have HSA := Lib.hid (hsa w14.drew (Below.refl _ _).drew)
  have hf5 := (fr5 w14 (w.heap.size + 2) (.slice Q1 q1 g1) (.slice Q2 q2 g2) (.slice Q3 q3 g3) (.int .i64 sq) (.int .i64 lq)).drew
  have hx5 := (hf5.block _ (heap_lt hgq) (by simp)).trans hgq
  have hl5 := (hf5.block _ (heap_lt hlg) (by simp)).trans hlg
  have HSB := Lib.hid (And.intro (And.intro (cell_of_row _ _ 0 _ _ _ hx5) (And.intro (cell_of_row _ _ 1 _ _ _ hx5) (And.intro (cell_of_row _ _ 2 _ _ _ hx5) (And.intro (cell_of_row _ _ 3 _ _ _ hx5) (cell_of_row _ _ 4 _ _ _ hx5))))) (And.intro (cell_of_row _ _ 0 _ _ _ hl5) (And.intro (cell_of_row _ _ 1 _ _ _ hl5) (And.intro (cell_of_row _ _ 2 _ _ _ hl5) (cell_of_row _ _ 3 _ _ _ hl5)))))
  have hf6 := (HX.out.done hvq (.slice Q1 q1 g1) (.slice Q2 q2 g2) (.slice Q3 q3 g3) (.int .i64 sq) (.int .i64 lq) (.int .i64 first) (.int .i64 C) (.slice A R.length c) (.int .i64 next)).2.2.2.2.drew
  have hx6 := (hf6.block _ (heap_lt hgq) (by simp)).trans hgq
  have hl6 := (hf6.block _ (heap_lt hlg) (by simp)).trans hlg
  have HSD := Lib.hid (And.intro (And.intro (cell_of_row _ _ 0 _ _ _ hx6) (And.intro (cell_of_row _ _ 1 _ _ _ hx6) (And.intro (cell_of_row _ _ 2 _ _ _ hx6) (And.intro (cell_of_row _ _ 3 _ _ _ hx6) (cell_of_row _ _ 4 _ _ _ hx6))))) (And.intro (cell_of_row _ _ 0 _ _ _ hl6) (And.intro (cell_of_row _ _ 1 _ _ _ hl6) (And.intro (cell_of_row _ _ 2 _ _ _ hl6) (cell_of_row _ _ 3 _ _ _ hl6)))))
  clear hf5 hx5 hl5 hf6 hx6 hl6 hsa hdn hgq hvq hlg hr1 hr2 hs0
  refine wp_region_M (fun j => decide (j < 4)) (fun w' => (w'.cell? ⟨w.heap.size, 0, none⟩ = some (.slice Q1 q1 g1) ∧ w'.cell? ⟨w.heap.size, 1, none⟩ = some (.slice Q2 q2 g2) ∧ w'.cell? ⟨w.heap.size, 2, none⟩ = some (.slice Q3 q3 g3) ∧ w'.cell? ⟨w.heap.size, 3, none⟩ = some (.int .i64 sq) ∧ w'.cell? ⟨w.heap.size, 4, none⟩ = some (.int .i64 lq)) ∧ w'.cell? ⟨w.heap.size + 1, 0, none⟩ = some (.int .i64 first) ∧ w'.cell? ⟨w.heap.size + 1, 1, none⟩ = some (.int .i64 C) ∧ w'.cell? ⟨w.heap.size + 1, 2, none⟩ = some (.slice A R.length c) ∧ w'.cell? ⟨w.heap.size + 1, 3, none⟩ = some (.int .i64 next)) (by kernel_rfl) ?_
  refine wpAnyM_take (i := 0) (v := ?_) rfl (by kernel_rfl) (by kernel_rfl) (by kernel_rfl) (by kernel_rfl) (fun _ _ _ h => h) (Or.inl ⟨by rfl, ?_⟩) HSA.out ?_
  rotate_left
  · intro w hSw; (try dsimp only at hSw); go_simp; (try with_reducible rfl)
  simp only [Act.put, List.getElem_toArray, List.getElem_cons_zero, List.getElem_cons_succ, List.setIfInBounds_toArray, List.set_cons_zero, List.set_cons_succ]
  refine wpAnyM_take (i := 1) (v := ?_) rfl (by kernel_rfl) (by kernel_rfl) (by kernel_rfl) (by kernel_rfl) (fun _ _ _ h => h) (Or.inl ⟨by rfl, ?_⟩) HSA.out ?_
  rotate_left
  · intro w hSw; (try dsimp only at hSw); go_simp; (try with_reducible rfl)
  simp only [Act.put, List.getElem_toArray, List.getElem_cons_zero, List.getElem_cons_succ, List.setIfInBounds_toArray, List.set_cons_zero, List.set_cons_succ]
  refine wpAnyM_one (i := 2) (by kernel_rfl) rfl (fun K' hK => ?_)
  go_simp
  refine hK.out _ _ (fun _ => HSB.out) ?_
  clear hK K'
  refine wpAnyM_one (i := 3) (by kernel_rfl) rfl (fun K' hK => ?_)
  go_simp
  refine hK.out _ _ (fun _ => HSD.out) ?_
  clear hK K'
  refine wpAnyM_value (i := 4) (v := ?_) rfl (by kernel_rfl) (by kernel_rfl) (by kernel_rfl) (by kernel_rfl) (fun _ _ _ h => h) (Or.inl ⟨by rfl, ?_⟩) ?_
  rotate_left
  · intro w hSw; go_simp; (try with_reducible rfl)
  simp only [Act.put, List.getElem_toArray, List.getElem_cons_zero, List.getElem_cons_succ, List.setIfInBounds_toArray, List.set_cons_zero, List.set_cons_succ]
  refine wpAnyM_done (by kernel_rfl) ?_ _
  show K _ _
  exact HK.out Q1 Q2 Q3 q1 q2 q3 g1 g2 g3 sq lq _ _ _ HDN.out.1 HDN.out.2.1 HDN.out.2.2.1 HDN.out.2.2.2.1 HDN.out.2.2.2.2
noncomputable def apReg17 : Code := ((Try.f10.body.bind (findReg 17)).getD .skip)
set_option maxRecDepth 1000000 in
set_option maxHeartbeats 4000000 in
theorem ra17 {w w14 : World} {X : List Nat} {M : DM} {lo c : Nat} {A : Option Addr} {R : List Rec} {first C next : Int} {K : Act → World → Prop} (HX : Hid (ApX w w14 X M lo A c R first C next)) (hs0 : ∀ s ∈ (Value.slice A R.length c).ownBlock.toList, s ∉ [w.heap.size + 2, w.heap.size + 3])
    (u0 u1 u2 u5 u8 u9 u10 u11 u13 u14 u15 u16 u17 u18 u19 u20 u21 u22 u23 u24 u25 u26 u27 u28 u29 u30 u31 u32 u33 u34 u35 u36 u37 u38 u39 u40 u41 u42 u43 u44 u45 u46 u47 u48 u49 u50 u51 u52 u53 u54 u55 u56 u57 u58 u59 u60 u61 u62 u63 u64 u65 u66 u67 u68 u69 u70 u71 u72 u73 u74 u75 u76 u77 u78 u79 u80 u81 u82 u83 u84 u85 u86 u87 u88 u89 u90 u91 u92 u93 u94 u95 u96 u97 u98 u99 u100 u101 u102 u103 u104 u105 u106 u107 u108 u109 u110 u111 u112 u113 u114 u115 u116 u117 u118 u119 u120 u121 u122 u123 u124 u125 u126 u127 : Value)
    (hK0 : ∀ (Q1 Q2 Q3 : Option Addr) (q1 q2 q3 g1 g2 g3 : Nat) (sq lq : Int) (v72 v73 v74 : Value) (w9 : World), w9.heap[w.heap.size + 2]? = some (.cells #[.slice Q1 q1 g1, .slice Q2 q2 g2, .slice Q3 q3 g3, .int .i64 sq, .int .i64 lq] 33 (0, 0)) → w9.heap[w.heap.size + 3]? = some (.cells #[.int .i64 first, .int .i64 C, .slice A R.length c, .int .i64 next] 42 (0, 0)) → RefV w9 X (refOf M) (.agg #[.slice Q1 q1 g1, .slice Q2 q2 g2, .slice Q3 q3 g3, .int .i64 sq, .int .i64 lq]) → w9.ownsRow lo 80 2 (.slice A R.length c) R.length (recS R) → Below w.heap.size w w9 → K ⟨#[u0, u1, u2, .pointer (some ⟨w.heap.size, 0, none⟩), .pointer (some ⟨w.heap.size + 1, 0, none⟩), u5, .pointer (some ⟨w.heap.size + 2, 0, none⟩), .pointer (some ⟨w.heap.size + 3, 0, none⟩), .int .i64 30, u9, u10, u11, .int .i64 30, u13, u14, u15, u16, u17, u18, u19, u20, u21, u22, u23, u24, u25, u26, u27, u28, u29, u30, u31, u32, u33, u34, u35, u36, u37, u38, u39, u40, u41, u42, u43, u44, u45, u46, u47, u48, u49, u50, u51, u52, u53, u54, u55, u56, u57, u58, u59, u60, u61, u62, u63, u64, u65, u66, u67, u68, u69, u70, u71, v72, v73, v74, u75, u76, u77, u78, u79, u80, u81, u82, u83, u84, u85, u86, u87, u88, u89, u90, u91, u92, u93, u94, u95, u96, u97, u98, u99, u100, u101, u102, u103, u104, u105, u106, u107, u108, u109, u110, u111, u112, u113, u114, u115, u116, u117, u118, u119, u120, u121, u122, u123, u124, u125, u126, u127], []⟩ w9) :
    Code.wp Try.prog apReg17 (Exit.then K (fun _ _ _ => False)) ⟨#[u0, u1, u2, .pointer (some ⟨w.heap.size, 0, none⟩), .pointer (some ⟨w.heap.size + 1, 0, none⟩), u5, .pointer (some ⟨w.heap.size + 2, 0, none⟩), .pointer (some ⟨w.heap.size + 3, 0, none⟩), u8, u9, u10, u11, .int .i64 30, u13, u14, u15, u16, u17, u18, u19, u20, u21, u22, u23, u24, u25, u26, u27, u28, u29, u30, u31, u32, u33, u34, u35, u36, u37, u38, u39, u40, u41, u42, u43, u44, u45, u46, u47, u48, u49, u50, u51, u52, u53, u54, u55, u56, u57, u58, u59, u60, u61, u62, u63, u64, u65, u66, u67, u68, u69, u70, u71, u72, u73, u74, u75, u76, u77, u78, u79, u80, u81, u82, u83, u84, u85, u86, u87, u88, u89, u90, u91, u92, u93, u94, u95, u96, u97, u98, u99, u100, u101, u102, u103, u104, u105, u106, u107, u108, u109, u110, u111, u112, u113, u114, u115, u116, u117, u118, u119, u120, u121, u122, u123, u124, u125, u126, u127], []⟩ w14 := by
  conv => arg 2; whnf
  have HK := Lib.hid hK0
  clear hK0
  obtain ⟨Q1, Q2, Q3, q1, q2, q3, g1, g2, g3, sq, lq, hgq, hvq⟩ := HX.out.box
  have hlg := HX.out.log
  have hr1 := HX.out.res1
  have hr2 := HX.out.res2
  have x0 := cell_of_row w14 (w.heap.size) 0 _ _ _ hgq; have x1 := cell_of_row w14 (w.heap.size) 1 _ _ _ hgq; have x2 := cell_of_row w14 (w.heap.size) 2 _ _ _ hgq; have x3 := cell_of_row w14 (w.heap.size) 3 _ _ _ hgq; have x4 := cell_of_row w14 (w.heap.size) 4 _ _ _ hgq
  have k0 := cell_of_row w14 (w.heap.size + 1) 0 _ _ _ hlg; have k1 := cell_of_row w14 (w.heap.size + 1) 1 _ _ _ hlg; have k2 := cell_of_row w14 (w.heap.size + 1) 2 _ _ _ hlg; have k3 := cell_of_row w14 (w.heap.size + 1) 3 _ _ _ hlg
  have y0 := cell_of_row w14 (w.heap.size + 2) 0 _ _ _ hr1; have y1 := cell_of_row w14 (w.heap.size + 2) 1 _ _ _ hr1; have y2 := cell_of_row w14 (w.heap.size + 2) 2 _ _ _ hr1; have y3 := cell_of_row w14 (w.heap.size + 2) 3 _ _ _ hr1; have y4 := cell_of_row w14 (w.heap.size + 2) 4 _ _ _ hr1
  have yf0 := frozen_of_row w14 (w.heap.size + 2) 0 _ _ hr1; have yf1 := frozen_of_row w14 (w.heap.size + 2) 1 _ _ hr1; have yf2 := frozen_of_row w14 (w.heap.size + 2) 2 _ _ hr1; have yf3 := frozen_of_row w14 (w.heap.size + 2) 3 _ _ hr1; have yf4 := frozen_of_row w14 (w.heap.size + 2) 4 _ _ hr1
  have z0 := cell_of_row w14 (w.heap.size + 3) 0 _ _ _ hr2; have z1 := cell_of_row w14 (w.heap.size + 3) 1 _ _ _ hr2; have z2 := cell_of_row w14 (w.heap.size + 3) 2 _ _ _ hr2; have z3 := cell_of_row w14 (w.heap.size + 3) 3 _ _ _ hr2
  have zf0 := frozen_of_row w14 (w.heap.size + 3) 0 _ _ hr2; have zf1 := frozen_of_row w14 (w.heap.size + 3) 1 _ _ hr2; have zf2 := frozen_of_row w14 (w.heap.size + 3) 2 _ _ hr2; have zf3 := frozen_of_row w14 (w.heap.size + 3) 3 _ _ hr2
  have hdn := ApX.end_ (HX.out.done hvq (.slice Q1 q1 g1) (.slice Q2 q2 g2) (.slice Q3 q3 g3) (.int .i64 sq) (.int .i64 lq) (.int .i64 first) (.int .i64 C) (.slice A R.length c) (.int .i64 next)) HX.out.recs hs0
  have HDN := Lib.hid hdn
  have hsa : ∀ WW, Below w14.heap.size w14 WW → (WW.cell? ⟨w.heap.size, 0, none⟩ = some (.slice Q1 q1 g1) ∧ WW.cell? ⟨w.heap.size, 1, none⟩ = some (.slice Q2 q2 g2) ∧ WW.cell? ⟨w.heap.size, 2, none⟩ = some (.slice Q3 q3 g3) ∧ WW.cell? ⟨w.heap.size, 3, none⟩ = some (.int .i64 sq) ∧ WW.cell? ⟨w.heap.size, 4, none⟩ = some (.int .i64 lq)) ∧ WW.cell? ⟨w.heap.size + 1, 0, none⟩ = some (.int .i64 first) ∧ WW.cell? ⟨w.heap.size + 1, 1, none⟩ = some (.int .i64 C) ∧ WW.cell? ⟨w.heap.size + 1, 2, none⟩ = some (.slice A R.length c) ∧ WW.cell? ⟨w.heap.size + 1, 3, none⟩ = some (.int .i64 next) := fun WW hW => by
    have g1 := (hW.block _ (heap_lt hgq)).trans hgq
    have g2 := (hW.block _ (heap_lt hlg)).trans hlg
    exact ⟨⟨cell_of_row _ _ 0 _ _ _ g1, cell_of_row _ _ 1 _ _ _ g1, cell_of_row _ _ 2 _ _ _ g1, cell_of_row _ _ 3 _ _ _ g1, cell_of_row _ _ 4 _ _ _ g1⟩, cell_of_row _ _ 0 _ _ _ g2, cell_of_row _ _ 1 _ _ _ g2, cell_of_row _ _ 2 _ _ _ g2, cell_of_row _ _ 3 _ _ _ g2⟩
  have HSA := Lib.hid (hsa w14.drew (Below.refl _ _).drew)
  have hf5 := (fr5 w14 (w.heap.size + 2) (.slice Q1 q1 g1) (.slice Q2 q2 g2) (.slice Q3 q3 g3) (.int .i64 sq) (.int .i64 lq)).drew
  have hx5 := (hf5.block _ (heap_lt hgq) (by simp)).trans hgq
  have hl5 := (hf5.block _ (heap_lt hlg) (by simp)).trans hlg
  have HSB := Lib.hid (And.intro (And.intro (cell_of_row _ _ 0 _ _ _ hx5) (And.intro (cell_of_row _ _ 1 _ _ _ hx5) (And.intro (cell_of_row _ _ 2 _ _ _ hx5) (And.intro (cell_of_row _ _ 3 _ _ _ hx5) (cell_of_row _ _ 4 _ _ _ hx5))))) (And.intro (cell_of_row _ _ 0 _ _ _ hl5) (And.intro (cell_of_row _ _ 1 _ _ _ hl5) (And.intro (cell_of_row _ _ 2 _ _ _ hl5) (cell_of_row _ _ 3 _ _ _ hl5)))))
  have hf6 := (HX.out.done hvq (.slice Q1 q1 g1) (.slice Q2 q2 g2) (.slice Q3 q3 g3) (.int .i64 sq) (.int .i64 lq) (.int .i64 first) (.int .i64 C) (.slice A R.length c) (.int .i64 next)).2.2.2.2.drew
  have hx6 := (hf6.block _ (heap_lt hgq) (by simp)).trans hgq
  have hl6 := (hf6.block _ (heap_lt hlg) (by simp)).trans hlg
  have HSD := Lib.hid (And.intro (And.intro (cell_of_row _ _ 0 _ _ _ hx6) (And.intro (cell_of_row _ _ 1 _ _ _ hx6) (And.intro (cell_of_row _ _ 2 _ _ _ hx6) (And.intro (cell_of_row _ _ 3 _ _ _ hx6) (cell_of_row _ _ 4 _ _ _ hx6))))) (And.intro (cell_of_row _ _ 0 _ _ _ hl6) (And.intro (cell_of_row _ _ 1 _ _ _ hl6) (And.intro (cell_of_row _ _ 2 _ _ _ hl6) (cell_of_row _ _ 3 _ _ _ hl6)))))
  clear hf5 hx5 hl5 hf6 hx6 hl6 hsa hdn hgq hvq hlg hr1 hr2 hs0
  refine wp_region_M (fun j => decide (j < 5)) (fun w' => (w'.cell? ⟨w.heap.size, 0, none⟩ = some (.slice Q1 q1 g1) ∧ w'.cell? ⟨w.heap.size, 1, none⟩ = some (.slice Q2 q2 g2) ∧ w'.cell? ⟨w.heap.size, 2, none⟩ = some (.slice Q3 q3 g3) ∧ w'.cell? ⟨w.heap.size, 3, none⟩ = some (.int .i64 sq) ∧ w'.cell? ⟨w.heap.size, 4, none⟩ = some (.int .i64 lq)) ∧ w'.cell? ⟨w.heap.size + 1, 0, none⟩ = some (.int .i64 first) ∧ w'.cell? ⟨w.heap.size + 1, 1, none⟩ = some (.int .i64 C) ∧ w'.cell? ⟨w.heap.size + 1, 2, none⟩ = some (.slice A R.length c) ∧ w'.cell? ⟨w.heap.size + 1, 3, none⟩ = some (.int .i64 next)) (by kernel_rfl) ?_
  refine wpAnyM_take (i := 0) (v := ?_) rfl (by kernel_rfl) (by kernel_rfl) (by kernel_rfl) (by kernel_rfl) (fun _ _ _ h => h) (Or.inl ⟨by rfl, ?_⟩) HSA.out ?_
  rotate_left
  · intro w hSw; (try dsimp only at hSw); go_simp; (try with_reducible rfl)
  simp only [Act.put, List.getElem_toArray, List.getElem_cons_zero, List.getElem_cons_succ, List.setIfInBounds_toArray, List.set_cons_zero, List.set_cons_succ]
  refine wpAnyM_take (i := 1) (v := ?_) rfl (by kernel_rfl) (by kernel_rfl) (by kernel_rfl) (by kernel_rfl) (fun _ _ _ h => h) (Or.inl ⟨by rfl, ?_⟩) HSA.out ?_
  rotate_left
  · intro w hSw; (try dsimp only at hSw); go_simp; (try with_reducible rfl)
  simp only [Act.put, List.getElem_toArray, List.getElem_cons_zero, List.getElem_cons_succ, List.setIfInBounds_toArray, List.set_cons_zero, List.set_cons_succ]
  refine wpAnyM_take (i := 2) (v := ?_) rfl (by kernel_rfl) (by kernel_rfl) (by kernel_rfl) (by kernel_rfl) (fun _ _ _ h => h) (Or.inl ⟨by rfl, ?_⟩) HSA.out ?_
  rotate_left
  · intro w hSw; (try dsimp only at hSw); go_simp; (try with_reducible rfl)
  simp only [Act.put, List.getElem_toArray, List.getElem_cons_zero, List.getElem_cons_succ, List.setIfInBounds_toArray, List.set_cons_zero, List.set_cons_succ]
  refine wpAnyM_one (i := 3) (by kernel_rfl) rfl (fun K' hK => ?_)
  go_simp
  refine hK.out _ _ (fun _ => HSB.out) ?_
  clear hK K'
  refine wpAnyM_one (i := 4) (by kernel_rfl) rfl (fun K' hK => ?_)
  go_simp
  refine hK.out _ _ (fun _ => HSD.out) ?_
  clear hK K'
  refine wpAnyM_value (i := 5) (v := ?_) rfl (by kernel_rfl) (by kernel_rfl) (by kernel_rfl) (by kernel_rfl) (fun _ _ _ h => h) (Or.inl ⟨by rfl, ?_⟩) ?_
  rotate_left
  · intro w hSw; go_simp; (try with_reducible rfl)
  simp only [Act.put, List.getElem_toArray, List.getElem_cons_zero, List.getElem_cons_succ, List.setIfInBounds_toArray, List.set_cons_zero, List.set_cons_succ]
  refine wpAnyM_done (by kernel_rfl) ?_ _
  show K _ _
  exact HK.out Q1 Q2 Q3 q1 q2 q3 g1 g2 g3 sq lq _ _ _ _ HDN.out.1 HDN.out.2.1 HDN.out.2.2.1 HDN.out.2.2.2.1 HDN.out.2.2.2.2
noncomputable def apReg20 : Code := ((Try.f10.body.bind (findReg 20)).getD .skip)
set_option maxRecDepth 1000000 in
set_option maxHeartbeats 4000000 in
theorem ra20 {w w14 : World} {X : List Nat} {M : DM} {lo c : Nat} {A : Option Addr} {R : List Rec} {first C next : Int} {K : Act → World → Prop} (HX : Hid (ApX w w14 X M lo A c R first C next)) (hs0 : ∀ s ∈ (Value.slice A R.length c).ownBlock.toList, s ∉ [w.heap.size + 2, w.heap.size + 3])
    (u0 u1 u2 u5 u8 u9 u10 u11 u13 u14 u15 u16 u17 u18 u19 u20 u21 u22 u23 u24 u25 u26 u27 u28 u29 u30 u31 u32 u33 u34 u35 u36 u37 u38 u39 u40 u41 u42 u43 u44 u45 u46 u47 u48 u49 u50 u51 u52 u53 u54 u55 u56 u57 u58 u59 u60 u61 u62 u63 u64 u65 u66 u67 u68 u69 u70 u71 u72 u73 u74 u75 u76 u77 u78 u79 u80 u81 u82 u83 u84 u85 u86 u87 u88 u89 u90 u91 u92 u93 u94 u95 u96 u97 u98 u99 u100 u101 u102 u103 u104 u105 u106 u107 u108 u109 u110 u111 u112 u113 u114 u115 u116 u117 u118 u119 u120 u121 u122 u123 u124 u125 u126 u127 : Value)
    (hK0 : ∀ (Q1 Q2 Q3 : Option Addr) (q1 q2 q3 g1 g2 g3 : Nat) (sq lq : Int) (v82 v83 v84 : Value) (w9 : World), w9.heap[w.heap.size + 2]? = some (.cells #[.slice Q1 q1 g1, .slice Q2 q2 g2, .slice Q3 q3 g3, .int .i64 sq, .int .i64 lq] 33 (0, 0)) → w9.heap[w.heap.size + 3]? = some (.cells #[.int .i64 first, .int .i64 C, .slice A R.length c, .int .i64 next] 42 (0, 0)) → RefV w9 X (refOf M) (.agg #[.slice Q1 q1 g1, .slice Q2 q2 g2, .slice Q3 q3 g3, .int .i64 sq, .int .i64 lq]) → w9.ownsRow lo 80 2 (.slice A R.length c) R.length (recS R) → Below w.heap.size w w9 → K ⟨#[u0, u1, u2, .pointer (some ⟨w.heap.size, 0, none⟩), .pointer (some ⟨w.heap.size + 1, 0, none⟩), u5, .pointer (some ⟨w.heap.size + 2, 0, none⟩), .pointer (some ⟨w.heap.size + 3, 0, none⟩), .int .i64 30, u9, u10, u11, .int .i64 30, u13, u14, u15, u16, u17, u18, u19, u20, u21, u22, u23, u24, u25, u26, u27, u28, u29, u30, u31, u32, u33, u34, u35, u36, u37, u38, u39, u40, u41, u42, u43, u44, u45, u46, u47, u48, u49, u50, u51, u52, u53, u54, u55, u56, u57, u58, u59, u60, u61, u62, u63, u64, u65, u66, u67, u68, u69, u70, u71, u72, u73, u74, u75, u76, u77, u78, u79, u80, u81, v82, v83, v84, u85, u86, u87, u88, u89, u90, u91, u92, u93, u94, u95, u96, u97, u98, u99, u100, u101, u102, u103, u104, u105, u106, u107, u108, u109, u110, u111, u112, u113, u114, u115, u116, u117, u118, u119, u120, u121, u122, u123, u124, u125, u126, u127], []⟩ w9) :
    Code.wp Try.prog apReg20 (Exit.then K (fun _ _ _ => False)) ⟨#[u0, u1, u2, .pointer (some ⟨w.heap.size, 0, none⟩), .pointer (some ⟨w.heap.size + 1, 0, none⟩), u5, .pointer (some ⟨w.heap.size + 2, 0, none⟩), .pointer (some ⟨w.heap.size + 3, 0, none⟩), u8, u9, u10, u11, .int .i64 30, u13, u14, u15, u16, u17, u18, u19, u20, u21, u22, u23, u24, u25, u26, u27, u28, u29, u30, u31, u32, u33, u34, u35, u36, u37, u38, u39, u40, u41, u42, u43, u44, u45, u46, u47, u48, u49, u50, u51, u52, u53, u54, u55, u56, u57, u58, u59, u60, u61, u62, u63, u64, u65, u66, u67, u68, u69, u70, u71, u72, u73, u74, u75, u76, u77, u78, u79, u80, u81, u82, u83, u84, u85, u86, u87, u88, u89, u90, u91, u92, u93, u94, u95, u96, u97, u98, u99, u100, u101, u102, u103, u104, u105, u106, u107, u108, u109, u110, u111, u112, u113, u114, u115, u116, u117, u118, u119, u120, u121, u122, u123, u124, u125, u126, u127], []⟩ w14 := by
  conv => arg 2; whnf
  have HK := Lib.hid hK0
  clear hK0
  obtain ⟨Q1, Q2, Q3, q1, q2, q3, g1, g2, g3, sq, lq, hgq, hvq⟩ := HX.out.box
  have hlg := HX.out.log
  have hr1 := HX.out.res1
  have hr2 := HX.out.res2
  have x0 := cell_of_row w14 (w.heap.size) 0 _ _ _ hgq; have x1 := cell_of_row w14 (w.heap.size) 1 _ _ _ hgq; have x2 := cell_of_row w14 (w.heap.size) 2 _ _ _ hgq; have x3 := cell_of_row w14 (w.heap.size) 3 _ _ _ hgq; have x4 := cell_of_row w14 (w.heap.size) 4 _ _ _ hgq
  have k0 := cell_of_row w14 (w.heap.size + 1) 0 _ _ _ hlg; have k1 := cell_of_row w14 (w.heap.size + 1) 1 _ _ _ hlg; have k2 := cell_of_row w14 (w.heap.size + 1) 2 _ _ _ hlg; have k3 := cell_of_row w14 (w.heap.size + 1) 3 _ _ _ hlg
  have y0 := cell_of_row w14 (w.heap.size + 2) 0 _ _ _ hr1; have y1 := cell_of_row w14 (w.heap.size + 2) 1 _ _ _ hr1; have y2 := cell_of_row w14 (w.heap.size + 2) 2 _ _ _ hr1; have y3 := cell_of_row w14 (w.heap.size + 2) 3 _ _ _ hr1; have y4 := cell_of_row w14 (w.heap.size + 2) 4 _ _ _ hr1
  have yf0 := frozen_of_row w14 (w.heap.size + 2) 0 _ _ hr1; have yf1 := frozen_of_row w14 (w.heap.size + 2) 1 _ _ hr1; have yf2 := frozen_of_row w14 (w.heap.size + 2) 2 _ _ hr1; have yf3 := frozen_of_row w14 (w.heap.size + 2) 3 _ _ hr1; have yf4 := frozen_of_row w14 (w.heap.size + 2) 4 _ _ hr1
  have z0 := cell_of_row w14 (w.heap.size + 3) 0 _ _ _ hr2; have z1 := cell_of_row w14 (w.heap.size + 3) 1 _ _ _ hr2; have z2 := cell_of_row w14 (w.heap.size + 3) 2 _ _ _ hr2; have z3 := cell_of_row w14 (w.heap.size + 3) 3 _ _ _ hr2
  have zf0 := frozen_of_row w14 (w.heap.size + 3) 0 _ _ hr2; have zf1 := frozen_of_row w14 (w.heap.size + 3) 1 _ _ hr2; have zf2 := frozen_of_row w14 (w.heap.size + 3) 2 _ _ hr2; have zf3 := frozen_of_row w14 (w.heap.size + 3) 3 _ _ hr2
  have hdn := ApX.end_ (HX.out.done hvq (.slice Q1 q1 g1) (.slice Q2 q2 g2) (.slice Q3 q3 g3) (.int .i64 sq) (.int .i64 lq) (.int .i64 first) (.int .i64 C) (.slice A R.length c) (.int .i64 next)) HX.out.recs hs0
  have HDN := Lib.hid hdn
  have hsa : ∀ WW, Below w14.heap.size w14 WW → (WW.cell? ⟨w.heap.size, 0, none⟩ = some (.slice Q1 q1 g1) ∧ WW.cell? ⟨w.heap.size, 1, none⟩ = some (.slice Q2 q2 g2) ∧ WW.cell? ⟨w.heap.size, 2, none⟩ = some (.slice Q3 q3 g3) ∧ WW.cell? ⟨w.heap.size, 3, none⟩ = some (.int .i64 sq) ∧ WW.cell? ⟨w.heap.size, 4, none⟩ = some (.int .i64 lq)) ∧ WW.cell? ⟨w.heap.size + 1, 0, none⟩ = some (.int .i64 first) ∧ WW.cell? ⟨w.heap.size + 1, 1, none⟩ = some (.int .i64 C) ∧ WW.cell? ⟨w.heap.size + 1, 2, none⟩ = some (.slice A R.length c) ∧ WW.cell? ⟨w.heap.size + 1, 3, none⟩ = some (.int .i64 next) := fun WW hW => by
    have g1 := (hW.block _ (heap_lt hgq)).trans hgq
    have g2 := (hW.block _ (heap_lt hlg)).trans hlg
    exact ⟨⟨cell_of_row _ _ 0 _ _ _ g1, cell_of_row _ _ 1 _ _ _ g1, cell_of_row _ _ 2 _ _ _ g1, cell_of_row _ _ 3 _ _ _ g1, cell_of_row _ _ 4 _ _ _ g1⟩, cell_of_row _ _ 0 _ _ _ g2, cell_of_row _ _ 1 _ _ _ g2, cell_of_row _ _ 2 _ _ _ g2, cell_of_row _ _ 3 _ _ _ g2⟩
  have HSA := Lib.hid (hsa w14.drew (Below.refl _ _).drew)
  have hf5 := (fr5 w14 (w.heap.size + 2) (.slice Q1 q1 g1) (.slice Q2 q2 g2) (.slice Q3 q3 g3) (.int .i64 sq) (.int .i64 lq)).drew
  have hx5 := (hf5.block _ (heap_lt hgq) (by simp)).trans hgq
  have hl5 := (hf5.block _ (heap_lt hlg) (by simp)).trans hlg
  have HSB := Lib.hid (And.intro (And.intro (cell_of_row _ _ 0 _ _ _ hx5) (And.intro (cell_of_row _ _ 1 _ _ _ hx5) (And.intro (cell_of_row _ _ 2 _ _ _ hx5) (And.intro (cell_of_row _ _ 3 _ _ _ hx5) (cell_of_row _ _ 4 _ _ _ hx5))))) (And.intro (cell_of_row _ _ 0 _ _ _ hl5) (And.intro (cell_of_row _ _ 1 _ _ _ hl5) (And.intro (cell_of_row _ _ 2 _ _ _ hl5) (cell_of_row _ _ 3 _ _ _ hl5)))))
  have hf6 := (HX.out.done hvq (.slice Q1 q1 g1) (.slice Q2 q2 g2) (.slice Q3 q3 g3) (.int .i64 sq) (.int .i64 lq) (.int .i64 first) (.int .i64 C) (.slice A R.length c) (.int .i64 next)).2.2.2.2.drew
  have hx6 := (hf6.block _ (heap_lt hgq) (by simp)).trans hgq
  have hl6 := (hf6.block _ (heap_lt hlg) (by simp)).trans hlg
  have HSD := Lib.hid (And.intro (And.intro (cell_of_row _ _ 0 _ _ _ hx6) (And.intro (cell_of_row _ _ 1 _ _ _ hx6) (And.intro (cell_of_row _ _ 2 _ _ _ hx6) (And.intro (cell_of_row _ _ 3 _ _ _ hx6) (cell_of_row _ _ 4 _ _ _ hx6))))) (And.intro (cell_of_row _ _ 0 _ _ _ hl6) (And.intro (cell_of_row _ _ 1 _ _ _ hl6) (And.intro (cell_of_row _ _ 2 _ _ _ hl6) (cell_of_row _ _ 3 _ _ _ hl6)))))
  clear hf5 hx5 hl5 hf6 hx6 hl6 hsa hdn hgq hvq hlg hr1 hr2 hs0
  refine wp_region_M (fun j => decide (j < 5)) (fun w' => (w'.cell? ⟨w.heap.size, 0, none⟩ = some (.slice Q1 q1 g1) ∧ w'.cell? ⟨w.heap.size, 1, none⟩ = some (.slice Q2 q2 g2) ∧ w'.cell? ⟨w.heap.size, 2, none⟩ = some (.slice Q3 q3 g3) ∧ w'.cell? ⟨w.heap.size, 3, none⟩ = some (.int .i64 sq) ∧ w'.cell? ⟨w.heap.size, 4, none⟩ = some (.int .i64 lq)) ∧ w'.cell? ⟨w.heap.size + 1, 0, none⟩ = some (.int .i64 first) ∧ w'.cell? ⟨w.heap.size + 1, 1, none⟩ = some (.int .i64 C) ∧ w'.cell? ⟨w.heap.size + 1, 2, none⟩ = some (.slice A R.length c) ∧ w'.cell? ⟨w.heap.size + 1, 3, none⟩ = some (.int .i64 next)) (by kernel_rfl) ?_
  refine wpAnyM_take (i := 0) (v := ?_) rfl (by kernel_rfl) (by kernel_rfl) (by kernel_rfl) (by kernel_rfl) (fun _ _ _ h => h) (Or.inl ⟨by rfl, ?_⟩) HSA.out ?_
  rotate_left
  · intro w hSw; (try dsimp only at hSw); go_simp; (try with_reducible rfl)
  simp only [Act.put, List.getElem_toArray, List.getElem_cons_zero, List.getElem_cons_succ, List.setIfInBounds_toArray, List.set_cons_zero, List.set_cons_succ]
  refine wpAnyM_take (i := 1) (v := ?_) rfl (by kernel_rfl) (by kernel_rfl) (by kernel_rfl) (by kernel_rfl) (fun _ _ _ h => h) (Or.inl ⟨by rfl, ?_⟩) HSA.out ?_
  rotate_left
  · intro w hSw; (try dsimp only at hSw); go_simp; (try with_reducible rfl)
  simp only [Act.put, List.getElem_toArray, List.getElem_cons_zero, List.getElem_cons_succ, List.setIfInBounds_toArray, List.set_cons_zero, List.set_cons_succ]
  refine wpAnyM_take (i := 2) (v := ?_) rfl (by kernel_rfl) (by kernel_rfl) (by kernel_rfl) (by kernel_rfl) (fun _ _ _ h => h) (Or.inl ⟨by rfl, ?_⟩) HSA.out ?_
  rotate_left
  · intro w hSw; (try dsimp only at hSw); go_simp; (try with_reducible rfl)
  simp only [Act.put, List.getElem_toArray, List.getElem_cons_zero, List.getElem_cons_succ, List.setIfInBounds_toArray, List.set_cons_zero, List.set_cons_succ]
  refine wpAnyM_one (i := 3) (by kernel_rfl) rfl (fun K' hK => ?_)
  go_simp
  refine hK.out _ _ (fun _ => HSB.out) ?_
  clear hK K'
  refine wpAnyM_one (i := 4) (by kernel_rfl) rfl (fun K' hK => ?_)
  go_simp
  refine hK.out _ _ (fun _ => HSD.out) ?_
  clear hK K'
  refine wpAnyM_value (i := 5) (v := ?_) rfl (by kernel_rfl) (by kernel_rfl) (by kernel_rfl) (by kernel_rfl) (fun _ _ _ h => h) (Or.inl ⟨by rfl, ?_⟩) ?_
  rotate_left
  · intro w hSw; go_simp; (try with_reducible rfl)
  simp only [Act.put, List.getElem_toArray, List.getElem_cons_zero, List.getElem_cons_succ, List.setIfInBounds_toArray, List.set_cons_zero, List.set_cons_succ]
  refine wpAnyM_done (by kernel_rfl) ?_ _
  show K _ _
  exact HK.out Q1 Q2 Q3 q1 q2 q3 g1 g2 g3 sq lq _ _ _ _ HDN.out.1 HDN.out.2.1 HDN.out.2.2.1 HDN.out.2.2.2.1 HDN.out.2.2.2.2
noncomputable def apReg23 : Code := ((Try.f10.body.bind (findReg 23)).getD .skip)
set_option maxRecDepth 1000000 in
set_option maxHeartbeats 4000000 in
theorem ra23 {w w14 : World} {X : List Nat} {M : DM} {lo c : Nat} {A : Option Addr} {R : List Rec} {first C next : Int} {K : Act → World → Prop} (HX : Hid (ApX w w14 X M lo A c R first C next)) (hs0 : ∀ s ∈ (Value.slice A R.length c).ownBlock.toList, s ∉ [w.heap.size + 2, w.heap.size + 3])
    (u0 u1 u2 u5 u8 u9 u10 u11 u13 u14 u15 u16 u17 u18 u19 u20 u21 u22 u23 u24 u25 u26 u27 u28 u29 u30 u31 u32 u33 u34 u35 u36 u37 u38 u39 u40 u41 u42 u43 u44 u45 u46 u47 u48 u49 u50 u51 u52 u53 u54 u55 u56 u57 u58 u59 u60 u61 u62 u63 u64 u65 u66 u67 u68 u69 u70 u71 u72 u73 u74 u75 u76 u77 u78 u79 u80 u81 u82 u83 u84 u85 u86 u87 u88 u89 u90 u91 u92 u93 u94 u95 u96 u97 u98 u99 u100 u101 u102 u103 u104 u105 u106 u107 u108 u109 u110 u111 u112 u113 u114 u115 u116 u117 u118 u119 u120 u121 u122 u123 u124 u125 u126 u127 : Value)
    (hK0 : ∀ (Q1 Q2 Q3 : Option Addr) (q1 q2 q3 g1 g2 g3 : Nat) (sq lq : Int) (v98 v99 v100 : Value) (w9 : World), w9.heap[w.heap.size + 2]? = some (.cells #[.slice Q1 q1 g1, .slice Q2 q2 g2, .slice Q3 q3 g3, .int .i64 sq, .int .i64 lq] 33 (0, 0)) → w9.heap[w.heap.size + 3]? = some (.cells #[.int .i64 first, .int .i64 C, .slice A R.length c, .int .i64 next] 42 (0, 0)) → RefV w9 X (refOf M) (.agg #[.slice Q1 q1 g1, .slice Q2 q2 g2, .slice Q3 q3 g3, .int .i64 sq, .int .i64 lq]) → w9.ownsRow lo 80 2 (.slice A R.length c) R.length (recS R) → Below w.heap.size w w9 → K ⟨#[u0, u1, u2, .pointer (some ⟨w.heap.size, 0, none⟩), .pointer (some ⟨w.heap.size + 1, 0, none⟩), u5, .pointer (some ⟨w.heap.size + 2, 0, none⟩), .pointer (some ⟨w.heap.size + 3, 0, none⟩), .int .i64 30, u9, u10, u11, .int .i64 30, u13, u14, u15, u16, u17, u18, u19, u20, u21, u22, u23, u24, u25, u26, u27, u28, u29, u30, u31, u32, u33, u34, u35, u36, u37, u38, u39, u40, u41, u42, u43, u44, u45, u46, u47, u48, u49, u50, u51, u52, u53, u54, u55, u56, u57, u58, u59, u60, u61, u62, u63, u64, u65, u66, u67, u68, u69, u70, u71, u72, u73, u74, u75, u76, u77, u78, u79, u80, u81, u82, u83, u84, u85, u86, u87, u88, u89, u90, u91, u92, u93, u94, u95, u96, u97, v98, v99, v100, u101, u102, u103, u104, u105, u106, u107, u108, u109, u110, u111, u112, u113, u114, u115, u116, u117, u118, u119, u120, u121, u122, u123, u124, u125, u126, u127], []⟩ w9) :
    Code.wp Try.prog apReg23 (Exit.then K (fun _ _ _ => False)) ⟨#[u0, u1, u2, .pointer (some ⟨w.heap.size, 0, none⟩), .pointer (some ⟨w.heap.size + 1, 0, none⟩), u5, .pointer (some ⟨w.heap.size + 2, 0, none⟩), .pointer (some ⟨w.heap.size + 3, 0, none⟩), u8, u9, u10, u11, .int .i64 30, u13, u14, u15, u16, u17, u18, u19, u20, u21, u22, u23, u24, u25, u26, u27, u28, u29, u30, u31, u32, u33, u34, u35, u36, u37, u38, u39, u40, u41, u42, u43, u44, u45, u46, u47, u48, u49, u50, u51, u52, u53, u54, u55, u56, u57, u58, u59, u60, u61, u62, u63, u64, u65, u66, u67, u68, u69, u70, u71, u72, u73, u74, u75, u76, u77, u78, u79, u80, u81, u82, u83, u84, u85, u86, u87, u88, u89, u90, u91, u92, u93, u94, u95, u96, u97, u98, u99, u100, u101, u102, u103, u104, u105, u106, u107, u108, u109, u110, u111, u112, u113, u114, u115, u116, u117, u118, u119, u120, u121, u122, u123, u124, u125, u126, u127], []⟩ w14 := by
  conv => arg 2; whnf
  have HK := Lib.hid hK0
  clear hK0
  obtain ⟨Q1, Q2, Q3, q1, q2, q3, g1, g2, g3, sq, lq, hgq, hvq⟩ := HX.out.box
  have hlg := HX.out.log
  have hr1 := HX.out.res1
  have hr2 := HX.out.res2
  have x0 := cell_of_row w14 (w.heap.size) 0 _ _ _ hgq; have x1 := cell_of_row w14 (w.heap.size) 1 _ _ _ hgq; have x2 := cell_of_row w14 (w.heap.size) 2 _ _ _ hgq; have x3 := cell_of_row w14 (w.heap.size) 3 _ _ _ hgq; have x4 := cell_of_row w14 (w.heap.size) 4 _ _ _ hgq
  have k0 := cell_of_row w14 (w.heap.size + 1) 0 _ _ _ hlg; have k1 := cell_of_row w14 (w.heap.size + 1) 1 _ _ _ hlg; have k2 := cell_of_row w14 (w.heap.size + 1) 2 _ _ _ hlg; have k3 := cell_of_row w14 (w.heap.size + 1) 3 _ _ _ hlg
  have y0 := cell_of_row w14 (w.heap.size + 2) 0 _ _ _ hr1; have y1 := cell_of_row w14 (w.heap.size + 2) 1 _ _ _ hr1; have y2 := cell_of_row w14 (w.heap.size + 2) 2 _ _ _ hr1; have y3 := cell_of_row w14 (w.heap.size + 2) 3 _ _ _ hr1; have y4 := cell_of_row w14 (w.heap.size + 2) 4 _ _ _ hr1
  have yf0 := frozen_of_row w14 (w.heap.size + 2) 0 _ _ hr1; have yf1 := frozen_of_row w14 (w.heap.size + 2) 1 _ _ hr1; have yf2 := frozen_of_row w14 (w.heap.size + 2) 2 _ _ hr1; have yf3 := frozen_of_row w14 (w.heap.size + 2) 3 _ _ hr1; have yf4 := frozen_of_row w14 (w.heap.size + 2) 4 _ _ hr1
  have z0 := cell_of_row w14 (w.heap.size + 3) 0 _ _ _ hr2; have z1 := cell_of_row w14 (w.heap.size + 3) 1 _ _ _ hr2; have z2 := cell_of_row w14 (w.heap.size + 3) 2 _ _ _ hr2; have z3 := cell_of_row w14 (w.heap.size + 3) 3 _ _ _ hr2
  have zf0 := frozen_of_row w14 (w.heap.size + 3) 0 _ _ hr2; have zf1 := frozen_of_row w14 (w.heap.size + 3) 1 _ _ hr2; have zf2 := frozen_of_row w14 (w.heap.size + 3) 2 _ _ hr2; have zf3 := frozen_of_row w14 (w.heap.size + 3) 3 _ _ hr2
  have hdn := ApX.end_ (HX.out.done hvq (.slice Q1 q1 g1) (.slice Q2 q2 g2) (.slice Q3 q3 g3) (.int .i64 sq) (.int .i64 lq) (.int .i64 first) (.int .i64 C) (.slice A R.length c) (.int .i64 next)) HX.out.recs hs0
  have HDN := Lib.hid hdn
  have hsa : ∀ WW, Below w14.heap.size w14 WW → (WW.cell? ⟨w.heap.size, 0, none⟩ = some (.slice Q1 q1 g1) ∧ WW.cell? ⟨w.heap.size, 1, none⟩ = some (.slice Q2 q2 g2) ∧ WW.cell? ⟨w.heap.size, 2, none⟩ = some (.slice Q3 q3 g3) ∧ WW.cell? ⟨w.heap.size, 3, none⟩ = some (.int .i64 sq) ∧ WW.cell? ⟨w.heap.size, 4, none⟩ = some (.int .i64 lq)) ∧ WW.cell? ⟨w.heap.size + 1, 0, none⟩ = some (.int .i64 first) ∧ WW.cell? ⟨w.heap.size + 1, 1, none⟩ = some (.int .i64 C) ∧ WW.cell? ⟨w.heap.size + 1, 2, none⟩ = some (.slice A R.length c) ∧ WW.cell? ⟨w.heap.size + 1, 3, none⟩ = some (.int .i64 next) := fun WW hW => by
    have g1 := (hW.block _ (heap_lt hgq)).trans hgq
    have g2 := (hW.block _ (heap_lt hlg)).trans hlg
    exact ⟨⟨cell_of_row _ _ 0 _ _ _ g1, cell_of_row _ _ 1 _ _ _ g1, cell_of_row _ _ 2 _ _ _ g1, cell_of_row _ _ 3 _ _ _ g1, cell_of_row _ _ 4 _ _ _ g1⟩, cell_of_row _ _ 0 _ _ _ g2, cell_of_row _ _ 1 _ _ _ g2, cell_of_row _ _ 2 _ _ _ g2, cell_of_row _ _ 3 _ _ _ g2⟩
  have HSA := Lib.hid (hsa w14.drew (Below.refl _ _).drew)
  have hf5 := (fr5 w14 (w.heap.size + 2) (.slice Q1 q1 g1) (.slice Q2 q2 g2) (.slice Q3 q3 g3) (.int .i64 sq) (.int .i64 lq)).drew
  have hx5 := (hf5.block _ (heap_lt hgq) (by simp)).trans hgq
  have hl5 := (hf5.block _ (heap_lt hlg) (by simp)).trans hlg
  have HSB := Lib.hid (And.intro (And.intro (cell_of_row _ _ 0 _ _ _ hx5) (And.intro (cell_of_row _ _ 1 _ _ _ hx5) (And.intro (cell_of_row _ _ 2 _ _ _ hx5) (And.intro (cell_of_row _ _ 3 _ _ _ hx5) (cell_of_row _ _ 4 _ _ _ hx5))))) (And.intro (cell_of_row _ _ 0 _ _ _ hl5) (And.intro (cell_of_row _ _ 1 _ _ _ hl5) (And.intro (cell_of_row _ _ 2 _ _ _ hl5) (cell_of_row _ _ 3 _ _ _ hl5)))))
  have hf6 := (HX.out.done hvq (.slice Q1 q1 g1) (.slice Q2 q2 g2) (.slice Q3 q3 g3) (.int .i64 sq) (.int .i64 lq) (.int .i64 first) (.int .i64 C) (.slice A R.length c) (.int .i64 next)).2.2.2.2.drew
  have hx6 := (hf6.block _ (heap_lt hgq) (by simp)).trans hgq
  have hl6 := (hf6.block _ (heap_lt hlg) (by simp)).trans hlg
  have HSD := Lib.hid (And.intro (And.intro (cell_of_row _ _ 0 _ _ _ hx6) (And.intro (cell_of_row _ _ 1 _ _ _ hx6) (And.intro (cell_of_row _ _ 2 _ _ _ hx6) (And.intro (cell_of_row _ _ 3 _ _ _ hx6) (cell_of_row _ _ 4 _ _ _ hx6))))) (And.intro (cell_of_row _ _ 0 _ _ _ hl6) (And.intro (cell_of_row _ _ 1 _ _ _ hl6) (And.intro (cell_of_row _ _ 2 _ _ _ hl6) (cell_of_row _ _ 3 _ _ _ hl6)))))
  clear hf5 hx5 hl5 hf6 hx6 hl6 hsa hdn hgq hvq hlg hr1 hr2 hs0
  refine wp_region_M (fun j => decide (j < 5)) (fun w' => (w'.cell? ⟨w.heap.size, 0, none⟩ = some (.slice Q1 q1 g1) ∧ w'.cell? ⟨w.heap.size, 1, none⟩ = some (.slice Q2 q2 g2) ∧ w'.cell? ⟨w.heap.size, 2, none⟩ = some (.slice Q3 q3 g3) ∧ w'.cell? ⟨w.heap.size, 3, none⟩ = some (.int .i64 sq) ∧ w'.cell? ⟨w.heap.size, 4, none⟩ = some (.int .i64 lq)) ∧ w'.cell? ⟨w.heap.size + 1, 0, none⟩ = some (.int .i64 first) ∧ w'.cell? ⟨w.heap.size + 1, 1, none⟩ = some (.int .i64 C) ∧ w'.cell? ⟨w.heap.size + 1, 2, none⟩ = some (.slice A R.length c) ∧ w'.cell? ⟨w.heap.size + 1, 3, none⟩ = some (.int .i64 next)) (by kernel_rfl) ?_
  refine wpAnyM_take (i := 0) (v := ?_) rfl (by kernel_rfl) (by kernel_rfl) (by kernel_rfl) (by kernel_rfl) (fun _ _ _ h => h) (Or.inl ⟨by rfl, ?_⟩) HSA.out ?_
  rotate_left
  · intro w hSw; (try dsimp only at hSw); go_simp; (try with_reducible rfl)
  simp only [Act.put, List.getElem_toArray, List.getElem_cons_zero, List.getElem_cons_succ, List.setIfInBounds_toArray, List.set_cons_zero, List.set_cons_succ]
  refine wpAnyM_take (i := 1) (v := ?_) rfl (by kernel_rfl) (by kernel_rfl) (by kernel_rfl) (by kernel_rfl) (fun _ _ _ h => h) (Or.inl ⟨by rfl, ?_⟩) HSA.out ?_
  rotate_left
  · intro w hSw; (try dsimp only at hSw); go_simp; (try with_reducible rfl)
  simp only [Act.put, List.getElem_toArray, List.getElem_cons_zero, List.getElem_cons_succ, List.setIfInBounds_toArray, List.set_cons_zero, List.set_cons_succ]
  refine wpAnyM_take (i := 2) (v := ?_) rfl (by kernel_rfl) (by kernel_rfl) (by kernel_rfl) (by kernel_rfl) (fun _ _ _ h => h) (Or.inl ⟨by rfl, ?_⟩) HSA.out ?_
  rotate_left
  · intro w hSw; (try dsimp only at hSw); go_simp; (try with_reducible rfl)
  simp only [Act.put, List.getElem_toArray, List.getElem_cons_zero, List.getElem_cons_succ, List.setIfInBounds_toArray, List.set_cons_zero, List.set_cons_succ]
  refine wpAnyM_one (i := 3) (by kernel_rfl) rfl (fun K' hK => ?_)
  go_simp
  refine hK.out _ _ (fun _ => HSB.out) ?_
  clear hK K'
  refine wpAnyM_one (i := 4) (by kernel_rfl) rfl (fun K' hK => ?_)
  go_simp
  refine hK.out _ _ (fun _ => HSD.out) ?_
  clear hK K'
  refine wpAnyM_value (i := 5) (v := ?_) rfl (by kernel_rfl) (by kernel_rfl) (by kernel_rfl) (by kernel_rfl) (fun _ _ _ h => h) (Or.inl ⟨by rfl, ?_⟩) ?_
  rotate_left
  · intro w hSw; go_simp; (try with_reducible rfl)
  simp only [Act.put, List.getElem_toArray, List.getElem_cons_zero, List.getElem_cons_succ, List.setIfInBounds_toArray, List.set_cons_zero, List.set_cons_succ]
  refine wpAnyM_done (by kernel_rfl) ?_ _
  show K _ _
  exact HK.out Q1 Q2 Q3 q1 q2 q3 g1 g2 g3 sq lq _ _ _ _ HDN.out.1 HDN.out.2.1 HDN.out.2.2.1 HDN.out.2.2.2.1 HDN.out.2.2.2.2
noncomputable def apReg26 : Code := ((Try.f10.body.bind (findReg 26)).getD .skip)
set_option maxRecDepth 1000000 in
set_option maxHeartbeats 4000000 in
theorem ra26 {w w14 : World} {X : List Nat} {M : DM} {lo c : Nat} {A : Option Addr} {R : List Rec} {first C next : Int} {K : Act → World → Prop} (HX : Hid (ApX w w14 X M lo A c R first C next)) (hs0 : ∀ s ∈ (Value.slice A R.length c).ownBlock.toList, s ∉ [w.heap.size + 2, w.heap.size + 3])
    (u0 u1 u2 u5 u8 u9 u10 u11 u13 u14 u15 u16 u17 u18 u19 u20 u21 u22 u23 u24 u25 u26 u27 u28 u29 u30 u31 u32 u33 u34 u35 u36 u37 u38 u39 u40 u41 u42 u43 u44 u45 u46 u47 u48 u49 u50 u51 u52 u53 u54 u55 u56 u57 u58 u59 u60 u61 u62 u63 u64 u65 u66 u67 u68 u69 u70 u71 u72 u73 u74 u75 u76 u77 u78 u79 u80 u81 u82 u83 u84 u85 u86 u87 u88 u89 u90 u91 u92 u93 u94 u95 u96 u97 u98 u99 u100 u101 u102 u103 u104 u105 u106 u107 u108 u109 u110 u111 u112 u113 u114 u115 u116 u117 u118 u119 u120 u121 u122 u123 u124 u125 u126 u127 : Value)
    (hK0 : ∀ (Q1 Q2 Q3 : Option Addr) (q1 q2 q3 g1 g2 g3 : Nat) (sq lq : Int) (v108 v109 v110 : Value) (w9 : World), w9.heap[w.heap.size + 2]? = some (.cells #[.slice Q1 q1 g1, .slice Q2 q2 g2, .slice Q3 q3 g3, .int .i64 sq, .int .i64 lq] 33 (0, 0)) → w9.heap[w.heap.size + 3]? = some (.cells #[.int .i64 first, .int .i64 C, .slice A R.length c, .int .i64 next] 42 (0, 0)) → RefV w9 X (refOf M) (.agg #[.slice Q1 q1 g1, .slice Q2 q2 g2, .slice Q3 q3 g3, .int .i64 sq, .int .i64 lq]) → w9.ownsRow lo 80 2 (.slice A R.length c) R.length (recS R) → Below w.heap.size w w9 → K ⟨#[u0, u1, u2, .pointer (some ⟨w.heap.size, 0, none⟩), .pointer (some ⟨w.heap.size + 1, 0, none⟩), u5, .pointer (some ⟨w.heap.size + 2, 0, none⟩), .pointer (some ⟨w.heap.size + 3, 0, none⟩), .int .i64 30, u9, u10, u11, .int .i64 30, u13, u14, u15, u16, u17, u18, u19, u20, u21, u22, u23, u24, u25, u26, u27, u28, u29, u30, u31, u32, u33, u34, u35, u36, u37, u38, u39, u40, u41, u42, u43, u44, u45, u46, u47, u48, u49, u50, u51, u52, u53, u54, u55, u56, u57, u58, u59, u60, u61, u62, u63, u64, u65, u66, u67, u68, u69, u70, u71, u72, u73, u74, u75, u76, u77, u78, u79, u80, u81, u82, u83, u84, u85, u86, u87, u88, u89, u90, u91, u92, u93, u94, u95, u96, u97, u98, u99, u100, u101, u102, u103, u104, u105, u106, u107, v108, v109, v110, u111, u112, u113, u114, u115, u116, u117, u118, u119, u120, u121, u122, u123, u124, u125, u126, u127], []⟩ w9) :
    Code.wp Try.prog apReg26 (Exit.then K (fun _ _ _ => False)) ⟨#[u0, u1, u2, .pointer (some ⟨w.heap.size, 0, none⟩), .pointer (some ⟨w.heap.size + 1, 0, none⟩), u5, .pointer (some ⟨w.heap.size + 2, 0, none⟩), .pointer (some ⟨w.heap.size + 3, 0, none⟩), u8, u9, u10, u11, .int .i64 30, u13, u14, u15, u16, u17, u18, u19, u20, u21, u22, u23, u24, u25, u26, u27, u28, u29, u30, u31, u32, u33, u34, u35, u36, u37, u38, u39, u40, u41, u42, u43, u44, u45, u46, u47, u48, u49, u50, u51, u52, u53, u54, u55, u56, u57, u58, u59, u60, u61, u62, u63, u64, u65, u66, u67, u68, u69, u70, u71, u72, u73, u74, u75, u76, u77, u78, u79, u80, u81, u82, u83, u84, u85, u86, u87, u88, u89, u90, u91, u92, u93, u94, u95, u96, u97, u98, u99, u100, u101, u102, u103, u104, u105, u106, u107, u108, u109, u110, u111, u112, u113, u114, u115, u116, u117, u118, u119, u120, u121, u122, u123, u124, u125, u126, u127], []⟩ w14 := by
  conv => arg 2; whnf
  have HK := Lib.hid hK0
  clear hK0
  obtain ⟨Q1, Q2, Q3, q1, q2, q3, g1, g2, g3, sq, lq, hgq, hvq⟩ := HX.out.box
  have hlg := HX.out.log
  have hr1 := HX.out.res1
  have hr2 := HX.out.res2
  have x0 := cell_of_row w14 (w.heap.size) 0 _ _ _ hgq; have x1 := cell_of_row w14 (w.heap.size) 1 _ _ _ hgq; have x2 := cell_of_row w14 (w.heap.size) 2 _ _ _ hgq; have x3 := cell_of_row w14 (w.heap.size) 3 _ _ _ hgq; have x4 := cell_of_row w14 (w.heap.size) 4 _ _ _ hgq
  have k0 := cell_of_row w14 (w.heap.size + 1) 0 _ _ _ hlg; have k1 := cell_of_row w14 (w.heap.size + 1) 1 _ _ _ hlg; have k2 := cell_of_row w14 (w.heap.size + 1) 2 _ _ _ hlg; have k3 := cell_of_row w14 (w.heap.size + 1) 3 _ _ _ hlg
  have y0 := cell_of_row w14 (w.heap.size + 2) 0 _ _ _ hr1; have y1 := cell_of_row w14 (w.heap.size + 2) 1 _ _ _ hr1; have y2 := cell_of_row w14 (w.heap.size + 2) 2 _ _ _ hr1; have y3 := cell_of_row w14 (w.heap.size + 2) 3 _ _ _ hr1; have y4 := cell_of_row w14 (w.heap.size + 2) 4 _ _ _ hr1
  have yf0 := frozen_of_row w14 (w.heap.size + 2) 0 _ _ hr1; have yf1 := frozen_of_row w14 (w.heap.size + 2) 1 _ _ hr1; have yf2 := frozen_of_row w14 (w.heap.size + 2) 2 _ _ hr1; have yf3 := frozen_of_row w14 (w.heap.size + 2) 3 _ _ hr1; have yf4 := frozen_of_row w14 (w.heap.size + 2) 4 _ _ hr1
  have z0 := cell_of_row w14 (w.heap.size + 3) 0 _ _ _ hr2; have z1 := cell_of_row w14 (w.heap.size + 3) 1 _ _ _ hr2; have z2 := cell_of_row w14 (w.heap.size + 3) 2 _ _ _ hr2; have z3 := cell_of_row w14 (w.heap.size + 3) 3 _ _ _ hr2
  have zf0 := frozen_of_row w14 (w.heap.size + 3) 0 _ _ hr2; have zf1 := frozen_of_row w14 (w.heap.size + 3) 1 _ _ hr2; have zf2 := frozen_of_row w14 (w.heap.size + 3) 2 _ _ hr2; have zf3 := frozen_of_row w14 (w.heap.size + 3) 3 _ _ hr2
  have hdn := ApX.end_ (HX.out.done hvq (.slice Q1 q1 g1) (.slice Q2 q2 g2) (.slice Q3 q3 g3) (.int .i64 sq) (.int .i64 lq) (.int .i64 first) (.int .i64 C) (.slice A R.length c) (.int .i64 next)) HX.out.recs hs0
  have HDN := Lib.hid hdn
  have hsa : ∀ WW, Below w14.heap.size w14 WW → (WW.cell? ⟨w.heap.size, 0, none⟩ = some (.slice Q1 q1 g1) ∧ WW.cell? ⟨w.heap.size, 1, none⟩ = some (.slice Q2 q2 g2) ∧ WW.cell? ⟨w.heap.size, 2, none⟩ = some (.slice Q3 q3 g3) ∧ WW.cell? ⟨w.heap.size, 3, none⟩ = some (.int .i64 sq) ∧ WW.cell? ⟨w.heap.size, 4, none⟩ = some (.int .i64 lq)) ∧ WW.cell? ⟨w.heap.size + 1, 0, none⟩ = some (.int .i64 first) ∧ WW.cell? ⟨w.heap.size + 1, 1, none⟩ = some (.int .i64 C) ∧ WW.cell? ⟨w.heap.size + 1, 2, none⟩ = some (.slice A R.length c) ∧ WW.cell? ⟨w.heap.size + 1, 3, none⟩ = some (.int .i64 next) := fun WW hW => by
    have g1 := (hW.block _ (heap_lt hgq)).trans hgq
    have g2 := (hW.block _ (heap_lt hlg)).trans hlg
    exact ⟨⟨cell_of_row _ _ 0 _ _ _ g1, cell_of_row _ _ 1 _ _ _ g1, cell_of_row _ _ 2 _ _ _ g1, cell_of_row _ _ 3 _ _ _ g1, cell_of_row _ _ 4 _ _ _ g1⟩, cell_of_row _ _ 0 _ _ _ g2, cell_of_row _ _ 1 _ _ _ g2, cell_of_row _ _ 2 _ _ _ g2, cell_of_row _ _ 3 _ _ _ g2⟩
  have HSA := Lib.hid (hsa w14.drew (Below.refl _ _).drew)
  have hf5 := (fr5 w14 (w.heap.size + 2) (.slice Q1 q1 g1) (.slice Q2 q2 g2) (.slice Q3 q3 g3) (.int .i64 sq) (.int .i64 lq)).drew
  have hx5 := (hf5.block _ (heap_lt hgq) (by simp)).trans hgq
  have hl5 := (hf5.block _ (heap_lt hlg) (by simp)).trans hlg
  have HSB := Lib.hid (And.intro (And.intro (cell_of_row _ _ 0 _ _ _ hx5) (And.intro (cell_of_row _ _ 1 _ _ _ hx5) (And.intro (cell_of_row _ _ 2 _ _ _ hx5) (And.intro (cell_of_row _ _ 3 _ _ _ hx5) (cell_of_row _ _ 4 _ _ _ hx5))))) (And.intro (cell_of_row _ _ 0 _ _ _ hl5) (And.intro (cell_of_row _ _ 1 _ _ _ hl5) (And.intro (cell_of_row _ _ 2 _ _ _ hl5) (cell_of_row _ _ 3 _ _ _ hl5)))))
  have hf6 := (HX.out.done hvq (.slice Q1 q1 g1) (.slice Q2 q2 g2) (.slice Q3 q3 g3) (.int .i64 sq) (.int .i64 lq) (.int .i64 first) (.int .i64 C) (.slice A R.length c) (.int .i64 next)).2.2.2.2.drew
  have hx6 := (hf6.block _ (heap_lt hgq) (by simp)).trans hgq
  have hl6 := (hf6.block _ (heap_lt hlg) (by simp)).trans hlg
  have HSD := Lib.hid (And.intro (And.intro (cell_of_row _ _ 0 _ _ _ hx6) (And.intro (cell_of_row _ _ 1 _ _ _ hx6) (And.intro (cell_of_row _ _ 2 _ _ _ hx6) (And.intro (cell_of_row _ _ 3 _ _ _ hx6) (cell_of_row _ _ 4 _ _ _ hx6))))) (And.intro (cell_of_row _ _ 0 _ _ _ hl6) (And.intro (cell_of_row _ _ 1 _ _ _ hl6) (And.intro (cell_of_row _ _ 2 _ _ _ hl6) (cell_of_row _ _ 3 _ _ _ hl6)))))
  clear hf5 hx5 hl5 hf6 hx6 hl6 hsa hdn hgq hvq hlg hr1 hr2 hs0
  refine wp_region_M (fun j => decide (j < 5)) (fun w' => (w'.cell? ⟨w.heap.size, 0, none⟩ = some (.slice Q1 q1 g1) ∧ w'.cell? ⟨w.heap.size, 1, none⟩ = some (.slice Q2 q2 g2) ∧ w'.cell? ⟨w.heap.size, 2, none⟩ = some (.slice Q3 q3 g3) ∧ w'.cell? ⟨w.heap.size, 3, none⟩ = some (.int .i64 sq) ∧ w'.cell? ⟨w.heap.size, 4, none⟩ = some (.int .i64 lq)) ∧ w'.cell? ⟨w.heap.size + 1, 0, none⟩ = some (.int .i64 first) ∧ w'.cell? ⟨w.heap.size + 1, 1, none⟩ = some (.int .i64 C) ∧ w'.cell? ⟨w.heap.size + 1, 2, none⟩ = some (.slice A R.length c) ∧ w'.cell? ⟨w.heap.size + 1, 3, none⟩ = some (.int .i64 next)) (by kernel_rfl) ?_
  refine wpAnyM_take (i := 0) (v := ?_) rfl (by kernel_rfl) (by kernel_rfl) (by kernel_rfl) (by kernel_rfl) (fun _ _ _ h => h) (Or.inl ⟨by rfl, ?_⟩) HSA.out ?_
  rotate_left
  · intro w hSw; (try dsimp only at hSw); go_simp; (try with_reducible rfl)
  simp only [Act.put, List.getElem_toArray, List.getElem_cons_zero, List.getElem_cons_succ, List.setIfInBounds_toArray, List.set_cons_zero, List.set_cons_succ]
  refine wpAnyM_take (i := 1) (v := ?_) rfl (by kernel_rfl) (by kernel_rfl) (by kernel_rfl) (by kernel_rfl) (fun _ _ _ h => h) (Or.inl ⟨by rfl, ?_⟩) HSA.out ?_
  rotate_left
  · intro w hSw; (try dsimp only at hSw); go_simp; (try with_reducible rfl)
  simp only [Act.put, List.getElem_toArray, List.getElem_cons_zero, List.getElem_cons_succ, List.setIfInBounds_toArray, List.set_cons_zero, List.set_cons_succ]
  refine wpAnyM_take (i := 2) (v := ?_) rfl (by kernel_rfl) (by kernel_rfl) (by kernel_rfl) (by kernel_rfl) (fun _ _ _ h => h) (Or.inl ⟨by rfl, ?_⟩) HSA.out ?_
  rotate_left
  · intro w hSw; (try dsimp only at hSw); go_simp; (try with_reducible rfl)
  simp only [Act.put, List.getElem_toArray, List.getElem_cons_zero, List.getElem_cons_succ, List.setIfInBounds_toArray, List.set_cons_zero, List.set_cons_succ]
  refine wpAnyM_one (i := 3) (by kernel_rfl) rfl (fun K' hK => ?_)
  go_simp
  refine hK.out _ _ (fun _ => HSB.out) ?_
  clear hK K'
  refine wpAnyM_one (i := 4) (by kernel_rfl) rfl (fun K' hK => ?_)
  go_simp
  refine hK.out _ _ (fun _ => HSD.out) ?_
  clear hK K'
  refine wpAnyM_value (i := 5) (v := ?_) rfl (by kernel_rfl) (by kernel_rfl) (by kernel_rfl) (by kernel_rfl) (fun _ _ _ h => h) (Or.inl ⟨by rfl, ?_⟩) ?_
  rotate_left
  · intro w hSw; go_simp; (try with_reducible rfl)
  simp only [Act.put, List.getElem_toArray, List.getElem_cons_zero, List.getElem_cons_succ, List.setIfInBounds_toArray, List.set_cons_zero, List.set_cons_succ]
  refine wpAnyM_done (by kernel_rfl) ?_ _
  show K _ _
  exact HK.out Q1 Q2 Q3 q1 q2 q3 g1 g2 g3 sq lq _ _ _ _ HDN.out.1 HDN.out.2.1 HDN.out.2.2.1 HDN.out.2.2.2.1 HDN.out.2.2.2.2
noncomputable def apReg28 : Code := ((Try.f10.body.bind (findReg 28)).getD .skip)
set_option maxRecDepth 1000000 in
set_option maxHeartbeats 4000000 in
theorem ra28 {w w7 : World} {a0 a1 a2 : Value} {next next' : Int} {K : Act → World → Prop} (hlg : w7.heap[w.heap.size + 1]? = some (.cells #[a0, a1, a2, .int .i64 next] 42 (0, 0))) (hnx : wrap64 (next + 1) = next')
    (u0 u1 u2 u3 u5 u6 u7 u8 u9 u10 u11 u12 u13 u14 u15 u16 u17 u18 u19 u20 u21 u22 u23 u24 u25 u26 u27 u28 u29 u30 u31 u32 u33 u34 u35 u36 u37 u38 u39 u40 u41 u42 u43 u44 u45 u46 u47 u48 u49 u50 u51 u52 u53 u54 u55 u56 u57 u58 u59 u60 u61 u62 u63 u64 u65 u66 u67 u68 u69 u70 u71 u72 u73 u74 u75 u76 u77 u78 u79 u80 u81 u82 u83 u84 u85 u86 u87 u88 u89 u90 u91 u92 u93 u94 u95 u96 u97 u98 u99 u100 u101 u102 u103 u104 u105 u106 u107 u108 u109 u110 u111 u112 u113 u114 u115 u116 u117 u118 u119 u120 u121 u122 u123 u124 u125 u126 u127 : Value) (hK0 : ∀ (v122 v123 v124 v125 : Value), K ⟨#[u0, u1, u2, u3, .pointer (some ⟨w.heap.size + 1, 0, none⟩), u5, u6, u7, u8, u9, u10, u11, u12, u13, u14, u15, u16, u17, u18, u19, u20, u21, u22, u23, u24, u25, u26, u27, u28, u29, u30, u31, u32, u33, u34, u35, u36, u37, u38, u39, u40, u41, u42, u43, u44, u45, u46, u47, u48, u49, u50, u51, u52, u53, u54, u55, u56, u57, u58, u59, u60, u61, u62, u63, u64, u65, u66, u67, u68, u69, u70, u71, u72, u73, u74, u75, u76, u77, u78, u79, u80, u81, u82, u83, u84, u85, u86, u87, u88, u89, u90, u91, u92, u93, u94, u95, u96, u97, u98, u99, u100, u101, u102, u103, u104, u105, u106, u107, u108, u109, u110, u111, u112, u113, u114, u115, u116, u117, u118, u119, u120, u121, v122, v123, v124, v125, u126, u127], []⟩ (w7.setCell ⟨w.heap.size + 1, 3, none⟩ (.int .i64 next'))) :
    Code.wp Try.prog apReg28 (Exit.then K (fun _ _ _ => False)) ⟨#[u0, u1, u2, u3, .pointer (some ⟨w.heap.size + 1, 0, none⟩), u5, u6, u7, u8, u9, u10, u11, u12, u13, u14, u15, u16, u17, u18, u19, u20, u21, u22, u23, u24, u25, u26, u27, u28, u29, u30, u31, u32, u33, u34, u35, u36, u37, u38, u39, u40, u41, u42, u43, u44, u45, u46, u47, u48, u49, u50, u51, u52, u53, u54, u55, u56, u57, u58, u59, u60, u61, u62, u63, u64, u65, u66, u67, u68, u69, u70, u71, u72, u73, u74, u75, u76, u77, u78, u79, u80, u81, u82, u83, u84, u85, u86, u87, u88, u89, u90, u91, u92, u93, u94, u95, u96, u97, u98, u99, u100, u101, u102, u103, u104, u105, u106, u107, u108, u109, u110, u111, u112, u113, u114, u115, u116, u117, u118, u119, u120, u121, u122, u123, u124, u125, u126, u127], []⟩ w7 := by
  conv => arg 2; whnf
  have HK := Lib.hid hK0
  have k3 := cell_of_row w7 (w.heap.size + 1) 3 _ _ _ hlg
  have kf3 := frozen_of_row w7 (w.heap.size + 1) 3 _ _ hlg
  clear hK0 hlg
  go_wp2_with (fail)
  show K _ _
  exact HK.out _ _ _ _
end Go.Proofs.Ytajakmfloeefpaa
/- The document's Reset: its ways out. -/
namespace Go.Proofs.Ytajakmfloeefpaa
open Go.RowKit Go.Maps

theorem resReset {w : World} {b c : Nat} {v0 v1 v2 v3 v4 u0 u1 u2 u3 : Value} (h : w.heap[b]? = some (.cells #[v0, v1, v2, v3, v4] 33 (0, 0))) (k : w.heap[c]? = some (.cells #[u0, u1, u2, u3] 42 (0, 0))) (tmps : Array Value) (h6 : tmps.getD 6 undef = .pointer (some ⟨b, 0, none⟩)) (h7 : tmps.getD 7 undef = .pointer (some ⟨c, 0, none⟩)) :
    (results Try.f12 tmps).run Try.prog w = .ok (.tuple #[.agg #[v0, v1, v2, v3, v4], .agg #[u0, u1, u2, u3], tmps.getD 8 undef]) w := by
  have e0 := cell_of_row w b 0 _ _ _ h; have e1 := cell_of_row w b 1 _ _ _ h; have e2 := cell_of_row w b 2 _ _ _ h; have e3 := cell_of_row w b 3 _ _ _ h; have e4 := cell_of_row w b 4 _ _ _ h
  have d0 := cell_of_row w c 0 _ _ _ k; have d1 := cell_of_row w c 1 _ _ _ k; have d2 := cell_of_row w c 2 _ _ _ k; have d3 := cell_of_row w c 3 _ _ _ k
  have h6' := h6
  have h7' := h7
  simp only [Array.getD_eq_getD_getElem?] at h6' h7'
  simp [results, Try.results12, go_sem, h6', h7', e0, e1, e2, e3, e4, d0, d1, d2, d3]
noncomputable def reReg2 : Code := ((Try.f12.body.bind (findReg 2)).getD .skip)
set_option maxRecDepth 1000000 in
set_option maxHeartbeats 4000000 in
theorem re2 {w w14 : World} {X : List Nat} {M : DM} {lo c : Nat} {A : Option Addr} {R : List Rec} {first C next : Int} {K : Act → World → Prop} (HX : Hid (ApX w w14 X M lo A c R first C next)) (hs0 : ∀ s ∈ (Value.slice A R.length c).ownBlock.toList, s ∉ [w.heap.size + 2, w.heap.size + 3])
    (u0 u1 u2 u5 u8 u9 u10 u11 u12 u13 u14 u15 u16 u17 u18 u19 u20 u21 u22 u23 u24 u25 u26 u27 u28 u29 u30 u31 u32 u33 u34 u35 u36 u37 u38 u39 u40 u41 u42 u43 u44 u45 u46 u47 u48 u49 u50 u51 u52 u53 u54 u55 u56 u57 u58 u59 u60 u61 u62 u63 u64 u65 u66 u67 u68 u69 u70 u71 u72 u73 u74 u75 u76 u77 u78 u79 u80 u81 u82 u83 u84 : Value)
    (hK0 : ∀ (Q1 Q2 Q3 : Option Addr) (q1 q2 q3 g1 g2 g3 : Nat) (sq lq : Int) (v21 v22 : Value) (w9 : World), w9.heap[w.heap.size + 2]? = some (.cells #[.slice Q1 q1 g1, .slice Q2 q2 g2, .slice Q3 q3 g3, .int .i64 sq, .int .i64 lq] 33 (0, 0)) → w9.heap[w.heap.size + 3]? = some (.cells #[.int .i64 first, .int .i64 C, .slice A R.length c, .int .i64 next] 42 (0, 0)) → RefV w9 X (refOf M) (.agg #[.slice Q1 q1 g1, .slice Q2 q2 g2, .slice Q3 q3 g3, .int .i64 sq, .int .i64 lq]) → w9.ownsRow lo 80 2 (.slice A R.length c) R.length (recS R) → Below w.heap.size w w9 → K ⟨#[u0, u1, u2, .pointer (some ⟨w.heap.size, 0, none⟩), .pointer (some ⟨w.heap.size + 1, 0, none⟩), u5, .pointer (some ⟨w.heap.size + 2, 0, none⟩), .pointer (some ⟨w.heap.size + 3, 0, none⟩), .int .i64 1, u9, u10, u11, u12, u13, u14, u15, u16, u17, u18, u19, u20, v21, v22, u23, u24, u25, u26, u27, u28, u29, u30, u31, u32, u33, u34, u35, u36, u37, u38, u39, u40, u41, u42, u43, u44, u45, u46, u47, u48, u49, u50, u51, u52, u53, u54, u55, u56, u57, u58, u59, u60, u61, u62, u63, u64, u65, u66, u67, u68, u69, u70, u71, u72, u73, u74, u75, u76, u77, u78, u79, u80, u81, u82, u83, u84], []⟩ w9) :
    Code.wp Try.prog reReg2 (Exit.then K (fun _ _ _ => False)) ⟨#[u0, u1, u2, .pointer (some ⟨w.heap.size, 0, none⟩), .pointer (some ⟨w.heap.size + 1, 0, none⟩), u5, .pointer (some ⟨w.heap.size + 2, 0, none⟩), .pointer (some ⟨w.heap.size + 3, 0, none⟩), u8, u9, u10, u11, u12, u13, u14, u15, u16, u17, u18, u19, u20, u21, u22, u23, u24, u25, u26, u27, u28, u29, u30, u31, u32, u33, u34, u35, u36, u37, u38, u39, u40, u41, u42, u43, u44, u45, u46, u47, u48, u49, u50, u51, u52, u53, u54, u55, u56, u57, u58, u59, u60, u61, u62, u63, u64, u65, u66, u67, u68, u69, u70, u71, u72, u73, u74, u75, u76, u77, u78, u79, u80, u81, u82, u83, u84], []⟩ w14 := by
  conv => arg 2; whnf
  have HK := Lib.hid hK0
  clear hK0
  obtain ⟨Q1, Q2, Q3, q1, q2, q3, g1, g2, g3, sq, lq, hgq, hvq⟩ := HX.out.box
  have hlg := HX.out.log
  have hr1 := HX.out.res1
  have hr2 := HX.out.res2
  have x0 := cell_of_row w14 (w.heap.size) 0 _ _ _ hgq; have x1 := cell_of_row w14 (w.heap.size) 1 _ _ _ hgq; have x2 := cell_of_row w14 (w.heap.size) 2 _ _ _ hgq; have x3 := cell_of_row w14 (w.heap.size) 3 _ _ _ hgq; have x4 := cell_of_row w14 (w.heap.size) 4 _ _ _ hgq
  have k0 := cell_of_row w14 (w.heap.size + 1) 0 _ _ _ hlg; have k1 := cell_of_row w14 (w.heap.size + 1) 1 _ _ _ hlg; have k2 := cell_of_row w14 (w.heap.size + 1) 2 _ _ _ hlg; have k3 := cell_of_row w14 (w.heap.size + 1) 3 _ _ _ hlg
  have y0 := cell_of_row w14 (w.heap.size + 2) 0 _ _ _ hr1; have y1 := cell_of_row w14 (w.heap.size + 2) 1 _ _ _ hr1; have y2 := cell_of_row w14 (w.heap.size + 2) 2 _ _ _ hr1; have y3 := cell_of_row w14 (w.heap.size + 2) 3 _ _ _ hr1; have y4 := cell_of_row w14 (w.heap.size + 2) 4 _ _ _ hr1
  have yf0 := frozen_of_row w14 (w.heap.size + 2) 0 _ _ hr1; have yf1 := frozen_of_row w14 (w.heap.size + 2) 1 _ _ hr1; have yf2 := frozen_of_row w14 (w.heap.size + 2) 2 _ _ hr1; have yf3 := frozen_of_row w14 (w.heap.size + 2) 3 _ _ hr1; have yf4 := frozen_of_row w14 (w.heap.size + 2) 4 _ _ hr1
  have z0 := cell_of_row w14 (w.heap.size + 3) 0 _ _ _ hr2; have z1 := cell_of_row w14 (w.heap.size + 3) 1 _ _ _ hr2; have z2 := cell_of_row w14 (w.heap.size + 3) 2 _ _ _ hr2; have z3 := cell_of_row w14 (w.heap.size + 3) 3 _ _ _ hr2
  have zf0 := frozen_of_row w14 (w.heap.size + 3) 0 _ _ hr2; have zf1 := frozen_of_row w14 (w.heap.size + 3) 1 _ _ hr2; have zf2 := frozen_of_row w14 (w.heap.size + 3) 2 _ _ hr2; have zf3 := frozen_of_row w14 (w.heap.size + 3) 3 _ _ hr2
  have hdn := ApX.end_ (HX.out.done hvq (.slice Q1 q1 g1) (.slice Q2 q2 g2) (.slice Q3 q3 g3) (.int .i64 sq) (.int .i64 lq) (.int .i64 first) (.int .i64 C) (.slice A R.length c) (.int .i64 next)) HX.out.recs hs0
  have HDN := Lib.hid hdn
  have hsa : ∀ WW, Below w14.heap.size w14 WW → (WW.cell? ⟨w.heap.size, 0, none⟩ = some (.slice Q1 q1 g1) ∧ WW.cell? ⟨w.heap.size, 1, none⟩ = some (.slice Q2 q2 g2) ∧ WW.cell? ⟨w.heap.size, 2, none⟩ = some (.slice Q3 q3 g3) ∧ WW.cell? ⟨w.heap.size, 3, none⟩ = some (.int .i64 sq) ∧ WW.cell? ⟨w.heap.size, 4, none⟩ = some (.int .i64 lq)) ∧ WW.cell? ⟨w.heap.size + 1, 0, none⟩ = some (.int .i64 first) ∧ WW.cell? ⟨w.heap.size + 1, 1, none⟩ = some (.int .i64 C) ∧ WW.cell? ⟨w.heap.size + 1, 2, none⟩ = some (.slice A R.length c) ∧ WW.cell? ⟨w.heap.size + 1, 3, none⟩ = some (.int .i64 next) := fun WW hW => by
    have g1 := (hW.block _ (heap_lt hgq)).trans hgq
    have g2 := (hW.block _ (heap_lt hlg)).trans hlg
    exact ⟨⟨cell_of_row _ _ 0 _ _ _ g1, cell_of_row _ _ 1 _ _ _ g1, cell_of_row _ _ 2 _ _ _ g1, cell_of_row _ _ 3 _ _ _ g1, cell_of_row _ _ 4 _ _ _ g1⟩, cell_of_row _ _ 0 _ _ _ g2, cell_of_row _ _ 1 _ _ _ g2, cell_of_row _ _ 2 _ _ _ g2, cell_of_row _ _ 3 _ _ _ g2⟩
  have HSA := Lib.hid (hsa w14.drew (Below.refl _ _).drew)
  have hf5 := (fr5 w14 (w.heap.size + 2) (.slice Q1 q1 g1) (.slice Q2 q2 g2) (.slice Q3 q3 g3) (.int .i64 sq) (.int .i64 lq)).drew
  have hx5 := (hf5.block _ (heap_lt hgq) (by simp)).trans hgq
  have hl5 := (hf5.block _ (heap_lt hlg) (by simp)).trans hlg
  have HSB := Lib.hid (And.intro (And.intro (cell_of_row _ _ 0 _ _ _ hx5) (And.intro (cell_of_row _ _ 1 _ _ _ hx5) (And.intro (cell_of_row _ _ 2 _ _ _ hx5) (And.intro (cell_of_row _ _ 3 _ _ _ hx5) (cell_of_row _ _ 4 _ _ _ hx5))))) (And.intro (cell_of_row _ _ 0 _ _ _ hl5) (And.intro (cell_of_row _ _ 1 _ _ _ hl5) (And.intro (cell_of_row _ _ 2 _ _ _ hl5) (cell_of_row _ _ 3 _ _ _ hl5)))))
  have hf6 := (HX.out.done hvq (.slice Q1 q1 g1) (.slice Q2 q2 g2) (.slice Q3 q3 g3) (.int .i64 sq) (.int .i64 lq) (.int .i64 first) (.int .i64 C) (.slice A R.length c) (.int .i64 next)).2.2.2.2.drew
  have hx6 := (hf6.block _ (heap_lt hgq) (by simp)).trans hgq
  have hl6 := (hf6.block _ (heap_lt hlg) (by simp)).trans hlg
  have HSD := Lib.hid (And.intro (And.intro (cell_of_row _ _ 0 _ _ _ hx6) (And.intro (cell_of_row _ _ 1 _ _ _ hx6) (And.intro (cell_of_row _ _ 2 _ _ _ hx6) (And.intro (cell_of_row _ _ 3 _ _ _ hx6) (cell_of_row _ _ 4 _ _ _ hx6))))) (And.intro (cell_of_row _ _ 0 _ _ _ hl6) (And.intro (cell_of_row _ _ 1 _ _ _ hl6) (And.intro (cell_of_row _ _ 2 _ _ _ hl6) (cell_of_row _ _ 3 _ _ _ hl6)))))
  clear hf5 hx5 hl5 hf6 hx6 hl6 hsa hdn hgq hvq hlg hr1 hr2 hs0
  refine wp_region_M (fun j => decide (j < 4)) (fun w' => (w'.cell? ⟨w.heap.size, 0, none⟩ = some (.slice Q1 q1 g1) ∧ w'.cell? ⟨w.heap.size, 1, none⟩ = some (.slice Q2 q2 g2) ∧ w'.cell? ⟨w.heap.size, 2, none⟩ = some (.slice Q3 q3 g3) ∧ w'.cell? ⟨w.heap.size, 3, none⟩ = some (.int .i64 sq) ∧ w'.cell? ⟨w.heap.size, 4, none⟩ = some (.int .i64 lq)) ∧ w'.cell? ⟨w.heap.size + 1, 0, none⟩ = some (.int .i64 first) ∧ w'.cell? ⟨w.heap.size + 1, 1, none⟩ = some (.int .i64 C) ∧ w'.cell? ⟨w.heap.size + 1, 2, none⟩ = some (.slice A R.length c) ∧ w'.cell? ⟨w.heap.size + 1, 3, none⟩ = some (.int .i64 next)) (by kernel_rfl) ?_
  refine wpAnyM_take (i := 0) (v := ?_) rfl (by kernel_rfl) (by kernel_rfl) (by kernel_rfl) (by kernel_rfl) (fun _ _ _ h => h) (Or.inl ⟨by rfl, ?_⟩) HSA.out ?_
  rotate_left
  · intro w hSw; (try dsimp only at hSw); go_simp; (try with_reducible rfl)
  simp only [Act.put, List.getElem_toArray, List.getElem_cons_zero, List.getElem_cons_succ, List.setIfInBounds_toArray, List.set_cons_zero, List.set_cons_succ]
  refine wpAnyM_take (i := 1) (v := ?_) rfl (by kernel_rfl) (by kernel_rfl) (by kernel_rfl) (by kernel_rfl) (fun _ _ _ h => h) (Or.inl ⟨by rfl, ?_⟩) HSA.out ?_
  rotate_left
  · intro w hSw; (try dsimp only at hSw); go_simp; (try with_reducible rfl)
  simp only [Act.put, List.getElem_toArray, List.getElem_cons_zero, List.getElem_cons_succ, List.setIfInBounds_toArray, List.set_cons_zero, List.set_cons_succ]
  refine wpAnyM_one (i := 2) (by kernel_rfl) rfl (fun K' hK => ?_)
  go_simp
  refine hK.out _ _ (fun _ => HSB.out) ?_
  clear hK K'
  refine wpAnyM_one (i := 3) (by kernel_rfl) rfl (fun K' hK => ?_)
  go_simp
  refine hK.out _ _ (fun _ => HSD.out) ?_
  clear hK K'
  refine wpAnyM_value (i := 4) (v := ?_) rfl (by kernel_rfl) (by kernel_rfl) (by kernel_rfl) (by kernel_rfl) (fun _ _ _ h => h) (Or.inl ⟨by rfl, ?_⟩) ?_
  rotate_left
  · intro w hSw; go_simp; (try with_reducible rfl)
  simp only [Act.put, List.getElem_toArray, List.getElem_cons_zero, List.getElem_cons_succ, List.setIfInBounds_toArray, List.set_cons_zero, List.set_cons_succ]
  refine wpAnyM_done (by kernel_rfl) ?_ _
  show K _ _
  exact HK.out Q1 Q2 Q3 q1 q2 q3 g1 g2 g3 sq lq _ _ _ HDN.out.1 HDN.out.2.1 HDN.out.2.2.1 HDN.out.2.2.2.1 HDN.out.2.2.2.2
noncomputable def reReg22 : Code := ((Try.f12.body.bind (findReg 22)).getD .skip)
set_option maxRecDepth 1000000 in
set_option maxHeartbeats 4000000 in
theorem re22 {w w14 : World} {X : List Nat} {M : DM} {lo c : Nat} {A : Option Addr} {R : List Rec} {first C next : Int} {K : Act → World → Prop} (HX : Hid (ApX w w14 X M lo A c R first C next)) (hs0 : ∀ s ∈ (Value.slice A R.length c).ownBlock.toList, s ∉ [w.heap.size + 2, w.heap.size + 3])
    (u0 u1 u2 u5 u8 u9 u10 u11 u12 u13 u15 u16 u17 u18 u19 u20 u21 u22 u23 u24 u25 u26 u27 u28 u29 u30 u31 u32 u33 u34 u35 u36 u37 u38 u39 u40 u41 u42 u43 u44 u45 u46 u47 u48 u49 u50 u51 u52 u53 u54 u55 u56 u57 u58 u59 u60 u61 u62 u63 u64 u65 u66 u67 u68 u69 u70 u71 u72 u73 u74 u75 u76 u77 u78 u79 u80 u81 u82 u83 u84 : Value)
    (hK0 : ∀ (Q1 Q2 Q3 : Option Addr) (q1 q2 q3 g1 g2 g3 : Nat) (sq lq : Int) (v75 v76 v77 : Value) (w9 : World), w9.heap[w.heap.size + 2]? = some (.cells #[.slice Q1 q1 g1, .slice Q2 q2 g2, .slice Q3 q3 g3, .int .i64 sq, .int .i64 lq] 33 (0, 0)) → w9.heap[w.heap.size + 3]? = some (.cells #[.int .i64 first, .int .i64 C, .slice A R.length c, .int .i64 next] 42 (0, 0)) → RefV w9 X (refOf M) (.agg #[.slice Q1 q1 g1, .slice Q2 q2 g2, .slice Q3 q3 g3, .int .i64 sq, .int .i64 lq]) → w9.ownsRow lo 80 2 (.slice A R.length c) R.length (recS R) → Below w.heap.size w w9 → K ⟨#[u0, u1, u2, .pointer (some ⟨w.heap.size, 0, none⟩), .pointer (some ⟨w.heap.size + 1, 0, none⟩), u5, .pointer (some ⟨w.heap.size + 2, 0, none⟩), .pointer (some ⟨w.heap.size + 3, 0, none⟩), .int .i64 30, u9, u10, u11, u12, u13, .int .i64 30, u15, u16, u17, u18, u19, u20, u21, u22, u23, u24, u25, u26, u27, u28, u29, u30, u31, u32, u33, u34, u35, u36, u37, u38, u39, u40, u41, u42, u43, u44, u45, u46, u47, u48, u49, u50, u51, u52, u53, u54, u55, u56, u57, u58, u59, u60, u61, u62, u63, u64, u65, u66, u67, u68, u69, u70, u71, u72, u73, u74, v75, v76, v77, u78, u79, u80, u81, u82, u83, u84], []⟩ w9) :
    Code.wp Try.prog reReg22 (Exit.then K (fun _ _ _ => False)) ⟨#[u0, u1, u2, .pointer (some ⟨w.heap.size, 0, none⟩), .pointer (some ⟨w.heap.size + 1, 0, none⟩), u5, .pointer (some ⟨w.heap.size + 2, 0, none⟩), .pointer (some ⟨w.heap.size + 3, 0, none⟩), u8, u9, u10, u11, u12, u13, .int .i64 30, u15, u16, u17, u18, u19, u20, u21, u22, u23, u24, u25, u26, u27, u28, u29, u30, u31, u32, u33, u34, u35, u36, u37, u38, u39, u40, u41, u42, u43, u44, u45, u46, u47, u48, u49, u50, u51, u52, u53, u54, u55, u56, u57, u58, u59, u60, u61, u62, u63, u64, u65, u66, u67, u68, u69, u70, u71, u72, u73, u74, u75, u76, u77, u78, u79, u80, u81, u82, u83, u84], []⟩ w14 := by
  conv => arg 2; whnf
  have HK := Lib.hid hK0
  clear hK0
  obtain ⟨Q1, Q2, Q3, q1, q2, q3, g1, g2, g3, sq, lq, hgq, hvq⟩ := HX.out.box
  have hlg := HX.out.log
  have hr1 := HX.out.res1
  have hr2 := HX.out.res2
  have x0 := cell_of_row w14 (w.heap.size) 0 _ _ _ hgq; have x1 := cell_of_row w14 (w.heap.size) 1 _ _ _ hgq; have x2 := cell_of_row w14 (w.heap.size) 2 _ _ _ hgq; have x3 := cell_of_row w14 (w.heap.size) 3 _ _ _ hgq; have x4 := cell_of_row w14 (w.heap.size) 4 _ _ _ hgq
  have k0 := cell_of_row w14 (w.heap.size + 1) 0 _ _ _ hlg; have k1 := cell_of_row w14 (w.heap.size + 1) 1 _ _ _ hlg; have k2 := cell_of_row w14 (w.heap.size + 1) 2 _ _ _ hlg; have k3 := cell_of_row w14 (w.heap.size + 1) 3 _ _ _ hlg
  have y0 := cell_of_row w14 (w.heap.size + 2) 0 _ _ _ hr1; have y1 := cell_of_row w14 (w.heap.size + 2) 1 _ _ _ hr1; have y2 := cell_of_row w14 (w.heap.size + 2) 2 _ _ _ hr1; have y3 := cell_of_row w14 (w.heap.size + 2) 3 _ _ _ hr1; have y4 := cell_of_row w14 (w.heap.size + 2) 4 _ _ _ hr1
  have yf0 := frozen_of_row w14 (w.heap.size + 2) 0 _ _ hr1; have yf1 := frozen_of_row w14 (w.heap.size + 2) 1 _ _ hr1; have yf2 := frozen_of_row w14 (w.heap.size + 2) 2 _ _ hr1; have yf3 := frozen_of_row w14 (w.heap.size + 2) 3 _ _ hr1; have yf4 := frozen_of_row w14 (w.heap.size + 2) 4 _ _ hr1
  have z0 := cell_of_row w14 (w.heap.size + 3) 0 _ _ _ hr2; have z1 := cell_of_row w14 (w.heap.size + 3) 1 _ _ _ hr2; have z2 := cell_of_row w14 (w.heap.size + 3) 2 _ _ _ hr2; have z3 := cell_of_row w14 (w.heap.size + 3) 3 _ _ _ hr2
  have zf0 := frozen_of_row w14 (w.heap.size + 3) 0 _ _ hr2; have zf1 := frozen_of_row w14 (w.heap.size + 3) 1 _ _ hr2; have zf2 := frozen_of_row w14 (w.heap.size + 3) 2 _ _ hr2; have zf3 := frozen_of_row w14 (w.heap.size + 3) 3 _ _ hr2
  have hdn := ApX.end_ (HX.out.done hvq (.slice Q1 q1 g1) (.slice Q2 q2 g2) (.slice Q3 q3 g3) (.int .i64 sq) (.int .i64 lq) (.int .i64 first) (.int .i64 C) (.slice A R.length c) (.int .i64 next)) HX.out.recs hs0
  have HDN := Lib.hid hdn
  have hsa : ∀ WW, Below w14.heap.size w14 WW → (WW.cell? ⟨w.heap.size, 0, none⟩ = some (.slice Q1 q1 g1) ∧ WW.cell? ⟨w.heap.size, 1, none⟩ = some (.slice Q2 q2 g2) ∧ WW.cell? ⟨w.heap.size, 2, none⟩ = some (.slice Q3 q3 g3) ∧ WW.cell? ⟨w.heap.size, 3, none⟩ = some (.int .i64 sq) ∧ WW.cell? ⟨w.heap.size, 4, none⟩ = some (.int .i64 lq)) ∧ WW.cell? ⟨w.heap.size + 1, 0, none⟩ = some (.int .i64 first) ∧ WW.cell? ⟨w.heap.size + 1, 1, none⟩ = some (.int .i64 C) ∧ WW.cell? ⟨w.heap.size + 1, 2, none⟩ = some (.slice A R.length c) ∧ WW.cell? ⟨w.heap.size + 1, 3, none⟩ = some (.int .i64 next) := fun WW hW => by
    have g1 := (hW.block _ (heap_lt hgq)).trans hgq
    have g2 := (hW.block _ (heap_lt hlg)).trans hlg
    exact ⟨⟨cell_of_row _ _ 0 _ _ _ g1, cell_of_row _ _ 1 _ _ _ g1, cell_of_row _ _ 2 _ _ _ g1, cell_of_row _ _ 3 _ _ _ g1, cell_of_row _ _ 4 _ _ _ g1⟩, cell_of_row _ _ 0 _ _ _ g2, cell_of_row _ _ 1 _ _ _ g2, cell_of_row _ _ 2 _ _ _ g2, cell_of_row _ _ 3 _ _ _ g2⟩
  have HSA := Lib.hid (hsa w14.drew (Below.refl _ _).drew)
  have hf5 := (fr5 w14 (w.heap.size + 2) (.slice Q1 q1 g1) (.slice Q2 q2 g2) (.slice Q3 q3 g3) (.int .i64 sq) (.int .i64 lq)).drew
  have hx5 := (hf5.block _ (heap_lt hgq) (by simp)).trans hgq
  have hl5 := (hf5.block _ (heap_lt hlg) (by simp)).trans hlg
  have HSB := Lib.hid (And.intro (And.intro (cell_of_row _ _ 0 _ _ _ hx5) (And.intro (cell_of_row _ _ 1 _ _ _ hx5) (And.intro (cell_of_row _ _ 2 _ _ _ hx5) (And.intro (cell_of_row _ _ 3 _ _ _ hx5) (cell_of_row _ _ 4 _ _ _ hx5))))) (And.intro (cell_of_row _ _ 0 _ _ _ hl5) (And.intro (cell_of_row _ _ 1 _ _ _ hl5) (And.intro (cell_of_row _ _ 2 _ _ _ hl5) (cell_of_row _ _ 3 _ _ _ hl5)))))
  have hf6 := (HX.out.done hvq (.slice Q1 q1 g1) (.slice Q2 q2 g2) (.slice Q3 q3 g3) (.int .i64 sq) (.int .i64 lq) (.int .i64 first) (.int .i64 C) (.slice A R.length c) (.int .i64 next)).2.2.2.2.drew
  have hx6 := (hf6.block _ (heap_lt hgq) (by simp)).trans hgq
  have hl6 := (hf6.block _ (heap_lt hlg) (by simp)).trans hlg
  have HSD := Lib.hid (And.intro (And.intro (cell_of_row _ _ 0 _ _ _ hx6) (And.intro (cell_of_row _ _ 1 _ _ _ hx6) (And.intro (cell_of_row _ _ 2 _ _ _ hx6) (And.intro (cell_of_row _ _ 3 _ _ _ hx6) (cell_of_row _ _ 4 _ _ _ hx6))))) (And.intro (cell_of_row _ _ 0 _ _ _ hl6) (And.intro (cell_of_row _ _ 1 _ _ _ hl6) (And.intro (cell_of_row _ _ 2 _ _ _ hl6) (cell_of_row _ _ 3 _ _ _ hl6)))))
  clear hf5 hx5 hl5 hf6 hx6 hl6 hsa hdn hgq hvq hlg hr1 hr2 hs0
  refine wp_region_M (fun j => decide (j < 5)) (fun w' => (w'.cell? ⟨w.heap.size, 0, none⟩ = some (.slice Q1 q1 g1) ∧ w'.cell? ⟨w.heap.size, 1, none⟩ = some (.slice Q2 q2 g2) ∧ w'.cell? ⟨w.heap.size, 2, none⟩ = some (.slice Q3 q3 g3) ∧ w'.cell? ⟨w.heap.size, 3, none⟩ = some (.int .i64 sq) ∧ w'.cell? ⟨w.heap.size, 4, none⟩ = some (.int .i64 lq)) ∧ w'.cell? ⟨w.heap.size + 1, 0, none⟩ = some (.int .i64 first) ∧ w'.cell? ⟨w.heap.size + 1, 1, none⟩ = some (.int .i64 C) ∧ w'.cell? ⟨w.heap.size + 1, 2, none⟩ = some (.slice A R.length c) ∧ w'.cell? ⟨w.heap.size + 1, 3, none⟩ = some (.int .i64 next)) (by kernel_rfl) ?_
  refine wpAnyM_take (i := 0) (v := ?_) rfl (by kernel_rfl) (by kernel_rfl) (by kernel_rfl) (by kernel_rfl) (fun _ _ _ h => h) (Or.inl ⟨by rfl, ?_⟩) HSA.out ?_
  rotate_left
  · intro w hSw; (try dsimp only at hSw); go_simp; (try with_reducible rfl)
  simp only [Act.put, List.getElem_toArray, List.getElem_cons_zero, List.getElem_cons_succ, List.setIfInBounds_toArray, List.set_cons_zero, List.set_cons_succ]
  refine wpAnyM_take (i := 1) (v := ?_) rfl (by kernel_rfl) (by kernel_rfl) (by kernel_rfl) (by kernel_rfl) (fun _ _ _ h => h) (Or.inl ⟨by rfl, ?_⟩) HSA.out ?_
  rotate_left
  · intro w hSw; (try dsimp only at hSw); go_simp; (try with_reducible rfl)
  simp only [Act.put, List.getElem_toArray, List.getElem_cons_zero, List.getElem_cons_succ, List.setIfInBounds_toArray, List.set_cons_zero, List.set_cons_succ]
  refine wpAnyM_take (i := 2) (v := ?_) rfl (by kernel_rfl) (by kernel_rfl) (by kernel_rfl) (by kernel_rfl) (fun _ _ _ h => h) (Or.inl ⟨by rfl, ?_⟩) HSA.out ?_
  rotate_left
  · intro w hSw; (try dsimp only at hSw); go_simp; (try with_reducible rfl)
  simp only [Act.put, List.getElem_toArray, List.getElem_cons_zero, List.getElem_cons_succ, List.setIfInBounds_toArray, List.set_cons_zero, List.set_cons_succ]
  refine wpAnyM_one (i := 3) (by kernel_rfl) rfl (fun K' hK => ?_)
  go_simp
  refine hK.out _ _ (fun _ => HSB.out) ?_
  clear hK K'
  refine wpAnyM_one (i := 4) (by kernel_rfl) rfl (fun K' hK => ?_)
  go_simp
  refine hK.out _ _ (fun _ => HSD.out) ?_
  clear hK K'
  refine wpAnyM_value (i := 5) (v := ?_) rfl (by kernel_rfl) (by kernel_rfl) (by kernel_rfl) (by kernel_rfl) (fun _ _ _ h => h) (Or.inl ⟨by rfl, ?_⟩) ?_
  rotate_left
  · intro w hSw; go_simp; (try with_reducible rfl)
  simp only [Act.put, List.getElem_toArray, List.getElem_cons_zero, List.getElem_cons_succ, List.setIfInBounds_toArray, List.set_cons_zero, List.set_cons_succ]
  refine wpAnyM_done (by kernel_rfl) ?_ _
  show K _ _
  exact HK.out Q1 Q2 Q3 q1 q2 q3 g1 g2 g3 sq lq _ _ _ _ HDN.out.1 HDN.out.2.1 HDN.out.2.2.1 HDN.out.2.2.2.1 HDN.out.2.2.2.2
noncomputable def reReg23 : Code := ((Try.f12.body.bind (findReg 23)).getD .skip)
set_option maxRecDepth 1000000 in
set_option maxHeartbeats 4000000 in
theorem re23 {w w14 : World} {X : List Nat} {M : DM} {lo c : Nat} {A : Option Addr} {R : List Rec} {first C next next2 : Int} {K : Act → World → Prop} (HX : Hid (ApX w w14 X M lo A c R first C next)) (hs0 : ∀ s ∈ (Value.slice A R.length c).ownBlock.toList, s ∉ [w.heap.size + 2, w.heap.size + 3])
    (u0 u1 u5 u8 u9 u10 u11 u12 u13 u14 u15 u16 u17 u18 u19 u20 u21 u22 u23 u24 u25 u26 u27 u28 u29 u30 u31 u32 u33 u34 u35 u36 u37 u38 u39 u40 u41 u42 u43 u44 u45 u46 u47 u48 u49 u50 u51 u52 u53 u54 u55 u56 u57 u58 u59 u60 u61 u62 u63 u64 u65 u66 u67 u68 u69 u70 u71 u72 u73 u74 u75 u76 u77 u78 u79 u80 u81 u82 u83 u84 : Value)
    (hK0 : ∀ (Q1 Q2 Q3 : Option Addr) (q1 q2 q3 g1 g2 g3 : Nat) (sq lq : Int) (v78 v79 v80 v81 v82 v83 v84 : Value) (w9 : World), w9.heap[w.heap.size + 2]? = some (.cells #[.slice Q1 q1 g1, .slice Q2 q2 g2, .slice Q3 q3 g3, .int .i64 sq, .int .i64 lq] 33 (0, 0)) → w9.heap[w.heap.size + 3]? = some (.cells #[.int .i64 first, .int .i64 C, .slice none 0 0, .int .i64 next2] 42 (0, 0)) → RefV w9 X (refOf M) (.agg #[.slice Q1 q1 g1, .slice Q2 q2 g2, .slice Q3 q3 g3, .int .i64 sq, .int .i64 lq]) → w9.ownsRow lo 80 2 (.slice A R.length c) R.length (recS R) → Below w.heap.size w w9 → K ⟨#[u0, u1, .int .i64 next2, .pointer (some ⟨w.heap.size, 0, none⟩), .pointer (some ⟨w.heap.size + 1, 0, none⟩), u5, .pointer (some ⟨w.heap.size + 2, 0, none⟩), .pointer (some ⟨w.heap.size + 3, 0, none⟩), .int .i64 0, u9, u10, u11, u12, u13, u14, u15, u16, u17, u18, u19, u20, u21, u22, u23, u24, u25, u26, u27, u28, u29, u30, u31, u32, u33, u34, u35, u36, u37, u38, u39, u40, u41, u42, u43, u44, u45, u46, u47, u48, u49, u50, u51, u52, u53, u54, u55, u56, u57, u58, u59, u60, u61, u62, u63, u64, u65, u66, u67, u68, u69, u70, u71, u72, u73, u74, u75, u76, u77, v78, v79, v80, v81, v82, v83, v84], []⟩ w9) :
    Code.wp Try.prog reReg23 (Exit.then K (fun _ _ _ => False)) ⟨#[u0, u1, .int .i64 next2, .pointer (some ⟨w.heap.size, 0, none⟩), .pointer (some ⟨w.heap.size + 1, 0, none⟩), u5, .pointer (some ⟨w.heap.size + 2, 0, none⟩), .pointer (some ⟨w.heap.size + 3, 0, none⟩), u8, u9, u10, u11, u12, u13, u14, u15, u16, u17, u18, u19, u20, u21, u22, u23, u24, u25, u26, u27, u28, u29, u30, u31, u32, u33, u34, u35, u36, u37, u38, u39, u40, u41, u42, u43, u44, u45, u46, u47, u48, u49, u50, u51, u52, u53, u54, u55, u56, u57, u58, u59, u60, u61, u62, u63, u64, u65, u66, u67, u68, u69, u70, u71, u72, u73, u74, u75, u76, u77, u78, u79, u80, u81, u82, u83, u84], []⟩ w14 := by
  conv => arg 2; whnf
  have HK := Lib.hid hK0
  clear hK0
  obtain ⟨Q1, Q2, Q3, q1, q2, q3, g1, g2, g3, sq, lq, hgq, hvq⟩ := HX.out.box
  have hlg := HX.out.log
  have hr1 := HX.out.res1
  have hr2 := HX.out.res2
  have x0 := cell_of_row w14 (w.heap.size) 0 _ _ _ hgq; have x1 := cell_of_row w14 (w.heap.size) 1 _ _ _ hgq; have x2 := cell_of_row w14 (w.heap.size) 2 _ _ _ hgq; have x3 := cell_of_row w14 (w.heap.size) 3 _ _ _ hgq; have x4 := cell_of_row w14 (w.heap.size) 4 _ _ _ hgq
  have k0 := cell_of_row w14 (w.heap.size + 1) 0 _ _ _ hlg; have k1 := cell_of_row w14 (w.heap.size + 1) 1 _ _ _ hlg; have k2 := cell_of_row w14 (w.heap.size + 1) 2 _ _ _ hlg; have k3 := cell_of_row w14 (w.heap.size + 1) 3 _ _ _ hlg
  have y0 := cell_of_row w14 (w.heap.size + 2) 0 _ _ _ hr1; have y1 := cell_of_row w14 (w.heap.size + 2) 1 _ _ _ hr1; have y2 := cell_of_row w14 (w.heap.size + 2) 2 _ _ _ hr1; have y3 := cell_of_row w14 (w.heap.size + 2) 3 _ _ _ hr1; have y4 := cell_of_row w14 (w.heap.size + 2) 4 _ _ _ hr1
  have yf0 := frozen_of_row w14 (w.heap.size + 2) 0 _ _ hr1; have yf1 := frozen_of_row w14 (w.heap.size + 2) 1 _ _ hr1; have yf2 := frozen_of_row w14 (w.heap.size + 2) 2 _ _ hr1; have yf3 := frozen_of_row w14 (w.heap.size + 2) 3 _ _ hr1; have yf4 := frozen_of_row w14 (w.heap.size + 2) 4 _ _ hr1
  have z0 := cell_of_row w14 (w.heap.size + 3) 0 _ _ _ hr2; have z1 := cell_of_row w14 (w.heap.size + 3) 1 _ _ _ hr2; have z2 := cell_of_row w14 (w.heap.size + 3) 2 _ _ _ hr2; have z3 := cell_of_row w14 (w.heap.size + 3) 3 _ _ _ hr2
  have zf0 := frozen_of_row w14 (w.heap.size + 3) 0 _ _ hr2; have zf1 := frozen_of_row w14 (w.heap.size + 3) 1 _ _ hr2; have zf2 := frozen_of_row w14 (w.heap.size + 3) 2 _ _ hr2; have zf3 := frozen_of_row w14 (w.heap.size + 3) 3 _ _ hr2
  have hdn := ApX.end_ (HX.out.done hvq (.slice Q1 q1 g1) (.slice Q2 q2 g2) (.slice Q3 q3 g3) (.int .i64 sq) (.int .i64 lq) (.int .i64 first) (.int .i64 C) (.slice none 0 0) (.int .i64 next2)) HX.out.recs hs0
  have HDN := Lib.hid hdn
  have hsa : ∀ WW, Below w14.heap.size w14 WW → (WW.cell? ⟨w.heap.size, 0, none⟩ = some (.slice Q1 q1 g1) ∧ WW.cell? ⟨w.heap.size, 1, none⟩ = some (.slice Q2 q2 g2) ∧ WW.cell? ⟨w.heap.size, 2, none⟩ = some (.slice Q3 q3 g3) ∧ WW.cell? ⟨w.heap.size, 3, none⟩ = some (.int .i64 sq) ∧ WW.cell? ⟨w.heap.size, 4, none⟩ = some (.int .i64 lq)) ∧ WW.cell? ⟨w.heap.size + 1, 0, none⟩ = some (.int .i64 first) ∧ WW.cell? ⟨w.heap.size + 1, 1, none⟩ = some (.int .i64 C) ∧ WW.cell? ⟨w.heap.size + 1, 2, none⟩ = some (.slice A R.length c) ∧ WW.cell? ⟨w.heap.size + 1, 3, none⟩ = some (.int .i64 next) := fun WW hW => by
    have g1 := (hW.block _ (heap_lt hgq)).trans hgq
    have g2 := (hW.block _ (heap_lt hlg)).trans hlg
    exact ⟨⟨cell_of_row _ _ 0 _ _ _ g1, cell_of_row _ _ 1 _ _ _ g1, cell_of_row _ _ 2 _ _ _ g1, cell_of_row _ _ 3 _ _ _ g1, cell_of_row _ _ 4 _ _ _ g1⟩, cell_of_row _ _ 0 _ _ _ g2, cell_of_row _ _ 1 _ _ _ g2, cell_of_row _ _ 2 _ _ _ g2, cell_of_row _ _ 3 _ _ _ g2⟩
  have HSA := Lib.hid (hsa w14.drew (Below.refl _ _).drew)
  have hf5 := (fr5 w14 (w.heap.size + 2) (.slice Q1 q1 g1) (.slice Q2 q2 g2) (.slice Q3 q3 g3) (.int .i64 sq) (.int .i64 lq)).drew
  have hx5 := (hf5.block _ (heap_lt hgq) (by simp)).trans hgq
  have hl5 := (hf5.block _ (heap_lt hlg) (by simp)).trans hlg
  have HSB := Lib.hid (And.intro (And.intro (cell_of_row _ _ 0 _ _ _ hx5) (And.intro (cell_of_row _ _ 1 _ _ _ hx5) (And.intro (cell_of_row _ _ 2 _ _ _ hx5) (And.intro (cell_of_row _ _ 3 _ _ _ hx5) (cell_of_row _ _ 4 _ _ _ hx5))))) (And.intro (cell_of_row _ _ 0 _ _ _ hl5) (And.intro (cell_of_row _ _ 1 _ _ _ hl5) (And.intro (cell_of_row _ _ 2 _ _ _ hl5) (cell_of_row _ _ 3 _ _ _ hl5)))))
  have hf6 := (HX.out.done hvq (.slice Q1 q1 g1) (.slice Q2 q2 g2) (.slice Q3 q3 g3) (.int .i64 sq) (.int .i64 lq) (.int .i64 first) (.int .i64 C) (.slice none 0 0) (.int .i64 next2)).2.2.2.2.drew
  have hx6 := (hf6.block _ (heap_lt hgq) (by simp)).trans hgq
  have hl6 := (hf6.block _ (heap_lt hlg) (by simp)).trans hlg
  have HSD := Lib.hid (And.intro (And.intro (cell_of_row _ _ 0 _ _ _ hx6) (And.intro (cell_of_row _ _ 1 _ _ _ hx6) (And.intro (cell_of_row _ _ 2 _ _ _ hx6) (And.intro (cell_of_row _ _ 3 _ _ _ hx6) (cell_of_row _ _ 4 _ _ _ hx6))))) (And.intro (cell_of_row _ _ 0 _ _ _ hl6) (And.intro (cell_of_row _ _ 1 _ _ _ hl6) (And.intro (cell_of_row _ _ 2 _ _ _ hl6) (cell_of_row _ _ 3 _ _ _ hl6)))))
  clear hf5 hx5 hl5 hf6 hx6 hl6 hsa hdn hgq hvq hlg hr1 hr2 hs0
  refine wp_region_M (fun j => decide (j < 9)) (fun w' => (w'.cell? ⟨w.heap.size, 0, none⟩ = some (.slice Q1 q1 g1) ∧ w'.cell? ⟨w.heap.size, 1, none⟩ = some (.slice Q2 q2 g2) ∧ w'.cell? ⟨w.heap.size, 2, none⟩ = some (.slice Q3 q3 g3) ∧ w'.cell? ⟨w.heap.size, 3, none⟩ = some (.int .i64 sq) ∧ w'.cell? ⟨w.heap.size, 4, none⟩ = some (.int .i64 lq)) ∧ w'.cell? ⟨w.heap.size + 1, 0, none⟩ = some (.int .i64 first) ∧ w'.cell? ⟨w.heap.size + 1, 1, none⟩ = some (.int .i64 C) ∧ w'.cell? ⟨w.heap.size + 1, 2, none⟩ = some (.slice A R.length c) ∧ w'.cell? ⟨w.heap.size + 1, 3, none⟩ = some (.int .i64 next)) (by kernel_rfl) ?_
  refine wpAnyM_take (i := 0) (v := ?_) rfl (by kernel_rfl) (by kernel_rfl) (by kernel_rfl) (by kernel_rfl) (fun _ _ _ h => h) (Or.inl ⟨by rfl, ?_⟩) HSA.out ?_
  rotate_left
  · intro w hSw; (try dsimp only at hSw); go_simp; (try with_reducible rfl)
  simp only [Act.put, List.getElem_toArray, List.getElem_cons_zero, List.getElem_cons_succ, List.setIfInBounds_toArray, List.set_cons_zero, List.set_cons_succ]
  refine wpAnyM_take (i := 1) (v := ?_) rfl (by kernel_rfl) (by kernel_rfl) (by kernel_rfl) (by kernel_rfl) (fun _ _ _ h => h) (Or.inl ⟨by rfl, ?_⟩) HSA.out ?_
  rotate_left
  · intro w hSw; (try dsimp only at hSw); go_simp; (try with_reducible rfl)
  simp only [Act.put, List.getElem_toArray, List.getElem_cons_zero, List.getElem_cons_succ, List.setIfInBounds_toArray, List.set_cons_zero, List.set_cons_succ]
  refine wpAnyM_take (i := 2) (v := ?_) rfl (by kernel_rfl) (by kernel_rfl) (by kernel_rfl) (by kernel_rfl) (fun _ _ _ h => h) (Or.inl ⟨by rfl, ?_⟩) HSA.out ?_
  rotate_left
  · intro w hSw; (try dsimp only at hSw); go_simp; (try with_reducible rfl)
  simp only [Act.put, List.getElem_toArray, List.getElem_cons_zero, List.getElem_cons_succ, List.setIfInBounds_toArray, List.set_cons_zero, List.set_cons_succ]
  refine wpAnyM_take (i := 3) (v := ?_) rfl (by kernel_rfl) (by kernel_rfl) (by kernel_rfl) (by kernel_rfl) (fun _ _ _ h => h) (Or.inl ⟨by rfl, ?_⟩) HSA.out ?_
  rotate_left
  · intro w hSw; (try dsimp only at hSw); go_simp; (try with_reducible rfl)
  simp only [Act.put, List.getElem_toArray, List.getElem_cons_zero, List.getElem_cons_succ, List.setIfInBounds_toArray, List.set_cons_zero, List.set_cons_succ]
  refine wpAnyM_take (i := 4) (v := ?_) rfl (by kernel_rfl) (by kernel_rfl) (by kernel_rfl) (by kernel_rfl) (fun _ _ _ h => h) (Or.inl ⟨by rfl, ?_⟩) HSA.out ?_
  rotate_left
  · intro w hSw; (try dsimp only at hSw); go_simp; (try with_reducible rfl)
  simp only [Act.put, List.getElem_toArray, List.getElem_cons_zero, List.getElem_cons_succ, List.setIfInBounds_toArray, List.set_cons_zero, List.set_cons_succ]
  refine wpAnyM_take (i := 5) (v := ?_) rfl (by kernel_rfl) (by kernel_rfl) (by kernel_rfl) (by kernel_rfl) (fun _ _ _ h => h) (Or.inl ⟨by rfl, ?_⟩) HSA.out ?_
  rotate_left
  · intro w hSw; (try dsimp only at hSw); go_simp; (try with_reducible rfl)
  simp only [Act.put, List.getElem_toArray, List.getElem_cons_zero, List.getElem_cons_succ, List.setIfInBounds_toArray, List.set_cons_zero, List.set_cons_succ]
  refine wpAnyM_take (i := 6) (v := ?_) rfl (by kernel_rfl) (by kernel_rfl) (by kernel_rfl) (by kernel_rfl) (fun _ _ _ h => h) (Or.inl ⟨by rfl, ?_⟩) HSA.out ?_
  rotate_left
  · intro w hSw; (try dsimp only at hSw); go_simp; (try with_reducible rfl)
  simp only [Act.put, List.getElem_toArray, List.getElem_cons_zero, List.getElem_cons_succ, List.setIfInBounds_toArray, List.set_cons_zero, List.set_cons_succ]
  refine wpAnyM_one (i := 7) (by kernel_rfl) rfl (fun K' hK => ?_)
  go_simp
  refine hK.out _ _ (fun _ => HSB.out) ?_
  clear hK K'
  refine wpAnyM_one (i := 8) (by kernel_rfl) rfl (fun K' hK => ?_)
  go_simp
  refine hK.out _ _ (fun _ => HSD.out) ?_
  clear hK K'
  refine wpAnyM_value (i := 9) (v := ?_) rfl (by kernel_rfl) (by kernel_rfl) (by kernel_rfl) (by kernel_rfl) (fun _ _ _ h => h) (Or.inl ⟨by rfl, ?_⟩) ?_
  rotate_left
  · intro w hSw; go_simp; (try with_reducible rfl)
  simp only [Act.put, List.getElem_toArray, List.getElem_cons_zero, List.getElem_cons_succ, List.setIfInBounds_toArray, List.set_cons_zero, List.set_cons_succ]
  refine wpAnyM_done (by kernel_rfl) ?_ _
  show K _ _
  exact HK.out Q1 Q2 Q3 q1 q2 q3 g1 g2 g3 sq lq _ _ _ _ _ _ _ _ HDN.out.1 HDN.out.2.1 HDN.out.2.2.1 HDN.out.2.2.2.1 HDN.out.2.2.2.2
end Go.Proofs.Ytajakmfloeefpaa
