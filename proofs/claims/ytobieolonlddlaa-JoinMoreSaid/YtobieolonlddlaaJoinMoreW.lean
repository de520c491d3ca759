/- The law JoinMore, walked. -/
import Derived.Test.YtobieolonlddlaaJoBE
namespace Go.Proofs.Ytobieolonlddlaa
open Go.RowKit Go.Maps

set_option maxRecDepth 100000 in
set_option maxHeartbeats 4000000 in
theorem joinMore_walk (x : VW) (A : Option Addr) (l : List Ed) (c : Nat) (m : Ed) (W : World) (hx : x.Raw W) (he : EdsRaw W A c l) (hm : m.Ok) : Calls Try.prog 6 #[.agg (vwA x), .slice A l.length c, edV m] W fun e w' => e = .returned (.bool true) ∧ Below W.heap.size W w' := by
  have HAW := Lib.hid jawake_any
  have hfi := fits_any x A l.length c
  have hbx := boxes_at W (.cells (vwA x) 25) (.cells #[.int .i64 m.f, .string ⟨m.lab.toArray⟩, .int .i64 m.t] 52)
  unfold edV
  cases hf : fitsB x l.length with
  | false =>
    rw [hf] at hfi
    unfold vwA at hbx hfi ⊢
    have HFI := Lib.hid hfi
    have HBX := Lib.hid hbx
    clear hx he hm hf hfi hbx
    go_enter Try.func6, Try.ntmps6
    go_wp2_with (first
      | (go_at_call 9; (with_reducible refine (HAW.out _).mono ?_); rintro e w1 ⟨rfl, hb1⟩; have B1 := Lib.hid (HBX.out.2.2.trans (lower' hb1 HBX.out.2.2.size)); obtain ⟨q0, q1, q2, q3, q4⟩ := box5 ((hb1.block W.heap.size (by simp; omega)).trans HBX.out.1); clear hb1)
      | (go_at_call 10; (with_reducible refine (HFI.out _).mono ?_); rintro e w2 ⟨rfl, hb2⟩; have B2 := Lib.hid (B1.out.trans (lower' hb2 B1.out.size)); clear hb2 HBX q0 q1 q2 q3 q4 HFI)
      | (go_at_call 9; (with_reducible refine (HAW.out _).mono ?_); rintro e w3 ⟨rfl, hb3⟩; have B3 := Lib.hid (B2.out.trans (lower' hb3 B2.out.size)); clear hb3))
    go_ret
    exact ⟨rfl, B3.out⟩
  | true =>
    rw [hf] at hfi
    obtain ⟨f1, f2, f3⟩ := fits_facts hf
    have hok : x.Ok W := hx.ok (by omega) (by omega)
    have hE := he.ok (by omega)
    have hr1 := fun w (h : Below W.heap.size W w) => rows_any x A c l w (hok.below h) (hE.below h)
    have hr4 := fun w (h : Below W.heap.size W w) A' c' (hE : Eds w A' c' (l ++ [m])) => rows_snoc x A' c' l m w (hok.below h) hE
    have H0 := Lib.hid (And.intro hok (And.intro hE (And.intro hm (And.intro f1 (And.intro f2 f3)))))
    clear hx he hm hf hok hE f1 f2 f3
    unfold vwA at hbx hfi hr1 hr4 ⊢
    have HFI := Lib.hid hfi
    have HBX := Lib.hid hbx
    have HR1 := Lib.hid hr1
    have HR4 := Lib.hid hr4
    clear hfi hbx hr1 hr4
    go_enter Try.func6, Try.ntmps6
    go_upto_region 4 with (first
      | (go_at_call 9; (with_reducible refine (HAW.out _).mono ?_); rintro e w1 ⟨rfl, hb1⟩; have B1 := Lib.hid (And.intro hb1 (HBX.out.2.2.trans (lower' hb1 HBX.out.2.2.size))); obtain ⟨q0, q1, q2, q3, q4⟩ := box5 ((hb1.block W.heap.size (by simp; omega)).trans HBX.out.1); clear hb1 HAW)
      | (go_at_call 10; (with_reducible refine (HFI.out _).mono ?_); rintro e w2 ⟨rfl, hb2⟩; have B2 := Lib.hid (And.intro (B1.out.1.trans (lower' hb2 B1.out.1.size)) (B1.out.2.trans (lower' hb2 B1.out.2.size))); have HR2 := Lib.hid (HR1.out w2 B2.out.2); clear q0 q1 q2 q3 q4; obtain ⟨q0, q1, q2, q3, q4⟩ := box5 ((B2.out.1.block W.heap.size (by simp; omega)).trans HBX.out.1); clear hb2 B1 HFI)
      | (go_at_call 12; (with_reducible refine HR2.out.mono ?_); rintro e w3 ⟨y, rfl, _, p2, p3, p4⟩; have B3 := Lib.hid (And.intro (B2.out.1.trans (lower' p4 B2.out.1.size)) (B2.out.2.trans (lower' p4 B2.out.2.size))); have Y := Lib.hid (And.intro p2 p3); clear q0 q1 q2 q3 q4 p2 p3 p4))
    have BX3 := Lib.hid (And.intro ((B3.out.1.block W.heap.size (by simp; omega)).trans HBX.out.1) ((B3.out.1.block (W.heap.size + 1) (by simp)).trans HBX.out.2.1))
    have KT := Lib.hid fun WW (hW : Below w3.heap.size w3 WW) => (⟨box5 ((hW.block _ (heap_lt (BX3.out.1))).trans BX3.out.1), box3 ((hW.block _ (heap_lt (BX3.out.2))).trans BX3.out.2)⟩ : (WW.cell? ⟨W.heap.size, 0, none⟩ = some (.string ⟨x.v.name.toArray⟩) ∧ WW.cell? ⟨W.heap.size, 1, none⟩ = some (.int .i64 x.v.kind) ∧ WW.cell? ⟨W.heap.size, 2, none⟩ = some (.slice x.oA x.v.out.length x.oc) ∧ WW.cell? ⟨W.heap.size, 3, none⟩ = some (.slice x.aA x.v.atoms.length x.ac) ∧ WW.cell? ⟨W.heap.size, 4, none⟩ = some (.string ⟨x.v.label.toArray⟩)) ∧ (WW.cell? ⟨W.heap.size + 1, 0, none⟩ = some (.int .i64 m.f) ∧ WW.cell? ⟨W.heap.size + 1, 1, none⟩ = some (.string ⟨m.lab.toArray⟩) ∧ WW.cell? ⟨W.heap.size + 1, 2, none⟩ = some (.int .i64 m.t)))
    have hE3 := (H0.out.2.1.below B3.out.2)
    have HRD := Lib.hid (And.intro hE3.rd (And.intro (Nat.le_refl w3.heap.size) (show l.length ≤ 1000 by have := hE3.sm; omega)))
    have HRD3 := Lib.hid B3.out.2
    have HEK := Lib.hid (And.intro hE3.ok (And.intro H0.out.2.2.1 H0.out.2.2.2.1))
    clear hE3 HR2 HR1
    go_cut [9, 10] from 37 to 47 (fun s9 s10 w' => ∃ z : LV, s9 = .slice z.A z.ts.length z.c ∧ s10 = .int .i64 (rowsC x.v (l ++ [m])) ∧ Hid (z.Ok w' ∧ tus z.ts = rowsR x.v (l ++ [m]) ∧ Below w3.heap.size w3 w'))
    case first =>
      have hS0 := KT.out w3.drew (Below.refl _ _).drew
      refine wp_region_M (fun j => decide (j < 7)) (fun w' => (w'.cell? ⟨W.heap.size, 0, none⟩ = some (.string ⟨x.v.name.toArray⟩) ∧ w'.cell? ⟨W.heap.size, 1, none⟩ = some (.int .i64 x.v.kind) ∧ w'.cell? ⟨W.heap.size, 2, none⟩ = some (.slice x.oA x.v.out.length x.oc) ∧ w'.cell? ⟨W.heap.size, 3, none⟩ = some (.slice x.aA x.v.atoms.length x.ac) ∧ w'.cell? ⟨W.heap.size, 4, none⟩ = some (.string ⟨x.v.label.toArray⟩)) ∧ (w'.cell? ⟨W.heap.size + 1, 0, none⟩ = some (.int .i64 m.f) ∧ w'.cell? ⟨W.heap.size + 1, 1, none⟩ = some (.string ⟨m.lab.toArray⟩) ∧ w'.cell? ⟨W.heap.size + 1, 2, none⟩ = some (.int .i64 m.t))) (by kernel_rfl) ?_
      refine wpAnyM_take (i := 0) (v := ?_) rfl (by kernel_rfl) (by kernel_rfl) (by kernel_rfl) (by kernel_rfl) (fun _ _ _ h => h) (Or.inl ⟨by rfl, ?_⟩) hS0 ?_
      rotate_left
      · intro w hSw; (try dsimp only at hSw); go_simp; (try with_reducible rfl)
      simp only [Act.put, List.getElem_toArray, List.getElem_cons_zero, List.getElem_cons_succ, List.setIfInBounds_toArray, List.set_cons_zero, List.set_cons_succ]
      refine wpAnyM_take (i := 2) (v := ?_) rfl (by kernel_rfl) (by kernel_rfl) (by kernel_rfl) (by kernel_rfl) (fun _ _ _ h => h) (Or.inl ⟨by rfl, ?_⟩) hS0 ?_
      rotate_left
      · intro w hSw; (try dsimp only at hSw); go_simp; (try with_reducible rfl)
      simp only [Act.put, List.getElem_toArray, List.getElem_cons_zero, List.getElem_cons_succ, List.setIfInBounds_toArray, List.set_cons_zero, List.set_cons_succ]
      refine wpAnyM_take (i := 4) (v := ?_) rfl (by kernel_rfl) (by kernel_rfl) (by kernel_rfl) (by kernel_rfl) (fun _ _ _ h => h) (Or.inl ⟨by rfl, ?_⟩) hS0 ?_
      rotate_left
      · intro w hSw; (try dsimp only at hSw); go_simp; (try with_reducible rfl)
      simp only [Act.put, List.getElem_toArray, List.getElem_cons_zero, List.getElem_cons_succ, List.setIfInBounds_toArray, List.set_cons_zero, List.set_cons_succ]
      refine wpAnyM_two (i := 1) (j := 5) (by kernel_rfl) rfl rfl (fun K hK => ?_) (fun K hK => ?_)
      · skip
        go_simp
        refine hK.out _ _ (fun _ => KT.out _ ((Below.refl _ _).alloc (Nat.le_refl _) _).drew) ?_
        clear hK K
        refine wpAnyM_two (i := 3) (j := 5) (by kernel_rfl) rfl rfl (fun K hK => ?_) (fun K hK => ?_)
        · skip
          obtain ⟨A5, c5, w5, A6, c6, w6, hrun5, hrun6, hown6, hb6, hb5⟩ := ordE1d (A := A) (c := c) (W := w3) HRD.out.1 HRD.out.2.1 HRD.out.2.2 m
          refine step_appK _ (by rfl) (.tmp 39) (.tmp 40) 26 rfl rfl _ _ _ _ rfl rfl hrun5 ?_
          refine hK.out _ _ (fun _ => KT.out _ hb5) ?_
          clear hK K
          refine wpAnyM_one (i := 5) (by kernel_rfl) rfl (fun K hK => ?_)
          go_simp
          refine hK.out _ _ (fun _ => KT.out _ (hb5.alloc hb5.size _)) ?_
          clear hK K
          refine wpAnyM_one (i := 6) (by kernel_rfl) rfl (fun K hK => ?_)
          refine step_appK _ (by rfl) (.tmp 41) (.tmp 43) 26 rfl rfl _ _ _ _ rfl rfl hrun6 ?_
          refine hK.out _ _ (fun _ => KT.out _ hb6) ?_
          clear hK K
          have HR6 := Lib.hid (HR4.out w6 (HRD3.out.trans (lower' hb6 HRD3.out.size)) A6 c6 (eds_of_row hown6 HEK.out HRD.out.2.2))
          have HB6 := Lib.hid hb6
          clear hrun5 hrun6 hown6 hb6 hb5
          refine wpAnyM_one (i := 7) (by kernel_rfl) rfl (fun K hK => ?_)
          go_simp
          go_wp2_with (go_at_call 12; (with_reducible refine HR6.out.mono ?_); rintro e w7 ⟨z, rfl, _, z2, z3, z4⟩)
          refine hK.out _ _ (fun h => absurd h (by decide)) ?_
          clear hK K
          refine wpAnyM_value (i := 8) (v := ?_) rfl (by kernel_rfl) (by kernel_rfl) (by kernel_rfl) (by kernel_rfl) (fun _ _ _ h => h) (Or.inl ⟨by rfl, ?_⟩) ?_
          rotate_left
          · intro w hSw; go_simp; (try with_reducible rfl)
          simp only [Act.put, List.getElem_toArray, List.getElem_cons_zero, List.getElem_cons_succ, List.setIfInBounds_toArray, List.set_cons_zero, List.set_cons_succ]
          refine wpAnyM_value (i := 9) (v := ?_) rfl (by kernel_rfl) (by kernel_rfl) (by kernel_rfl) (by kernel_rfl) (fun _ _ _ h => h) (Or.inl ⟨by rfl, ?_⟩) ?_
          rotate_left
          · intro w hSw; go_simp; (try with_reducible rfl)
          simp only [Act.put, List.getElem_toArray, List.getElem_cons_zero, List.getElem_cons_succ, List.setIfInBounds_toArray, List.set_cons_zero, List.set_cons_succ]
          refine wpAnyM_value (i := 10) (v := ?_) rfl (by kernel_rfl) (by kernel_rfl) (by kernel_rfl) (by kernel_rfl) (fun _ _ _ h => h) (Or.inl ⟨by rfl, ?_⟩) ?_
          rotate_left
          · intro w hSw; go_simp; (try with_reducible rfl)
          simp only [Act.put, List.getElem_toArray, List.getElem_cons_zero, List.getElem_cons_succ, List.setIfInBounds_toArray, List.set_cons_zero, List.set_cons_succ]
          refine wpAnyM_one (i := 11) (by kernel_rfl) rfl (fun K hK => ?_)
          go_simp
          refine hK.out _ _ (fun h => absurd h (by decide)) ?_
          clear hK K
          refine wpAnyM_one (i := 12) (by kernel_rfl) rfl (fun K hK => ?_)
          go_simp
          refine hK.out _ _ (fun h => absurd h (by decide)) ?_
          clear hK K
          refine wpAnyM_done (by kernel_rfl) ?_ _
          go_wp2_with (fail)
          go_meet
          case rel => exact ⟨z, rfl, rfl, Lib.hid ⟨z2, z3, HB6.out.trans (lower' z4 HB6.out.size)⟩⟩
        · skip
          go_simp
          refine hK.out _ _ (fun _ => KT.out _ (((Below.refl _ _).alloc (Nat.le_refl _) _).alloc (by simp) _).drew) ?_
          clear hK K
          obtain ⟨A5, c5, w5, A6, c6, w6, hrun5, hrun6, hown6, hb6, hb5⟩ := ordE2d (A := A) (c := c) (W := w3) HRD.out.1 HRD.out.2.1 HRD.out.2.2 m
          refine wpAnyM_one (i := 3) (by kernel_rfl) rfl (fun K hK => ?_)
          refine step_appK _ (by rfl) (.tmp 39) (.tmp 40) 26 rfl rfl _ _ _ _ rfl rfl hrun5 ?_
          refine hK.out _ _ (fun _ => KT.out _ hb5) ?_
          clear hK K
          refine wpAnyM_one (i := 6) (by kernel_rfl) rfl (fun K hK => ?_)
          refine step_appK _ (by rfl) (.tmp 41) (.tmp 43) 26 rfl rfl _ _ _ _ rfl rfl hrun6 ?_
          refine hK.out _ _ (fun _ => KT.out _ hb6) ?_
          clear hK K
          have HR6 := Lib.hid (HR4.out w6 (HRD3.out.trans (lower' hb6 HRD3.out.size)) A6 c6 (eds_of_row hown6 HEK.out HRD.out.2.2))
          have HB6 := Lib.hid hb6
          clear hrun5 hrun6 hown6 hb6 hb5
          refine wpAnyM_one (i := 7) (by kernel_rfl) rfl (fun K hK => ?_)
          go_simp
          go_wp2_with (go_at_call 12; (with_reducible refine HR6.out.mono ?_); rintro e w7 ⟨z, rfl, _, z2, z3, z4⟩)
          refine hK.out _ _ (fun h => absurd h (by decide)) ?_
          clear hK K
          refine wpAnyM_value (i := 8) (v := ?_) rfl (by kernel_rfl) (by kernel_rfl) (by kernel_rfl) (by kernel_rfl) (fun _ _ _ h => h) (Or.inl ⟨by rfl, ?_⟩) ?_
          rotate_left
          · intro w hSw; go_simp; (try with_reducible rfl)
          simp only [Act.put, List.getElem_toArray, List.getElem_cons_zero, List.getElem_cons_succ, List.setIfInBounds_toArray, List.set_cons_zero, List.set_cons_succ]
          refine wpAnyM_value (i := 9) (v := ?_) rfl (by kernel_rfl) (by kernel_rfl) (by kernel_rfl) (by kernel_rfl) (fun _ _ _ h => h) (Or.inl ⟨by rfl, ?_⟩) ?_
          rotate_left
          · intro w hSw; go_simp; (try with_reducible rfl)
          simp only [Act.put, List.getElem_toArray, List.getElem_cons_zero, List.getElem_cons_succ, List.setIfInBounds_toArray, List.set_cons_zero, List.set_cons_succ]
          refine wpAnyM_value (i := 10) (v := ?_) rfl (by kernel_rfl) (by kernel_rfl) (by kernel_rfl) (by kernel_rfl) (fun _ _ _ h => h) (Or.inl ⟨by rfl, ?_⟩) ?_
          rotate_left
          · intro w hSw; go_simp; (try with_reducible rfl)
          simp only [Act.put, List.getElem_toArray, List.getElem_cons_zero, List.getElem_cons_succ, List.setIfInBounds_toArray, List.set_cons_zero, List.set_cons_succ]
          refine wpAnyM_one (i := 11) (by kernel_rfl) rfl (fun K hK => ?_)
          go_simp
          refine hK.out _ _ (fun h => absurd h (by decide)) ?_
          clear hK K
          refine wpAnyM_one (i := 12) (by kernel_rfl) rfl (fun K hK => ?_)
          go_simp
          refine hK.out _ _ (fun h => absurd h (by decide)) ?_
          clear hK K
          refine wpAnyM_done (by kernel_rfl) ?_ _
          go_wp2_with (fail)
          go_meet
          case rel => exact ⟨z, rfl, rfl, Lib.hid ⟨z2, z3, HB6.out.trans (lower' z4 HB6.out.size)⟩⟩
      · skip
        go_simp
        refine hK.out _ _ (fun _ => KT.out _ ((Below.refl _ _).alloc (Nat.le_refl _) _).drew) ?_
        clear hK K
        refine wpAnyM_one (i := 1) (by kernel_rfl) rfl (fun K hK => ?_)
        go_simp
        refine hK.out _ _ (fun _ => KT.out _ (((Below.refl _ _).alloc (Nat.le_refl _) _).alloc (by simp) _).drew) ?_
        clear hK K
        obtain ⟨A5, c5, w5, A6, c6, w6, hrun5, hrun6, hown6, hb6, hb5⟩ := ordE3d (A := A) (c := c) (W := w3) HRD.out.1 HRD.out.2.1 HRD.out.2.2 m
        refine wpAnyM_one (i := 3) (by kernel_rfl) rfl (fun K hK => ?_)
        refine step_appK _ (by rfl) (.tmp 39) (.tmp 40) 26 rfl rfl _ _ _ _ rfl rfl hrun5 ?_
        refine hK.out _ _ (fun _ => KT.out _ hb5) ?_
        clear hK K
        refine wpAnyM_one (i := 6) (by kernel_rfl) rfl (fun K hK => ?_)
        refine step_appK _ (by rfl) (.tmp 41) (.tmp 43) 26 rfl rfl _ _ _ _ rfl rfl hrun6 ?_
        refine hK.out _ _ (fun _ => KT.out _ hb6) ?_
        clear hK K
        have HR6 := Lib.hid (HR4.out w6 (HRD3.out.trans (lower' hb6 HRD3.out.size)) A6 c6 (eds_of_row hown6 HEK.out HRD.out.2.2))
        have HB6 := Lib.hid hb6
        clear hrun5 hrun6 hown6 hb6 hb5
        refine wpAnyM_one (i := 7) (by kernel_rfl) rfl (fun K hK => ?_)
        go_simp
        go_wp2_with (go_at_call 12; (with_reducible refine HR6.out.mono ?_); rintro e w7 ⟨z, rfl, _, z2, z3, z4⟩)
        refine hK.out _ _ (fun h => absurd h (by decide)) ?_
        clear hK K
        refine wpAnyM_value (i := 8) (v := ?_) rfl (by kernel_rfl) (by kernel_rfl) (by kernel_rfl) (by kernel_rfl) (fun _ _ _ h => h) (Or.inl ⟨by rfl, ?_⟩) ?_
        rotate_left
        · intro w hSw; go_simp; (try with_reducible rfl)
        simp only [Act.put, List.getElem_toArray, List.getElem_cons_zero, List.getElem_cons_succ, List.setIfInBounds_toArray, List.set_cons_zero, List.set_cons_succ]
        refine wpAnyM_value (i := 9) (v := ?_) rfl (by kernel_rfl) (by kernel_rfl) (by kernel_rfl) (by kernel_rfl) (fun _ _ _ h => h) (Or.inl ⟨by rfl, ?_⟩) ?_
        rotate_left
        · intro w hSw; go_simp; (try with_reducible rfl)
        simp only [Act.put, List.getElem_toArray, List.getElem_cons_zero, List.getElem_cons_succ, List.setIfInBounds_toArray, List.set_cons_zero, List.set_cons_succ]
        refine wpAnyM_value (i := 10) (v := ?_) rfl (by kernel_rfl) (by kernel_rfl) (by kernel_rfl) (by kernel_rfl) (fun _ _ _ h => h) (Or.inl ⟨by rfl, ?_⟩) ?_
        rotate_left
        · intro w hSw; go_simp; (try with_reducible rfl)
        simp only [Act.put, List.getElem_toArray, List.getElem_cons_zero, List.getElem_cons_succ, List.setIfInBounds_toArray, List.set_cons_zero, List.set_cons_succ]
        refine wpAnyM_one (i := 11) (by kernel_rfl) rfl (fun K hK => ?_)
        go_simp
        refine hK.out _ _ (fun h => absurd h (by decide)) ?_
        clear hK K
        refine wpAnyM_one (i := 12) (by kernel_rfl) rfl (fun K hK => ?_)
        go_simp
        refine hK.out _ _ (fun h => absurd h (by decide)) ?_
        clear hK K
        refine wpAnyM_done (by kernel_rfl) ?_ _
        go_wp2_with (fail)
        go_meet
        case rel => exact ⟨z, rfl, rfl, Lib.hid ⟨z2, z3, HB6.out.trans (lower' z4 HB6.out.size)⟩⟩
    case rest =>
      obtain ⟨z, rfl, rfl, hz⟩ := hcut
      have hrg1 := rowsC_rng x.v l
      have hrg2 := rowsC_rng x.v (l ++ [m])
      have hsub : ∀ e ∈ l, e ∈ l ++ [m] := fun e he => List.mem_append_left _ he
      have hcm := code_more (v := x.v) hsub
      have BC := Lib.hid (B3.out.2.trans (lower' hz.out.2.2 B3.out.2.size))
      have hnw := fun h0 h1 r hr hn => row_new (v := x.v) (es := l) (m := m) h0 h1 (r := r) hr hn
      have hrm := fun h0 h1 r hr => row_more (v := x.v) hsub h0 h1 (r := r) hr
      have hlens := fun r hr => rowsR_lens (v := x.v) (es := l ++ [m]) r hr
      have HQ := Lib.hid (And.intro hnw (And.intro hrm hlens))
      clear hnw hrm hlens hsub HR4 HEK HRD HRD3
      generalize rowsC x.v l = E at hrg1 hcm HQ ⊢
      generalize rowsC x.v (l ++ [m]) = F at hrg2 hcm HQ ⊢
      have hcase : (E = 0 ∧ F = 0) ∨ (E = 0 ∧ F = 5) ∨ (E = 1 ∧ F = 1) ∨ (E = 1 ∧ F = 5) ∨ (E = 5 ∧ F = 5) := by omega
      clear hrg1 hrg2 hcm
      rcases hcase with ⟨rfl, rfl⟩ | ⟨rfl, rfl⟩ | ⟨rfl, rfl⟩ | ⟨rfl, rfl⟩ | ⟨rfl, rfl⟩
      · have hys : y.ts.length ≤ 5000 := Y.out.1.sm
        have HM := Lib.hid (HQ.out.2.1 rfl rfl)
        have HN := Lib.hid (HQ.out.1 rfl rfl)
        go_wp2_with (fail)
        go_loopw [63] (fun i wr => ∃ k : Nat, k ≤ y.ts.length ∧ i = .int .i64 (k : Int) ∧ Hid (Below wc.heap.size wc wr)) (fun i _ => y.ts.length - (intOf i).toNat)
        case atStart => exact ⟨0, by omega, rfl, Lib.hid (Below.refl _ _)⟩
        case round =>
          obtain ⟨k, hk, rfl, hrel⟩ := hrel
          by_cases hlt : k < y.ts.length
          · have hyw := Y.out.1.below (hz.out.2.2.trans (lower' hrel.out hz.out.2.2.size))
            obtain ⟨b, o, hA, _, c0⟩ := LV.Ok.cell' hyw hlt
            have hlI : (k : Int) < (y.ts.length : Int) := by omega
            have hok := hyw.ok _ (List.getElem_mem hlt)
            have hat := tus_at y.ts k hlt
            have hin : y.ts[k].l ∈ tus z.ts := by
              rw [hz.out.2.1]
              refine HM.out _ ?_
              rw [← Y.out.2, ← hat]
              exact List.getElem_mem _
            rw [hA]
            generalize y.ts[k] = r at c0 hok hin
            have hh := rhas_any z r wr (hz.out.1.below hrel.out) hok
            rw [hasL_iff.2 hin] at hh
            have HH := Lib.hid hh
            have HB := Lib.hid hrel.out
            clear hyw hok hat hin hh hrel hA
            go_wp2_with (go_at_call 22; (with_reducible refine HH.out.mono ?_); rintro e w8 ⟨rfl, hd⟩; have HB8 := Lib.hid (HB.out.trans (lower' (below_drawn hd) HB.out.size)); clear hd)
            go_roundw
            case rel => exact ⟨k + 1, by omega, by go_num, HB8⟩
            case measure => simp [intOf]; omega
          · have hlI : ¬ (k : Int) < (y.ts.length : Int) := by omega
            have HB := Lib.hid hrel.out
            have hbw := hz.out.2.2.trans (lower' hrel.out hz.out.2.2.size)
            obtain ⟨⟨q0, q1, q2, q3, q4⟩, -⟩ := KT.out wr hbw
            have hokw : x.Ok wr := H0.out.1.below (B3.out.2.trans (lower' hbw B3.out.2.size))
            have hv := rvars_any x wr hokw H0.out.2.2.2.2.1
            unfold vwA at hv
            have hwo := fun w (h : Below wr.heap.size wr w) => rwithout_l z y w ((hz.out.1.below hrel.out).below h) ((Y.out.1.below hbw).below h)
            have HV := Lib.hid hv
            have HW := Lib.hid hwo
            have HBW := Lib.hid hbw
            clear hv hwo hbw hokw hrel
            go_upto_region 15 with (first
              | (go_at_call 23; (with_reducible refine HV.out.mono ?_); rintro e w4 ⟨vA, vc, rfl, _, s4, b4⟩; have H4 := Lib.hid (And.intro s4 b4); have HW4 := Lib.hid (HW.out w4 b4); clear s4 b4)
              | (go_at_call 24; (with_reducible refine HW4.out.mono ?_); rintro e w5 ⟨o, rfl, k5, e5, b5⟩))
            have O5 := Lib.hid (And.intro k5 (And.intro (show tus o.ts = woL (rowsR x.v (l ++ [m])) (rowsR x.v l) from by rw [e5, hz.out.2.1, Y.out.2]) (And.intro (HBW.out.trans (lower' (H4.out.2.trans (lower' b5 H4.out.2.size)) HBW.out.size)) (H4.out.1.below b5))))
            have hos : o.ts.length ≤ 5000 := k5.sm
            clear HV HW HW4 HB k5 e5 b5 q0 q1 q2 q3 q4 H4 HBW
            have X5 := Lib.hid (H0.out.1.below (B3.out.2.trans (lower' O5.out.2.2.1 B3.out.2.size)))
            go_loopw [78] (fun i wq => ∃ k : Nat, k ≤ o.ts.length ∧ i = .int .i64 (k : Int) ∧ Hid (Below w5.heap.size w5 wq)) (fun i _ => o.ts.length - (intOf i).toNat)
            case atStart => exact ⟨0, by omega, rfl, Lib.hid (Below.refl _ _)⟩
            case round =>
              obtain ⟨k2, hk2, rfl, hrel2⟩ := hrel
              rename World => wq
              by_cases hlt2 : k2 < o.ts.length
              · obtain ⟨b, oo, hA, _, c0⟩ := LV.Ok.cell' (O5.out.1.below hrel2.out) hlt2
                have hlI2 : (k2 : Int) < (o.ts.length : Int) := by omega
                have hok := (O5.out.1.below hrel2.out).ok _ (List.getElem_mem hlt2)
                have hat := tus_at o.ts k2 hlt2
                have hin : o.ts[k2].l ∈ tus o.ts := by rw [← hat]; exact List.getElem_mem _
                rw [O5.out.2.1, mem_wo] at hin
                have hany := HN.out _ hin.1 hin.2
                have hlen := HQ.out.2.2 _ hin.1
                rw [hA]
                generalize o.ts[k2] = r at c0 hok hany hlen
                have RR := Lib.hid (And.intro hok (And.intro hany hlen))
                have hw3 := O5.out.2.2.1.trans (lower' hrel2.out O5.out.2.2.1.size)
                obtain ⟨⟨-, -, -, q3, -⟩, -⟩ := KT.out wq hw3
                have R2 := Lib.hid (And.intro hrel2.out hw3)
                have hal : x.v.atoms.length ≤ 12 := H0.out.2.2.2.2.1
                clear hok hat hin hany hlen hA hrel2 hw3
                go_wp2_with (fail)
                go_loopw [16, 85] (fun s16 i wp => ∃ j : Nat, j ≤ x.v.atoms.length ∧ s16 = .bool ((x.v.atoms.take j).any fun a => decide (m = rowEd x.v.atoms r.l a)) ∧ i = .int .i64 (j : Int) ∧ Hid (Below wq.heap.size wq wp)) (fun _ i _ => x.v.atoms.length - (intOf i).toNat)
                case atStart => exact ⟨0, by omega, rfl, rfl, Lib.hid (Below.refl _ _)⟩
                case round =>
                  obtain ⟨j, hj, rfl, rfl, hrel3⟩ := hrel
                  rename World => wp
                  by_cases hjt : j < x.v.atoms.length
                  · have hb5 := R2.out.1.trans (lower' hrel3.out R2.out.1.size)
                    obtain ⟨ab, ao, hAA, _, a0, a1, a2⟩ := (X5.out.below hb5).ats.cell hjt
                    have hjI : (j : Int) < (x.v.atoms.length : Int) := by omega
                    have hat := any_take (p := fun a => decide (m = rowEd x.v.atoms r.l a)) hjt
                    rw [hAA]
                    generalize x.v.atoms[j] = a at a0 a1 a2 hat
                    generalize (x.v.atoms.take j).any (fun a => decide (m = rowEd x.v.atoms r.l a)) = U at hat ⊢
                    have hg7 := heap_alloc_new wp (.cells #[.string ⟨a.fr.toArray⟩, .string ⟨a.lab.toArray⟩, .string ⟨a.to.toArray⟩] 49)
                    have hb7 := hrel3.out.alloc hrel3.out.size (.cells #[.string ⟨a.fr.toArray⟩, .string ⟨a.lab.toArray⟩, .string ⟨a.to.toArray⟩] 49)
                    have R7 := Lib.hid (And.intro hg7 (And.intro hb7 hat))
                    have hvl : (varsL x.v.atoms).length ≤ 100 := O5.out.2.2.2.sm
                    clear hb5 hAA hrel3 hg7 hb7 hat
                    go_wp2_with (fail)
                    clear a0 a1 a2
                    generalize (wp.alloc (.cells #[.string ⟨a.fr.toArray⟩, .string ⟨a.lab.toArray⟩, .string ⟨a.to.toArray⟩] 49)) = w7 at R7 ⊢
                    generalize wp.heap.size = g7 at R7 ⊢
                    go_loopw [19, 20, 91] (fun s19 s20 i wl => ∃ n : Nat, n ≤ (varsL x.v.atoms).length ∧ s19 = .int .i64 (atI (varsL x.v.atoms) r.l a.fr n) ∧ s20 = .int .i64 (atI (varsL x.v.atoms) r.l a.to n) ∧ i = .int .i64 (n : Int) ∧ Hid (Below w7.heap.size w7 wl)) (fun _ _ i _ => (varsL x.v.atoms).length - (intOf i).toNat)
                    case atStart => exact ⟨0, by omega, by rw [atI_zero], by rw [atI_zero], rfl, Lib.hid (Below.refl _ _)⟩
                    case round =>
                      obtain ⟨n, hn, rfl, rfl, rfl, hrel4⟩ := hrel
                      rename World => wl
                      by_cases hnt : n < (varsL x.v.atoms).length
                      · have hnI : (n : Int) < ((varsL x.v.atoms).length : Int) := by omega
                        have hbq := R7.out.2.1.trans (lower' hrel4.out R7.out.2.1.size)
                        have hb5 := R2.out.1.trans (lower' hbq R2.out.1.size)
                        obtain ⟨vb, vo, hVA, _, v0⟩ := (O5.out.2.2.2.below hb5).cell hnt
                        obtain ⟨x0, -, x2⟩ := box3 ((hrel4.out.block _ (heap_lt R7.out.1)).trans R7.out.1)
                        have hnr : n < r.l.length := by rw [RR.out.2.2]; exact hnt
                        obtain ⟨rb, ro, hRA, _, r0⟩ := (RR.out.1.below hbq).cell hnr
                        have hnrI : (n : Int) < (r.l.length : Int) := by omega
                        have hget : r.l.getD n 0 = r.l[n] := by rw [List.getD_eq_getElem?_getD, List.getElem?_eq_getElem hnr]; rfl
                        rw [← hget] at r0
                        generalize hrn : r.l.getD n 0 = rn at r0
                        have HRN := Lib.hid hrn
                        have hnd := varsL_nodup x.v.atoms
                        rw [hVA, hRA]
                        have B7 := Lib.hid hrel4.out
                        clear hbq hb5 hget hrel4 hrn
                        by_cases e1 : (varsL x.v.atoms)[n] = a.fr <;> by_cases e2 : (varsL x.v.atoms)[n] = a.to
                        · have N1 := Lib.hid (atI_yes (r := r.l) hnd hnt e1)
                          have N2 := Lib.hid (atI_yes (r := r.l) hnd hnt e2)
                          have t1 : ((varsL x.v.atoms)[n] == a.fr) = true := by rw [e1]; simp
                          have t2 : ((varsL x.v.atoms)[n] == a.to) = true := by rw [e2]; simp
                          clear e1 e2 hnd
                          generalize (varsL x.v.atoms)[n] = u at v0 t1 t2
                          go_upto_region 25 with (fail)
                          go_quiet (fail)
                          go_upto_region 27 with (fail)
                          go_quiet (fail)
                          go_wp2_with (fail)
                          go_roundw
                          case rel => exact ⟨n + 1, by omega, by rw [N1.out]; (try rw [HRN.out]), by rw [N2.out]; (try rw [HRN.out]), by go_num, Lib.hid (Below.drewN' B7.out _)⟩
                          case measure => simp [intOf]; omega
                        · have N1 := Lib.hid (atI_yes (r := r.l) hnd hnt e1)
                          have N2 := Lib.hid (atI_no (r := r.l) hnt e2)
                          have t1 : ((varsL x.v.atoms)[n] == a.fr) = true := by rw [e1]; simp
                          have t2 : ((varsL x.v.atoms)[n] == a.to) = false := beq_eq_false_iff_ne.2 e2
                          clear e1 e2 hnd
                          generalize (varsL x.v.atoms)[n] = u at v0 t1 t2
                          go_upto_region 25 with (fail)
                          go_quiet (fail)
                          go_upto_region 27 with (fail)
                          go_quiet (fail)
                          go_wp2_with (fail)
                          go_roundw
                          case rel => exact ⟨n + 1, by omega, by rw [N1.out]; (try rw [HRN.out]), by rw [N2.out]; (try rw [HRN.out]), by go_num, Lib.hid (Below.drewN' B7.out _)⟩
                          case measure => simp [intOf]; omega
                        · have N1 := Lib.hid (atI_no (r := r.l) hnt e1)
                          have N2 := Lib.hid (atI_yes (r := r.l) hnd hnt e2)
                          have t1 : ((varsL x.v.atoms)[n] == a.fr) = false := beq_eq_false_iff_ne.2 e1
                          have t2 : ((varsL x.v.atoms)[n] == a.to) = true := by rw [e2]; simp
                          clear e1 e2 hnd
                          generalize (varsL x.v.atoms)[n] = u at v0 t1 t2
                          go_upto_region 25 with (fail)
                          go_quiet (fail)
                          go_upto_region 27 with (fail)
                          go_quiet (fail)
                          go_wp2_with (fail)
                          go_roundw
                          case rel => exact ⟨n + 1, by omega, by rw [N1.out]; (try rw [HRN.out]), by rw [N2.out]; (try rw [HRN.out]), by go_num, Lib.hid (Below.drewN' B7.out _)⟩
                          case measure => simp [intOf]; omega
                        · have N1 := Lib.hid (atI_no (r := r.l) hnt e1)
                          have N2 := Lib.hid (atI_no (r := r.l) hnt e2)
                          have t1 : ((varsL x.v.atoms)[n] == a.fr) = false := beq_eq_false_iff_ne.2 e1
                          have t2 : ((varsL x.v.atoms)[n] == a.to) = false := beq_eq_false_iff_ne.2 e2
                          clear e1 e2 hnd
                          generalize (varsL x.v.atoms)[n] = u at v0 t1 t2
                          go_upto_region 25 with (fail)
                          go_quiet (fail)
                          go_upto_region 27 with (fail)
                          go_quiet (fail)
                          go_wp2_with (fail)
                          go_roundw
                          case rel => exact ⟨n + 1, by omega, by rw [N1.out]; (try rw [HRN.out]), by rw [N2.out]; (try rw [HRN.out]), by go_num, Lib.hid (Below.drewN' B7.out _)⟩
                          case measure => simp [intOf]; omega
                      · obtain rfl : n = (varsL x.v.atoms).length := by omega
                        have hnI : ¬ ((varsL x.v.atoms).length : Int) < ((varsL x.v.atoms).length : Int) := by omega
                        have hbq := R7.out.2.1.trans (lower' hrel4.out R7.out.2.1.size)
                        obtain ⟨-, x1, -⟩ := box3 ((hrel4.out.block _ (heap_lt R7.out.1)).trans R7.out.1)
                        obtain ⟨-, d0, d1, d2⟩ := KT.out wl (R2.out.2.trans (lower' hbq R2.out.2.size))
                        have HB9 := Lib.hid hbq
                        have hj9 : ((x.v.atoms.take (j + 1)).any fun a => decide (m = rowEd x.v.atoms r.l a)) = (U || decide (m = (⟨r.l.getD ((varsL x.v.atoms).idxOf a.fr) 0, a.lab, r.l.getD ((varsL x.v.atoms).idxOf a.to) 0⟩ : Ed))) := R7.out.2.2
                        rw [atI_all RR.out.2.2, atI_all RR.out.2.2]
                        generalize r.l.getD ((varsL x.v.atoms).idxOf a.fr) 0 = f9 at hj9 ⊢
                        generalize r.l.getD ((varsL x.v.atoms).idxOf a.to) 0 = t9 at hj9 ⊢
                        have HJ := Lib.hid hj9
                        clear hj9 hbq hrel4
                        cases U with
                        | true =>
                          go_wp2_with (fail)
                          go_roundw
                          case rel => exact ⟨j + 1, by omega, by rw [HJ.out]; rfl, by go_num, HB9⟩
                          case measure => simp [intOf]; omega
                        | false =>
                          by_cases h1 : m.f = f9
                          · by_cases h2 : m.lab = a.lab
                            · by_cases h3 : m.t = t9
                              · have HE := Lib.hid (show decide (m = (⟨f9, a.lab, t9⟩ : Ed)) = true from decide_eq_true (by rw [← h1, ← h2, ← h3]))
                                go_wp2_with (fail)
                                clear h1 h2 h3
                                go_roundw
                                case rel => exact ⟨j + 1, by omega, by rw [HJ.out, HE.out]; rfl, by go_num, HB9⟩
                                case measure => simp [intOf]; omega
                              · have HE := Lib.hid (show decide (m = (⟨f9, a.lab, t9⟩ : Ed)) = false from decide_eq_false (fun e => h3 (by rw [e])))
                                go_wp2_with (fail)
                                clear h1 h2 h3
                                go_roundw
                                case rel => exact ⟨j + 1, by omega, by rw [HJ.out, HE.out]; rfl, by go_num, HB9⟩
                                case measure => simp [intOf]; omega
                            · have HE := Lib.hid (show decide (m = (⟨f9, a.lab, t9⟩ : Ed)) = false from decide_eq_false (fun e => h2 (by rw [e])))
                              go_wp2_with (fail)
                              clear h1 h2
                              go_roundw
                              case rel => exact ⟨j + 1, by omega, by rw [HJ.out, HE.out]; rfl, by go_num, HB9⟩
                              case measure => simp [intOf]; omega
                          · have HE := Lib.hid (show decide (m = (⟨f9, a.lab, t9⟩ : Ed)) = false from decide_eq_false (fun e => h1 (by rw [e])))
                            go_wp2_with (fail)
                            clear h1
                            go_roundw
                            case rel => exact ⟨j + 1, by omega, by rw [HJ.out, HE.out]; rfl, by go_num, HB9⟩
                            case measure => simp [intOf]; omega
                  · obtain rfl : j = x.v.atoms.length := by omega
                    have hjI : ¬ (x.v.atoms.length : Int) < (x.v.atoms.length : Int) := by omega
                    have hany := RR.out.2.1
                    rw [List.take_length, hany]
                    have HB9 := Lib.hid (R2.out.1.trans (lower' hrel3.out R2.out.1.size))
                    clear hany hrel3
                    go_wp2_with (fail)
                    go_roundw
                    case rel => exact ⟨k2 + 1, by omega, by go_num, HB9⟩
                    case measure => simp [intOf]; omega
              · have hlI2 : ¬ (k2 : Int) < (o.ts.length : Int) := by omega
                have HB9 := Lib.hid (B3.out.2.trans (lower' (O5.out.2.2.1.trans (lower' hrel2.out O5.out.2.2.1.size)) B3.out.2.size))
                clear hrel2
                go_wp2_with (fail)
                go_ret
                exact ⟨rfl, HB9.out⟩
      · go_wp2_with (fail)
        go_ret
        exact ⟨rfl, BC.out⟩
      · go_wp2_with (fail)
        go_ret
        exact ⟨rfl, BC.out⟩
      · go_wp2_with (fail)
        go_ret
        exact ⟨rfl, BC.out⟩
      · go_wp2_with (fail)
        go_ret
        exact ⟨rfl, BC.out⟩
end Go.Proofs.Ytobieolonlddlaa
