/- KeyThree: the walk. -/
import Derived.Test.YtgcipdgkenidjaaProg
import Derived.Test.YtgcipdgkenidjaaKeyD
import Derived.Test.YtgcipdgkenidjaaKeyE
import Derived.Test.YtgcipdgkenidjaaKeyG
import Derived.Test.YtgcipdgkenidjaaKeyM
import Derived.WalkKit
import Derived.WalkSpells
import Derived.WalkLawsBesides
import Derived.Deep.QuietTactic
import Derived.Deep.RegionHeld3
import Derived.Deep.DeepCutAuto
import Derived.Deep.CutRange
import Derived.BigQuiet
import Derived.KernelRfl
import Derived.Lib.Hide
namespace Go.Proofs.Ytgcipdgkenidjaa
open Go.RowKit

/-- What the test of few says of three keys. -/
theorem few_len {ks : List KPart} (h : fewB ks = true) : ks.length ≤ 60 := by
  simp only [fewB, Bool.and_eq_true, decide_eq_true_eq] at h
  exact h.1

set_option maxRecDepth 100000 in
set_option maxHeartbeats 1000000 in
theorem keyThree_walk (A1 : Option Addr) (k1 : List KPart) (c1 : Nat) (A2 : Option Addr) (k2 : List KPart) (c2 : Nat) (A3 : Option Addr) (k3 : List KPart) (c3 : Nat) (w : World)
    (hr1 : Rd w w.heap.size A1 (pcs k1)) (hf1 : ∀ q ∈ k1, q.fits) (hc1 : k1.length ≤ c1) (hm1 : c1 ≤ 4398046511104)
    (hr2 : Rd w w.heap.size A2 (pcs k2)) (hf2 : ∀ q ∈ k2, q.fits) (hc2 : k2.length ≤ c2) (hm2 : c2 ≤ 4398046511104)
    (hr3 : Rd w w.heap.size A3 (pcs k3)) (hf3 : ∀ q ∈ k3, q.fits) (hc3 : k3.length ≤ c3) (hm3 : c3 ≤ 4398046511104) :
    Calls Try.prog 7 #[.slice A1 k1.length c1, .slice A2 k2.length c2, .slice A3 k3.length c3] w fun e w' => e = .returned (.bool true) ∧ Below w.heap.size w w' := by
  have hw1 : ∀ W, Below w.heap.size w W → Calls Try.prog 11 #[.slice A1 k1.length c1] W fun e w' => e = .returned (.bool (fewB k1)) ∧ W = w' := fun W h => few_any A1 k1 _ c1 w.heap.size W rfl (hr1.below h (Nat.le_refl _)) h.size (by omega) hf1
  have hw2 : ∀ W, Below w.heap.size w W → Calls Try.prog 11 #[.slice A2 k2.length c2] W fun e w' => e = .returned (.bool (fewB k2)) ∧ W = w' := fun W h => few_any A2 k2 _ c2 w.heap.size W rfl (hr2.below h (Nat.le_refl _)) h.size (by omega) hf2
  have hw3 : ∀ W, Below w.heap.size w W → Calls Try.prog 11 #[.slice A3 k3.length c3] W fun e w' => e = .returned (.bool (fewB k3)) ∧ W = w' := fun W h => few_any A3 k3 _ c3 w.heap.size W rfl (hr3.below h (Nat.le_refl _)) h.size (by omega) hf3
  have hx12 : ∀ W, Below w.heap.size w W → Calls Try.prog 20 #[.slice A1 k1.length c1, .slice A2 k2.length c2] W fun e w' => e = .returned (.int .i64 (keyC k1 k2)) ∧ Below W.heap.size W w' := fun W h => cmp_any A1 A2 k1 k2 _ _ c1 c2 w.heap.size W rfl rfl (hr1.below h (Nat.le_refl _)) (hr2.below h (Nat.le_refl _)) h.size (by omega) (by omega)
  have hx23 : ∀ W, Below w.heap.size w W → Calls Try.prog 20 #[.slice A2 k2.length c2, .slice A3 k3.length c3] W fun e w' => e = .returned (.int .i64 (keyC k2 k3)) ∧ Below W.heap.size W w' := fun W h => cmp_any A2 A3 k2 k3 _ _ c2 c3 w.heap.size W rfl rfl (hr2.below h (Nat.le_refl _)) (hr3.below h (Nat.le_refl _)) h.size (by omega) (by omega)
  have hx13 : ∀ W, Below w.heap.size w W → Calls Try.prog 20 #[.slice A1 k1.length c1, .slice A3 k3.length c3] W fun e w' => e = .returned (.int .i64 (keyC k1 k3)) ∧ Below W.heap.size W w' := fun W h => cmp_any A1 A3 k1 k3 _ _ c1 c3 w.heap.size W rfl rfl (hr1.below h (Nat.le_refl _)) (hr3.below h (Nat.le_refl _)) h.size (by omega) (by omega)
  have hx11 : ∀ W, Below w.heap.size w W → Calls Try.prog 20 #[.slice A1 k1.length c1, .slice A1 k1.length c1] W fun e w' => e = .returned (.int .i64 0) ∧ Below W.heap.size W w' := fun W h => by
    have := cmp_any A1 A1 k1 k1 _ _ c1 c1 w.heap.size W rfl rfl (hr1.below h (Nat.le_refl _)) (hr1.below h (Nat.le_refl _)) h.size (by omega) (by omega)
    rwa [keyC_self] at this
  have hown : ∀ W, Below w.heap.size w W → Calls Try.prog 12 #[.slice A1 k1.length c1] W fun e w' => ∃ v, e = .returned v ∧ OwnP w' W.heap.size 38 v k1 ∧ Below W.heap.size W w' := fun W h => own_any A1 k1 _ c1 w.heap.size W rfl (hr1.below h (Nat.le_refl _)) h.size (by omega)
  have hsn : ∀ W A4 c4 (kq : List KPart) (q : KPart), kq = k1 ++ [q] → Below w.heap.size w W → Rd W W.heap.size A4 (pcs kq) → kq.length ≤ 4611686018427387904 → Calls Try.prog 20 #[.slice A1 k1.length c1, .slice A4 kq.length c4] W fun e w' => e = .returned (.int .i64 (-1)) ∧ Below W.heap.size W w' := fun W A4 c4 kq q hq h h4 hl => by
    subst hq
    have := cmp_any A1 A4 k1 (k1 ++ [q]) _ _ c1 c4 W.heap.size W rfl rfl ((hr1.below h (Nat.le_refl _)).more h.size) h4 (Nat.le_refl _) (by omega) hl
    rwa [keyC_snoc] at this
  have hsn' : ∀ W A4 c4 (kq : List KPart) (q : KPart), kq = k1 ++ [q] → Below w.heap.size w W → Rd W W.heap.size A4 (pcs kq) → kq.length ≤ 4611686018427387904 → Calls Try.prog 20 #[.slice A4 kq.length c4, .slice A1 k1.length c1] W fun e w' => e = .returned (.int .i64 1) ∧ Below W.heap.size W w' := fun W A4 c4 kq q hq h h4 hl => by
    subst hq
    have := cmp_any A4 A1 (k1 ++ [q]) k1 _ _ c4 c1 W.heap.size W rfl rfl h4 ((hr1.below h (Nat.le_refl _)).more h.size) (Nat.le_refl _) hl (by omega)
    rwa [keyC_snoc'] at this
  have HO := Lib.hid hown
  have HS := Lib.hid hsn
  have HS' := Lib.hid hsn'
  clear hown hsn hsn'
  have htr := keyC_trans k1 k2 k3 hf1 hf2 hf3
  obtain ⟨b1, hb1⟩ : ∃ b, b = fewB k1 := ⟨_, rfl⟩
  obtain ⟨b2, hb2⟩ : ∃ b, b = fewB k2 := ⟨_, rfl⟩
  obtain ⟨b3, hb3⟩ : ∃ b, b = fewB k3 := ⟨_, rfl⟩
  obtain ⟨x, hx⟩ : ∃ x, x = keyC k1 k2 := ⟨_, rfl⟩
  obtain ⟨y, hy⟩ : ∃ y, y = keyC k2 k3 := ⟨_, rfl⟩
  obtain ⟨z, hz⟩ : ∃ z, z = keyC k1 k3 := ⟨_, rfl⟩
  rw [← hb1] at hw1
  rw [← hb2] at hw2
  rw [← hb3] at hw3
  rw [← hx] at hx12 htr
  rw [← hy] at hx23 htr
  rw [← hz] at hx13 htr
  have HB1 := Lib.hid hb1
  have HB3 := Lib.hid hb3
  have H1 := Lib.hid hw1
  have H2 := Lib.hid hw2
  have H3 := Lib.hid hw3
  have H12 := Lib.hid hx12
  have H23 := Lib.hid hx23
  have H13 := Lib.hid hx13
  have H11 := Lib.hid hx11
  have HT := Lib.hid htr
  clear hw1 hw2 hw3 hx12 hx23 hx13 hx11 htr hb1 hb2 hb3 hx hy hz
  have HF1 := Lib.hid hf1
  have HF3 := Lib.hid hf3
  clear hf1 hf2 hf3
  by_cases hall : b1 = true ∧ b2 = true ∧ b3 = true
  · obtain ⟨rfl, rfl, rfl⟩ := hall
    have hl1 : k1.length ≤ 60 := few_len HB1.out.symm
    have hl3 : k3.length ≤ 60 := few_len HB3.out.symm
    go_enter Try.func7, Try.ntmps7
    go_wp2_with fail
    refine (awake_any _).mono ?_
    rintro e w1 ⟨rfl, hb1⟩
    go_upto_region 3 with (go_at_call 11; first | ((with_reducible refine (H1.out _ hb1).mono ?_); rintro e w' ⟨rfl, rfl⟩) | ((with_reducible refine (H2.out _ hb1).mono ?_); rintro e w' ⟨rfl, rfl⟩) | ((with_reducible refine (H3.out _ hb1).mono ?_); rintro e w' ⟨rfl, rfl⟩))
    go_cut [42] (fun s42 wx => s42 = .bool false ∧ Below w.heap.size w wx)
    case first =>
      by_cases hx0 : x ≤ 0
      · by_cases hy0 : y ≤ 0
        · have hz0 : z ≤ 0 := HT.out hx0 hy0
          go_wp2_with fail
          refine (H12.out _ hb1).mono ?_
          rintro e w2 ⟨rfl, hb2⟩
          have hB2 := hb1.trans (hb2.mono hb1.size)
          go_wp2_with fail
          refine (H23.out _ hB2).mono ?_
          rintro e w3 ⟨rfl, hb3⟩
          have hB3 := hB2.trans (hb3.mono hB2.size)
          go_wp2_with fail
          refine (H13.out _ hB3).mono ?_
          rintro e w4 ⟨rfl, hb4⟩
          have hB4 := hB3.trans (hb4.mono hB3.size)
          go_wp2_with fail
          go_meet
          exact ⟨congrArg Value.bool (decide_eq_false (by omega)), hB4⟩
        · go_wp2_with fail
          refine (H12.out _ hb1).mono ?_
          rintro e w2 ⟨rfl, hb2⟩
          have hB2 := hb1.trans (hb2.mono hb1.size)
          go_wp2_with fail
          refine (H23.out _ hB2).mono ?_
          rintro e w3 ⟨rfl, hb3⟩
          have hB3 := hB2.trans (hb3.mono hB2.size)
          go_wp2_with fail
          go_meet
          exact ⟨rfl, hB3⟩
      · go_wp2_with fail
        refine (H12.out _ hb1).mono ?_
        rintro e w2 ⟨rfl, hb2⟩
        have hB2 := hb1.trans (hb2.mono hb1.size)
        go_wp2_with fail
        go_meet
        exact ⟨rfl, hB2⟩
    case rest =>
      obtain ⟨rfl, hBc⟩ := hcut
      clear hb1
      go_wp2
      go_loopw [45] (fun i wr => ∃ k : Nat, k ≤ k3.length ∧ i = .int .i64 (k : Int) ∧ Below w.heap.size w wr) (fun i _ => k3.length - (intOf i).toNat)
      case atStart => exact ⟨0, by omega, rfl, hBc⟩
      case round =>
        clear hBc
        obtain ⟨k, hk, rfl, hbk⟩ := hrel
        have hsz := hbk.size
        rcases Nat.lt_or_ge k k3.length with h8 | h8
        · obtain ⟨q, hq⟩ : ∃ q, q = k3[k] := ⟨_, rfl⟩
          have hqf : q.fits := HF3.out q (by rw [hq]; exact List.getElem_mem _)
          obtain ⟨pb, po, rfl, hpB, p0, p1, p2⟩ := (hr3.below hbk (Nat.le_refl _)).part h8
          rw [← hq] at p0 p1 p2
          clear hq
          go_upto_region 8 with fail
          obtain ⟨b, hb⟩ : ∃ b, b = wr.heap.size := ⟨_, rfl⟩
          have hB1 : Below w.heap.size w (wr.alloc (.cells #[.bool q.text, .string q.s, .int .i64 q.n] 38)) := hbk.alloc hsz _
          have d0 : (wr.alloc (.cells #[.bool q.text, .string q.s, .int .i64 q.n] 38)).cell? ⟨b, 0, none⟩ = some (.bool q.text) := by rw [hb]; exact cell_of_row _ wr.heap.size 0 q.cells _ (0, 0) (heap_alloc_new wr _)
          have d1 : (wr.alloc (.cells #[.bool q.text, .string q.s, .int .i64 q.n] 38)).cell? ⟨b, 1, none⟩ = some (.string q.s) := by rw [hb]; exact cell_of_row _ wr.heap.size 1 q.cells _ (0, 0) (heap_alloc_new wr _)
          have d2 : (wr.alloc (.cells #[.bool q.text, .string q.s, .int .i64 q.n] 38)).cell? ⟨b, 2, none⟩ = some (.int .i64 q.n) := by rw [hb]; exact cell_of_row _ wr.heap.size 2 q.cells _ (0, 0) (heap_alloc_new wr _)
          have hbs : b < (wr.alloc (.cells #[.bool q.text, .string q.s, .int .i64 q.n] 38)).heap.size := by rw [hb]; simp
          rw [← hb]
          generalize wr.alloc (.cells #[.bool q.text, .string q.s, .int .i64 q.n] 38) = W at *
          clear hb p0 p1 p2 hbk hsz
          have hsW := hB1.size
          go_cut [45, 66] from 45 to 67 (fun s45 s66 wx => s45 = .int .i64 (k : Int) ∧ s66 = .bool false ∧ Below w.heap.size w wx)
          case first =>
            have KS : ∀ w', Below W.heap.size W w' → (Below W.heap.size W w' ∧ w'.cell? ⟨b, 0, none⟩ = some (.bool q.text) ∧ w'.cell? ⟨b, 1, none⟩ = some (.string q.s) ∧ w'.cell? ⟨b, 2, none⟩ = some (.int .i64 q.n)) :=
              fun w' h => ⟨h, (h.cell (p := ⟨b, 0, none⟩) hbs).trans d0, (h.cell (p := ⟨b, 1, none⟩) hbs).trans d1, (h.cell (p := ⟨b, 2, none⟩) hbs).trans d2⟩
            obtain ⟨kq, hkq⟩ : ∃ kq, kq = k1 ++ [q] := ⟨_, rfl⟩
            have hkl : kq.length ≤ 4611686018427387904 := by rw [hkq]; simp; omega
            have HK := Lib.hid KS
            have HQ := Lib.hid hkq
            clear KS hkq
            go_region_held3 (fun w' => Below W.heap.size W w' ∧ w'.cell? ⟨b, 0, none⟩ = some (.bool q.text) ∧ w'.cell? ⟨b, 1, none⟩ = some (.string q.s) ∧ w'.cell? ⟨b, 2, none⟩ = some (.int .i64 q.n))
              (first
                | exact HK.out _ (Below.refl _ _).drew
                | exact HK.out _ hB7
                | exact HK.out _ hB6
                | exact HK.out _ hB5
                | exact HK.out _ hB4
                | exact HK.out _ hB3
                | exact HK.out _ hB2
                | (refine HK.out _ ?_; obtain ⟨hBo, -⟩ : Below W.heap.size W _ ∧ _ := (by assumption); exact hBo.alloc hBo.size _))
              (first
                | (go_at_call 12; have _t := hB4; obtain ⟨hBo, -⟩ : Below W.heap.size W _ ∧ _ := (by assumption); (with_reducible refine (HO.out _ (hB1.trans (hBo.mono hsW))).mono ?_); rintro e w5 ⟨v5, rfl, hown5, hb5⟩; have hB5 := hBo.trans (hb5.mono hBo.size))
                | (go_at_call 12; obtain ⟨hBo, -⟩ : Below W.heap.size W _ ∧ _ := (by assumption); (with_reducible refine (HO.out _ (hB1.trans (hBo.mono hsW))).mono ?_); rintro e w2 ⟨v2, rfl, hown2, hb2⟩; have hB2 := hBo.trans (hb2.mono hBo.size))
                | (go_at_call 20; (with_reducible refine (HS.out w3 A4 c4 kq q HQ.out (hB1.trans (hB3.mono hsW)) hr4 hkl).mono ?_); rintro e w4 ⟨rfl, hb4⟩; have hB4 := hB3.trans (hb4.mono hB3.size))
                | (go_at_call 20; (with_reducible refine (HS'.out w6 A6 c6 kq q HQ.out (hB1.trans (hB6.mono hsW)) hr6 hkl).mono ?_); rintro e w7 ⟨rfl, hb7⟩; have hB7 := hB6.trans (hb7.mono hB6.size))
                | (refine step_appP w2 (by rfl) (.tmp 51) (.tmp 53) rfl _ v2 k1 rfl hown2 (W.heap.size + 1) (some ⟨W.heap.size, 0, none⟩) 1 1 [q] rfl rfl ((Rd.new W.drew _ _ _).below hb2 (by simp)) (by simp; omega) (by have := hb2.size; simp at this ⊢; omega) ?_; intro v3 w3 hown3 hb3; rw [← HQ.out] at hown3; have hB3 : Below W.heap.size W w3 := hB2.trans (hb3.mono (by have := hb2.size; simp)); obtain ⟨A4, c4, rfl, hc4, hm4, hr4⟩ := hown3.shape)
                | (refine step_appP (w2.alloc _) (by rfl) (.tmp 51) (.tmp 53) rfl _ v2 k1 rfl (hown2.alloc _) (w2.heap.size + 1) (some ⟨w2.heap.size, 0, none⟩) 1 1 [q] rfl rfl (Rd.new w2 _ _ _) (by simp; omega) (by have := hb2.size; simp at this ⊢; omega) ?_; intro v3 w3 hown3 hb3; rw [← HQ.out] at hown3; have hB3 : Below W.heap.size W w3 := (hB2.alloc hB2.size _).trans (hb3.mono (by simp)); obtain ⟨A4, c4, rfl, hc4, hm4, hr4⟩ := hown3.shape)
                | (refine step_appP w5 (by first | rfl | simp [Region.wanted, yielded]) (.tmp 59) (.tmp 61) rfl _ v5 k1 rfl hown5 (w4.heap.size + 1) (some ⟨w4.heap.size, 0, none⟩) 1 1 [q] rfl rfl ((Rd.new w4 _ _ _).below hb5 (by simp)) (by simp; omega) (by have := hb5.size; simp at this ⊢; omega) ?_; intro v6 w6 hown6 hb6; rw [← HQ.out] at hown6; have hB6 : Below W.heap.size W w6 := hB5.trans (hb6.mono (by have := hB4.size; simp; omega)); obtain ⟨A6, c6, rfl, hc6, hm6, hr6⟩ := hown6.shape)
                | (refine step_appP (w5.alloc _) (by first | rfl | simp [Region.wanted, yielded]) (.tmp 59) (.tmp 61) rfl _ v5 k1 rfl (hown5.alloc _) (w5.heap.size + 1) (some ⟨w5.heap.size, 0, none⟩) 1 1 [q] rfl rfl (Rd.new w5 _ _ _) (by simp; omega) (by have := hb5.size; simp at this ⊢; omega) ?_; intro v6 w6 hown6 hb6; rw [← HQ.out] at hown6; have hB6 : Below W.heap.size W w6 := (hB5.alloc hB5.size _).trans (hb6.mono (by exact hB4.size)); obtain ⟨A6, c6, rfl, hc6, hm6, hr6⟩ := hown6.shape))
            all_goals (go_wp2_with fail; go_meet; exact ⟨rfl, rfl, hB1.trans (hB7.mono hsW)⟩)
          case rest =>
            obtain ⟨rfl, rfl, hBc⟩ := hcut
            go_wp2
            go_roundw
            case rel => exact ⟨k + 1, by omega, by go_num, hBc⟩
            case measure => simp [intOf]; omega
        · obtain rfl : k = k3.length := by omega
          go_wp2_with fail
          refine (H11.out _ hbk).mono ?_
          rintro e w2 ⟨rfl, hb2⟩
          go_wp2
          go_ret
          exact ⟨rfl, hbk.trans (hb2.mono hsz)⟩
  · rcases b1 with _ | _
    · clear hall
      go_enter Try.func7, Try.ntmps7
      go_wp2_with fail
      refine (awake_any _).mono ?_
      rintro e w1 ⟨rfl, hb1⟩
      go_wp2_with (go_at_call 11; (with_reducible refine (H1.out _ hb1).mono ?_); rintro e w' ⟨rfl, rfl⟩)
      refine (awake_any _).mono ?_
      rintro e w2 ⟨rfl, hb2⟩
      go_wp2
      go_ret
      exact ⟨rfl, hb1.trans (hb2.mono hb1.size)⟩
    · rcases b2 with _ | _
      · clear hall
        go_enter Try.func7, Try.ntmps7
        go_wp2_with fail
        refine (awake_any _).mono ?_
        rintro e w1 ⟨rfl, hb1⟩
        go_wp2_with (go_at_call 11; first | ((with_reducible refine (H1.out _ hb1).mono ?_); rintro e w' ⟨rfl, rfl⟩) | ((with_reducible refine (H2.out _ hb1).mono ?_); rintro e w' ⟨rfl, rfl⟩))
        refine (awake_any _).mono ?_
        rintro e w2 ⟨rfl, hb2⟩
        go_wp2
        go_ret
        exact ⟨rfl, hb1.trans (hb2.mono hb1.size)⟩
      · rcases b3 with _ | _
        · clear hall
          go_enter Try.func7, Try.ntmps7
          go_wp2_with fail
          refine (awake_any _).mono ?_
          rintro e w1 ⟨rfl, hb1⟩
          go_wp2_with (go_at_call 11; first | ((with_reducible refine (H1.out _ hb1).mono ?_); rintro e w' ⟨rfl, rfl⟩) | ((with_reducible refine (H2.out _ hb1).mono ?_); rintro e w' ⟨rfl, rfl⟩) | ((with_reducible refine (H3.out _ hb1).mono ?_); rintro e w' ⟨rfl, rfl⟩))
          refine (awake_any _).mono ?_
          rintro e w2 ⟨rfl, hb2⟩
          go_wp2
          go_ret
          exact ⟨rfl, hb1.trans (hb2.mono hb1.size)⟩
        · exact absurd ⟨rfl, rfl, rfl⟩ hall
end Go.Proofs.Ytgcipdgkenidjaa
