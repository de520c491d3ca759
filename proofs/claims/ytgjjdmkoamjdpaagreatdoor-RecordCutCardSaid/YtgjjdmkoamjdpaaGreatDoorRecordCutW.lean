/- The law RecordCut, walked. -/
import Derived.Test.YtgjjdmkoamjdpaaGreatDoorRcO
import Derived.Test.YtgjjdmkoamjdpaaGreatDoorRcG
namespace Go.Proofs.YtgjjdmkoamjdpaaGreatDoor
open Go.RowKit Go.Maps
set_option maxRecDepth 100000

theorem decCode_cut {l : List ChV} (hg : goodC l = true) (hf : ∀ x ∈ l, x.fits) (h4 : (wcB l).length ≤ 4000) {k : Nat} (hk : k < (wcB l).length) : decCode ((wcB l).take k) = 6 := by
  unfold decCode
  rw [if_neg (by rw [List.length_take]; omega), if_neg]
  unfold wcB at hk ⊢
  match k, hk with
  | 0, _ => exact fun h => by cases h
  | 1, _ => exact fun h => by cases h
  | k + 2, hk =>
    rw [List.take_succ_cons, List.take_succ_cons]
    show ¬ (rcL _).isSome = true
    rw [rcL_cut hg hf (by simpa using hk)]
    decide
theorem decCode_all {l : List ChV} (hg : goodC l = true) (hf : ∀ x ∈ l, x.fits) (y : List UInt8) : decCode (wcB l ++ y) = if 4000 < (wcB l ++ y).length then 3 else if y = [] then 0 else 6 := by
  unfold decCode
  have h : rdOK (wcB l ++ y) = decide (y = []) := by
    show (rcL (UInt8.ofNat l.length :: (bodyC l ++ y))).isSome = _
    exact rcL_yes hg hf y
  rw [h]
  by_cases hy : y = []
  · rw [if_pos (show decide (y = []) = true from decide_eq_true hy), if_pos hy]
  · rw [if_neg (show ¬ decide (y = []) = true from by rw [decide_eq_false hy]; decide), if_neg hy]
theorem wcB_head (l : List ChV) (y : List UInt8) : ∀ x t, wcB l ++ y = x :: t → x = 1 := fun x t h => by
  unfold wcB at h
  rw [List.cons_append] at h
  injection h with h1 h2
  exact h1.symm
theorem wcB_headT (l : List ChV) (k : Nat) : ∀ x t, (wcB l).take k = x :: t → x = 1 := fun x t h => by
  unfold wcB at h
  cases k with
  | zero => cases h
  | succ k =>
    rw [List.take_succ_cons] at h
    injection h with h1 h2
    exact h1.symm
theorem remN (n : Int) (m : Nat) (h0 : 0 < m) (h1 : m < 10000) : ∃ k : Nat, k < m ∧ wrap64 ((IntKind.u64.wrap n).tmod (m : Int)) = (k : Int) := by
  have h2 : 0 ≤ IntKind.u64.wrap n := by
    rw [IntKind.wrap_u64]
    omega
  generalize IntKind.u64.wrap n = u at h2
  have h3 := Int.tmod_lt_of_pos u (show (0 : Int) < (m : Int) by omega)
  have h4 := Int.tmod_nonneg (m : Int) h2
  refine ⟨(u.tmod m).toNat, by omega, ?_⟩
  unfold wrap64
  omega
set_option maxHeartbeats 4000000 in
theorem recordCut_walk (A0 : Option Addr) (l0 : List ChV) (c0 : Nat) (n1 : Int) (A2 : Option Addr) (l2 : List UInt8) (c2 : Nat) (W : World) (h0 : Chs W A0 c0 l0) (a2 : Rd W W.heap.size A2 (u8s l2)) (b2 : l2.length ≤ c2) (e2 : c2 ≤ 140737488351232) (hT : Tabs W) :
    Calls Tryz.prog 5 #[.slice A0 l0.length c0, .int .i64 n1, .slice A2 l2.length c2] W fun e w' => e = .returned (.bool true) ∧ Below W.heap.size W w' := by
  have haw : ∀ w, Below W.heap.size W w → Calls Tryz.prog 7 #[] w fun e w' => e = .returned (.bool true) ∧ Below W.heap.size W w' := fun w hb => (awake15_any w (hT.below hb)).mono fun e w' h => ⟨h.1, hb.trans (lower' h.2 hb.size)⟩
  have hE : ∀ w, Below W.heap.size W w → Calls Tryz.prog 10 #[.agg #[.int .i64 1, .slice A0 l0.length c0, .string ⟨#[]⟩, .int .i64 0, .slice none 0 0, .slice none 0 0, .string ⟨#[]⟩, .string ⟨#[]⟩]] w fun e w' => ∃ A c, e = .returned (.tuple #[.slice A (encByt l0).length c, .int .i64 (encCode l0)]) ∧ (encByt l0).length ≤ c ∧ c ≤ maxLen ∧ Rd w' w'.heap.size A (u8s (encByt l0)) ∧ Below W.heap.size W w' := fun w hb => by
    refine (enc_commit ⟨#[]⟩ ⟨#[]⟩ ⟨#[]⟩ 0 none none 0 0 0 0 A0 c0 l0 w (h0.below hb) (hT.below hb)).mono ?_
    rintro e w' ⟨v', rfl, ho, hb2⟩
    obtain ⟨A, c, rfl, hcap, hm, hr, _⟩ := ho.shape
    exact ⟨A, c, rfl, hcap, hm, hr, hb.trans (lower' hb2 hb.size)⟩
  obtain ⟨N0, hN0⟩ : ∃ N0, N0 = l0.length := ⟨_, rfl⟩
  obtain ⟨N2, hN2⟩ : ∃ N2, N2 = l2.length := ⟨_, rfl⟩
  rw [← hN0] at hE ⊢
  rw [← hN2] at b2 ⊢
  have HAW := Lib.hid haw
  have HE := Lib.hid hE
  have HI := Lib.hid (And.intro h0 (And.intro a2 (And.intro hT (And.intro hN0 hN2))))
  clear haw hE h0 a2 hT hN0 hN2
  by_cases h30 : 30 < N0
  · have hI : (30 : Int) < (N0 : Int) := by omega
    clear HE
    go_enter Tryz.func5, Tryz.ntmps5
    go_upto_region 2 with (go_at_call 7; (with_reducible refine (HAW.out _ (Below.refl _ _)).mono ?_); rintro e w1 ⟨rfl, b1⟩; have B1 := Lib.hid b1; clear b1)
    go_wp2_with (go_at_call 7; (with_reducible refine (HAW.out _ B1.out).mono ?_); rintro e w2 ⟨rfl, b2⟩; have B2 := Lib.hid b2; clear b2)
    go_ret
    exact ⟨rfl, B2.out⟩
  · have hI : ¬ (30 : Int) < (N0 : Int) := by omega
    by_cases h500 : 500 < N2
    · have hI5 : (500 : Int) < (N2 : Int) := by omega
      clear HE
      go_enter Tryz.func5, Tryz.ntmps5
      go_upto_region 2 with (go_at_call 7; (with_reducible refine (HAW.out _ (Below.refl _ _)).mono ?_); rintro e w1 ⟨rfl, b1⟩; have B1 := Lib.hid b1; clear b1)
      go_wp2_with (go_at_call 7; (with_reducible refine (HAW.out _ B1.out).mono ?_); rintro e w2 ⟨rfl, b2⟩; have B2 := Lib.hid b2; clear b2)
      go_ret
      exact ⟨rfl, B2.out⟩
    · have hI5 : ¬ (500 : Int) < (N2 : Int) := by omega
      by_cases hg : goodC l0 = true ∧ (wcB l0).length ≤ 4000
      · obtain ⟨hg1, hg4⟩ := hg
        have hgf : ¬ goodC l0 = false := by rw [hg1]; decide
        have hb : encByt l0 = wcB l0 := by unfold encByt; rw [if_neg hgf, if_neg (by omega)]
        have hc : encCode l0 = 0 := by unfold encCode; rw [if_neg hgf, if_neg (by omega)]
        have hE := HE.out
        rw [hb, hc] at hE
        obtain ⟨L, hL⟩ : ∃ L, L = (wcB l0).length := ⟨_, rfl⟩
        rw [← hL] at hE hg4
        have hL2 : 2 ≤ L := by rw [hL]; unfold wcB; rw [List.length_cons, List.length_cons]; omega
        obtain ⟨k, hk, hkE⟩ := remN n1 L (by omega) (by omega)
        have hcut := decCode_cut hg1 HI.out.1.fit (by omega) (k := k) (by omega)
        have hall := decCode_all hg1 HI.out.1.fit l2
        replace HE := Lib.hid hE
        have hD : ∀ w A c, Below W.heap.size W w → L ≤ c → c ≤ maxLen → Rd w w.heap.size A (u8s (wcB l0)) → Calls Tryz.prog 14 #[.slice A k c] w (RdPost w (.int .i64 6)) := fun w A c hb hc hm hr => by
          have h := decode_rec A ((wcB l0).take k) k c w.heap.size w (by rw [List.length_take]; omega) (by rw [u8s_take]; exact hr.take k) (Nat.le_refl _) (by rw [List.length_take]; omega) (by rw [List.length_take]; omega) (by unfold maxLen at hm; omega) (HI.out.2.2.1.below hb) (wcB_headT l0 k)
          rw [hcut] at h
          exact h
        have HD := Lib.hid hD
        have hne : (L : Int) ≠ 0 := by omega
        have hbe : ((L : Int) == 0) = false := beq_eq_false_iff_ne.2 hne
        have hwL : IntKind.u64.wrap (L : Int) = (L : Int) := by rw [IntKind.wrap_u64]; omega
        have HG := Lib.hid (And.intro hall (And.intro hL hcut))
        clear hE hb hc hcut hall hD hg1 hgf hL
        go_enter Tryz.func5, Tryz.ntmps5
        go_upto_region 6 with (first | (go_at_call 7; (with_reducible refine (HAW.out _ (Below.refl _ _)).mono ?_); rintro e w1 ⟨rfl, b1⟩; have B1 := Lib.hid b1; clear b1) | (go_at_call 10; (with_reducible refine (HE.out _ B1.out).mono ?_); rintro e w2 ⟨A3, c3, rfl, hc3, hm3, r3, b3⟩; have H3 := Lib.hid (And.intro r3 (And.intro hm3 b3)); clear r3 b3 hm3))
        obtain ⟨b3, o3, hA3, -, -⟩ := H3.out.1.get (k := 0) (by rw [u8s_length, ← HG.out.2.1]; omega)
        subst hA3
        have hk3 : (k : Int) ≤ (c3 : Int) := by omega
        go_upto_region 7 with (go_at_call 14; (with_reducible refine (HD.out _ _ _ H3.out.2.2 hc3 H3.out.2.1 H3.out.1).mono ?_); rintro e w4 ⟨K4, A4, n4, c4, rfl, b4⟩; have B4 := Lib.hid b4; clear b4)
        have hb5 : Below w2.heap.size w2 (w4.alloc (.cells #[.int .i64 K4, .slice A4 n4 c4, .string ⟨#[]⟩, .int .i64 0, .slice none 0 0, .slice none 0 0, .string ⟨#[]⟩, .string ⟨#[]⟩] 28)) := B4.out.alloc B4.out.size _
        generalize w4.alloc (.cells #[.int .i64 K4, .slice A4 n4 c4, .string ⟨#[]⟩, .int .i64 0, .slice none 0 0, .slice none 0 0, .string ⟨#[]⟩, .string ⟨#[]⟩] 28) = w5 at hb5 ⊢
        have hbW5 : Below W.heap.size W w5 := H3.out.2.2.trans (lower' hb5 H3.out.2.2.size)
        have hb6 : Below w5.heap.size w5 (w5.alloc (.cells #[] 5)) := (Below.refl _ _).alloc (Nat.le_refl _) _
        obtain ⟨v6, w6, hrun1, ho6, -, -, hbe6, hs6⟩ := app_onto (w5.alloc (.cells #[] 5)) w5.heap.size (.slice (some ⟨w5.heap.size, 0, none⟩) 0 0) [] (OwnB.lit0 w5 (Nat.le_refl _)) hb6.size (some ⟨b3, o3, none⟩) L c3 (wcB l0) HG.out.2.1 (((H3.out.1.below hb5 (Nat.le_refl _)).below hb6 hb5.size).more (Nat.le_trans hb5.size hb6.size)) (by rw [← HG.out.2.1]; simp; omega)
        rw [List.nil_append] at ho6
        have hb56 : Below w5.heap.size w5 w6 := hb6.trans hbe6
        have hbW6 : Below W.heap.size W w6 := hbW5.trans (lower' hb56 hbW5.size)
        obtain ⟨v7, w7, hrun2, ho7, -, -, hbe7, hs7⟩ := app_onto w6 w5.heap.size v6 (wcB l0) ho6 hb56.size A2 N2 c2 l2 HI.out.2.2.2.2 ((HI.out.2.1.below hbW6 (Nat.le_refl _)).more hbW6.size) (by rw [← HG.out.2.1, ← HI.out.2.2.2.2]; omega)
        obtain ⟨A7, c7, rfl, hc7, hm7, r7, -⟩ := ho7.shape
        have hbW7 : Below W.heap.size W w7 := hbW6.trans (lower' hbe7 hbW5.size)
        have hD2 := decode_rec A7 (wcB l0 ++ l2) _ c7 w7.heap.size w7 rfl r7 (Nat.le_refl _) (by rw [List.length_append, ← HG.out.2.1, ← HI.out.2.2.2.2]; omega) hc7 (by unfold maxLen at hm7; omega) (HI.out.2.2.1.below hbW7) (wcB_head l0 l2)
        rw [HG.out.1] at hD2
        have hlen7 : (wcB l0 ++ l2).length = L + N2 := by rw [List.length_append, ← HG.out.2.1, ← HI.out.2.2.2.2]
        rw [hlen7] at hD2 hrun2
        have HD2 := Lib.hid (And.intro hD2 hbW7)
        clear hD2 ho7 r7 hlen7 hc7 hm7 hbe7 hbW6 hb56 ho6 hbe6 hb6 hbW5 hb5
        by_cases hN : N2 = 0
        · have hl2 : l2 = [] := List.eq_nil_of_length_eq_zero (by rw [← HI.out.2.2.2.2]; exact hN)
          have hD3 := HD2.out.1
          rw [if_neg (by omega), if_pos hl2] at hD3
          subst hN
          rw [Nat.add_zero] at hD3 hrun2
          have HD3 := Lib.hid hD3
          clear hD3
          go_wp2_with (first
            | (at_builtin; refine wpL_appK _ rfl (.tmp 51) (.tmp 52) 32 rfl rfl _ _ _ _ rfl rfl hrun1 ?_)
            | (at_builtin; refine wpL_appK _ rfl (.tmp 53) (.tmp 54) 32 rfl rfl _ _ _ _ rfl rfl hrun2 ?_)
            | (go_at_call 14; (with_reducible refine HD3.out.mono ?_); rintro e w8 ⟨K8, A8, n8, c8, rfl, b8⟩; have B8 := Lib.hid (HD2.out.2.trans (lower' b8 HD2.out.2.size)); clear b8))
          go_ret
          exact ⟨rfl, B8.out.alloc B8.out.size _⟩
        · have hl2 : ¬ l2 = [] := fun e => hN (by rw [HI.out.2.2.2.2, e]; rfl)
          have hNI : ((N2 : Int) == 0) = false := beq_eq_false_iff_ne.2 (by omega)
          have hD3 := HD2.out.1
          rw [if_neg hl2] at hD3
          obtain ⟨G, hG⟩ : ∃ G : Int, G = if 4000 < L + N2 then 3 else 6 := ⟨_, rfl⟩
          have hG2 : (G == 0) = false := beq_eq_false_iff_ne.2 (by rw [hG]; split <;> decide)
          rw [← hG] at hD3
          have HD3 := Lib.hid hD3
          clear hD3 hG
          go_wp2_with (first
            | (at_builtin; refine wpL_appK _ rfl (.tmp 51) (.tmp 52) 32 rfl rfl _ _ _ _ rfl rfl hrun1 ?_)
            | (at_builtin; refine wpL_appK _ rfl (.tmp 53) (.tmp 54) 32 rfl rfl _ _ _ _ rfl rfl hrun2 ?_)
            | (go_at_call 14; (with_reducible refine HD3.out.mono ?_); rintro e w8 ⟨K8, A8, n8, c8, rfl, b8⟩; have B8 := Lib.hid (HD2.out.2.trans (lower' b8 HD2.out.2.size)); clear b8))
          go_ret
          exact ⟨rfl, B8.out.alloc B8.out.size _⟩
      · have hcb : (∃ C : Int, encCode l0 = C ∧ (C == 0) = false) ∧ encByt l0 = [] := by
          unfold encCode encByt
          by_cases hgf : goodC l0 = false
          · rw [if_pos hgf, if_pos hgf]
            exact ⟨⟨1, rfl, by decide⟩, rfl⟩
          · have h4 : 4000 < (wcB l0).length := by
              refine Nat.lt_of_not_le fun h => hg ⟨?_, h⟩
              cases hx : goodC l0 with
              | true => rfl
              | false => exact absurd hx hgf
            rw [if_neg hgf, if_neg hgf, if_pos h4, if_pos h4]
            exact ⟨⟨3, rfl, by decide⟩, rfl⟩
        obtain ⟨⟨C, hC, hC0⟩, hb⟩ := hcb
        have hE := HE.out
        rw [hC, hb] at hE
        replace HE := Lib.hid hE
        clear hE hC hb hg
        go_enter Tryz.func5, Tryz.ntmps5
        go_wp2_with (first | (go_at_call 7; (with_reducible refine (HAW.out _ (Below.refl _ _)).mono ?_); rintro e w1 ⟨rfl, b1⟩; have B1 := Lib.hid b1; clear b1) | (go_at_call 10; (with_reducible refine (HE.out _ B1.out).mono ?_); rintro e w2 ⟨A3, c3, rfl, -, -, -, b3⟩; have B3 := Lib.hid b3; clear b3))
        go_ret
        exact ⟨rfl, B3.out⟩
end Go.Proofs.YtgjjdmkoamjdpaaGreatDoor
