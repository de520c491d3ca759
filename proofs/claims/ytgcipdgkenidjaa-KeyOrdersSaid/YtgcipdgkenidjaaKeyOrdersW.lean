/- KeyOrders: the walk. -/
import Derived.Test.YtgcipdgkenidjaaProg
import Derived.Test.YtgcipdgkenidjaaKeyD
import Derived.Test.YtgcipdgkenidjaaKeyR
import Derived.WalkKit
import Derived.WalkSpells
import Derived.WalkLawsBesides
import Derived.Deep.QuietTactic
import Derived.Deep.RegionHeld3
import Derived.Deep.DeepCutAuto
import Derived.Deep.CutRange
import Derived.BigQuiet
import Derived.KernelRfl
import Derived.Lib.Hide
namespace Go.Proofs.Ytgcipdgkenidjaa
open Go.RowKit

theorem strOfO {w : World} {A : Option Addr} {n c B : Nat} {l : List UInt8} (hr : Rd w B A (u8s l)) (hn : n = l.length) :
    (convert 26 9 (.slice A n c)).run Try.prog w = .ok (.string ⟨l.toArray⟩) w :=
  run_strB (P := Try.prog) w 26 9 5 A n c B l Try.underlying26 Try.underlying5 Try.underlying9 hn hr

theorem pcs_take (ks : List KPart) : ∀ n, pcs (ks.take n) = (pcs ks).take (n * 3) := by
  induction ks with
  | nil => intro n; simp [pcs]
  | cons p ks ih =>
    intro n
    cases n with
    | zero => simp [pcs]
    | succ n =>
      have h : pcs (p :: ks) = p.cells.toList ++ pcs ks := rfl
      have h2 : pcs (p :: ks.take n) = p.cells.toList ++ pcs (ks.take n) := rfl
      have h3 : p.cells.toList.length = 3 := rfl
      have h4 : p.cells.toList.take ((n + 1) * 3) = p.cells.toList := List.take_of_length_le (by rw [h3]; omega)
      have h5 : (n + 1) * 3 - 3 = n * 3 := by omega
      rw [List.take_succ_cons, h2, h, ih n, List.take_append, h4, h3, h5]

theorem part_prefix (p q : KPart) (hp : p.fits) (hq : q.fits) (x y : List UInt8) (h : partB p ++ x <+: partB q ++ y) : partC p q = 0 ∧ partB p = partB q := by
  obtain ⟨w, hw⟩ := h
  have h1 : ¬ partC p q < 0 := by
    intro h0
    have := partB_less p q hp hq (x ++ w) y
    rw [← List.append_assoc, hw, bl_irr] at this
    simp [h0] at this
  have h2 : ¬ partC q p < 0 := by
    intro h0
    have := partB_less q p hq hp y (x ++ w)
    rw [← List.append_assoc, hw, bl_irr] at this
    simp [h0] at this
  have h3 := partC_swap p q
  have h0 : partC p q = 0 := by omega
  refine ⟨h0, ?_⟩
  have e1 := partB_less p q hp hq [] []
  have e2 := partB_less q p hq hp [] []
  rw [h3] at e2
  simp [h0, Op.bytesLess] at e1 e2
  exact bl_total _ _ e1 e2

theorem keyB_prefix : ∀ (a b : List KPart), (∀ p ∈ a, p.fits) → (∀ p ∈ b, p.fits) → (keyB a <+: keyB b ↔ a.length ≤ b.length ∧ keyC a (b.take a.length) = 0)
  | [], b, _, _ => by simp [keyB, keyC]
  | p :: a, [], _, _ => by
    constructor
    · intro h
      rw [keyB_cons] at h
      have h1 := List.IsPrefix.length_le h
      have hp := partB_ne p
      have h2 : 0 < (partB p).length := List.length_pos_iff.2 hp
      have h3 : (keyB []).length = 0 := rfl
      rw [List.length_append, h3] at h1
      omega
    · intro h
      simp at h
  | p :: a, q :: b, ha, hb => by
    have ih := keyB_prefix a b (fun r hr => ha r (List.mem_cons_of_mem _ hr)) (fun r hr => hb r (List.mem_cons_of_mem _ hr))
    have hp := ha p (List.mem_cons_self ..)
    have hq := hb q (List.mem_cons_self ..)
    rw [keyB_cons, keyB_cons]
    constructor
    · intro h
      obtain ⟨h0, he⟩ := part_prefix p q hp hq _ _ h
      rw [he, List.prefix_append_right_inj] at h
      obtain ⟨h1, h2⟩ := ih.1 h
      refine ⟨by simpa using h1, ?_⟩
      rw [List.length_cons, List.take_succ_cons, keyC, h0]
      simpa using h2
    · rintro ⟨h1, h2⟩
      rw [List.length_cons, List.take_succ_cons, keyC] at h2
      by_cases h0 : partC p q = 0
      · rw [h0] at h2
        have e1 := partB_less p q hp hq [] []
        have e2 := partB_less q p hq hp [] []
        rw [partC_swap p q] at e2
        simp [h0, Op.bytesLess] at e1 e2
        rw [bl_total _ _ e1 e2, List.prefix_append_right_inj]
        exact ih.2 ⟨by simpa using h1, by simpa using h2⟩
      · rw [if_pos h0] at h2
        exact absurd h2 h0
theorem takePre (l x : List UInt8) : decide (l <+: x) = (decide (l.length ≤ x.length) && (x.take l.length == l)) := by
  by_cases h : l <+: x
  · have h1 := h.length_le
    have h2 : x.take l.length = l := (List.prefix_iff_eq_take.1 h).symm
    simp [h, h1, h2]
  · have : ¬ (x.take l.length = l) := fun e => h (List.prefix_iff_eq_take.2 e.symm)
    simp [h, this]

set_option maxRecDepth 100000 in
set_option maxHeartbeats 1500000 in
theorem keyOrders_walk (A1 : Option Addr) (k1 : List KPart) (c1 : Nat) (A2 : Option Addr) (k2 : List KPart) (c2 : Nat) (w : World)
    (hr1 : Rd w w.heap.size A1 (pcs k1)) (hf1 : ∀ q ∈ k1, q.fits) (hc1 : k1.length ≤ c1) (hm1 : c1 ≤ 4398046511104)
    (hr2 : Rd w w.heap.size A2 (pcs k2)) (hf2 : ∀ q ∈ k2, q.fits) (hc2 : k2.length ≤ c2) (hm2 : c2 ≤ 4398046511104) :
    Calls Try.prog 5 #[.slice A1 k1.length c1, .slice A2 k2.length c2] w fun e w' => e = .returned (.bool true) ∧ Below w.heap.size w w' := by
  have g1 : ∀ W, Below w.heap.size w W → Rd W w.heap.size A1 (pcs k1) := fun W h => hr1.below h (Nat.le_refl _)
  have g2 : ∀ W, Below w.heap.size w W → Rd W w.heap.size A2 (pcs k2) := fun W h => hr2.below h (Nat.le_refl _)
  have hw1 : ∀ W, Below w.heap.size w W → Calls Try.prog 11 #[.slice A1 k1.length c1] W fun e w' => e = .returned (.bool (fewB k1)) ∧ W = w' := fun W h => few_any A1 k1 _ c1 w.heap.size W rfl (g1 W h) h.size (by omega) hf1
  have hw2 : ∀ W, Below w.heap.size w W → Calls Try.prog 11 #[.slice A2 k2.length c2] W fun e w' => e = .returned (.bool (fewB k2)) ∧ W = w' := fun W h => few_any A2 k2 _ c2 w.heap.size W rfl (g2 W h) h.size (by omega) hf2
  have ho1 : ∀ W, Below w.heap.size w W → Calls Try.prog 12 #[.slice A1 k1.length c1] W fun e w' => ∃ v, e = .returned v ∧ OwnP w' W.heap.size 38 v k1 ∧ Below W.heap.size W w' := fun W h => own_any A1 k1 _ c1 w.heap.size W rfl (g1 W h) h.size (by omega)
  have ho2 : ∀ W, Below w.heap.size w W → Calls Try.prog 12 #[.slice A2 k2.length c2] W fun e w' => ∃ v, e = .returned v ∧ OwnP w' W.heap.size 38 v k2 ∧ Below W.heap.size W w' := fun W h => own_any A2 k2 _ c2 w.heap.size W rfl (g2 W h) h.size (by omega)
  have hq1 : ∀ W, Below w.heap.size w W → Calls Try.prog 15 #[.slice A1 k1.length c1] W fun e w' => ∃ v, e = .returned v ∧ OwnP w' W.heap.size 57 v (k1.map norm) ∧ Below W.heap.size W w' := fun W h => ref_any A1 k1 _ c1 w.heap.size W rfl (g1 W h) h.size (by omega)
  have hq2 : ∀ W, Below w.heap.size w W → Calls Try.prog 15 #[.slice A2 k2.length c2] W fun e w' => ∃ v, e = .returned v ∧ OwnP w' W.heap.size 57 v (k2.map norm) ∧ Below W.heap.size W w' := fun W h => ref_any A2 k2 _ c2 w.heap.size W rfl (g2 W h) h.size (by omega)
  have hx : ∀ W A3 A4 c3 c4, Rd W W.heap.size A3 (pcs k1) → Rd W W.heap.size A4 (pcs k2) → Calls Try.prog 20 #[.slice A3 k1.length c3, .slice A4 k2.length c4] W fun e w' => e = .returned (.int .i64 (keyC k1 k2)) ∧ Below W.heap.size W w' := fun W A3 A4 c3 c4 h3 h4 => cmp_any A3 A4 k1 k2 _ _ c3 c4 W.heap.size W rfl rfl h3 h4 (Nat.le_refl _) (by omega) (by omega)
  have hx' : ∀ W, Below w.heap.size w W → Calls Try.prog 20 #[.slice A2 k2.length c2, .slice A1 k1.length c1] W fun e w' => e = .returned (.int .i64 (- keyC k1 k2)) ∧ Below W.heap.size W w' := fun W h => by
    have := cmp_any A2 A1 k2 k1 _ _ c2 c1 w.heap.size W rfl rfl (g2 W h) (g1 W h) h.size (by omega) (by omega)
    rwa [keyC_swap] at this
  have hxr : ∀ W A3 A4 c3 c4, Rd W W.heap.size A3 (pcs (k1.map norm)) → Rd W W.heap.size A4 (pcs (k2.map norm)) → Calls Try.prog 21 #[.slice A3 k1.length c3, .slice A4 k2.length c4] W fun e w' => e = .returned (.int .i64 (keyC k1 k2)) ∧ Below W.heap.size W w' := fun W A3 A4 c3 c4 h3 h4 => by
    have := refCmp_any A3 A4 (k1.map norm) (k2.map norm) k1.length k2.length c3 c4 W.heap.size W (List.length_map _).symm (List.length_map _).symm h3 h4 (Nat.le_refl _) (by rw [List.length_map]; omega) (by rw [List.length_map]; omega)
    rwa [keyC_norm] at this
  have he1 : ∀ W, Below w.heap.size w W → Calls Try.prog 13 #[.slice A1 k1.length c1] W fun e w' => ∃ v', e = .returned (.tuple #[v', .int .i64 (encE k1)]) ∧ OwnB w' W.heap.size 5 v' (encB k1) ∧ Below W.heap.size W w' := fun W h => encode_any A1 k1 _ c1 w.heap.size W rfl (g1 W h) h.size hc1 (by omega) hf1
  have he2 : ∀ W, Below w.heap.size w W → Calls Try.prog 13 #[.slice A2 k2.length c2] W fun e w' => ∃ v', e = .returned (.tuple #[v', .int .i64 (encE k2)]) ∧ OwnB w' W.heap.size 5 v' (encB k2) ∧ Below W.heap.size W w' := fun W h => encode_any A2 k2 _ c2 w.heap.size W rfl (g2 W h) h.size hc2 (by omega) hf2
  have hq3 : k1.length ≤ k2.length → ∀ W, Below w.heap.size w W → Calls Try.prog 15 #[.slice A2 k1.length c2] W fun e w' => ∃ v, e = .returned v ∧ OwnP w' W.heap.size 57 v ((k2.take k1.length).map norm) ∧ Below W.heap.size W w' := fun hle W h =>
    ref_any A2 (k2.take k1.length) k1.length c2 w.heap.size W (by rw [List.length_take]; omega) (by rw [pcs_take]; exact (g2 W h).take _) h.size (by rw [List.length_take]; omega)
  have hsm : k1.length ≤ k2.length → ∀ W A3 A4 c3 c4, Rd W W.heap.size A3 (pcs (k1.map norm)) → Rd W W.heap.size A4 (pcs ((k2.take k1.length).map norm)) → Calls Try.prog 18 #[.slice A3 k1.length c3, .slice A4 (min k1.length k2.length) c4] W fun e w' => e = .returned (.bool (decide (keyC k1 (k2.take k1.length) = 0))) ∧ Below W.heap.size W w' := fun hle W A3 A4 c3 c4 h3 h4 => by
    have hl : ((k2.take k1.length).map norm).length = k1.length := by rw [List.length_map, List.length_take]; omega
    have := refSame_any A3 A4 (k1.map norm) ((k2.take k1.length).map norm) k1.length (min k1.length k2.length) c3 c4 W.heap.size W (List.length_map _).symm (by rw [hl]; omega) h3 h4 (Nat.le_refl _) (by rw [List.length_map]; omega) (by rw [hl]; omega)
    rwa [keyC_norm, decide_eq_true ((List.length_map _).trans hl.symm), Bool.true_and] at this
  have L1 := keyB_less k1 k2 hf1 hf2
  have L2 := keyB_eq k1 k2 hf1 hf2
  have L3 := keyB_prefix k1 k2 hf1 hf2
  have LZ1 := keyB_length k1
  have LZ2 := keyB_length k2
  have hxr0 := keyC_range k1 k2
  obtain ⟨b1, hb1⟩ : ∃ b, b = fewB k1 := ⟨_, rfl⟩
  obtain ⟨b2, hb2⟩ : ∃ b, b = fewB k2 := ⟨_, rfl⟩
  obtain ⟨x, hxx⟩ : ∃ x, x = keyC k1 k2 := ⟨_, rfl⟩
  rw [← hb1] at hw1
  rw [← hb2] at hw2
  rw [← hxx] at hx hx' hxr hxr0 L1 L2
  have HL1 := Lib.hid L1
  have HL2 := Lib.hid L2
  have HL3 := Lib.hid L3
  have HZ1 := Lib.hid LZ1
  have HZ2 := Lib.hid LZ2
  have HQ3 := Lib.hid hq3
  have HSM := Lib.hid hsm
  clear L1 L2 L3 LZ1 LZ2 hq3 hsm
  have hx0 : -1 ≤ x ∧ x ≤ 1 := by omega
  have HXX := Lib.hid hxx
  have H1 := Lib.hid hw1
  have H2 := Lib.hid hw2
  have HO1 := Lib.hid ho1
  have HO2 := Lib.hid ho2
  have HQ1 := Lib.hid hq1
  have HQ2 := Lib.hid hq2
  have HX := Lib.hid hx
  have HX' := Lib.hid hx'
  have HXR := Lib.hid hxr
  have HE1 := Lib.hid he1
  have HE2 := Lib.hid he2
  have HF1 := Lib.hid hf1
  have HF2 := Lib.hid hf2
  have HG1 := Lib.hid g1
  have HG2 := Lib.hid g2
  clear hw1 hw2 ho1 ho2 hq1 hq2 hx hx' hxr he1 he2 hb1 hb2 hxx hxr0 hf1 hf2 g1 g2 hr1 hr2
  rcases b1 with _ | _
  · go_enter Try.func5, Try.ntmps5
    go_wp2_with fail
    refine (awake_any _).mono ?_
    rintro e w1 ⟨rfl, hb1⟩
    go_wp2_with (go_at_call 11; (with_reducible refine (H1.out _ hb1).mono ?_); rintro e w' ⟨rfl, rfl⟩)
    refine (awake_any _).mono ?_
    rintro e w2 ⟨rfl, hb2⟩
    go_wp2
    go_ret
    exact ⟨rfl, hb1.trans (hb2.mono hb1.size)⟩
  · rcases b2 with _ | _
    · go_enter Try.func5, Try.ntmps5
      go_wp2_with fail
      refine (awake_any _).mono ?_
      rintro e w1 ⟨rfl, hb1⟩
      go_wp2_with (go_at_call 11; first | ((with_reducible refine (H1.out _ hb1).mono ?_); rintro e w' ⟨rfl, rfl⟩) | ((with_reducible refine (H2.out _ hb1).mono ?_); rintro e w' ⟨rfl, rfl⟩))
      refine (awake_any _).mono ?_
      rintro e w2 ⟨rfl, hb2⟩
      go_wp2
      go_ret
      exact ⟨rfl, hb1.trans (hb2.mono hb1.size)⟩
    · go_enter Try.func5, Try.ntmps5
      go_wp2_with fail
      refine (awake_any _).mono ?_
      rintro e w1 ⟨rfl, hb1⟩
      go_wp2_with (go_at_call 11; first | ((with_reducible refine (H1.out _ hb1).mono ?_); rintro e w' ⟨rfl, rfl⟩) | ((with_reducible refine (H2.out _ hb1).mono ?_); rintro e w' ⟨rfl, rfl⟩))
      refine (HO1.out _ hb1).mono ?_
      rintro e w2 ⟨v2, rfl, hown2, hb2⟩
      have hB2 := hb1.trans (hb2.mono hb1.size)
      obtain ⟨A3, c3, rfl, -, -, hr3⟩ := hown2.shape
      go_wp2_with fail
      refine (HO2.out _ hB2).mono ?_
      rintro e w3 ⟨v3, rfl, hown3, hb3⟩
      have hB3 := hB2.trans (hb3.mono hB2.size)
      obtain ⟨A4, c4, rfl, -, -, hr4⟩ := hown3.shape
      go_wp2_with fail
      refine (HX.out w3 A3 A4 c3 c4 ((hr3.below hb3 (Nat.le_refl _)).more hb3.size) hr4).mono ?_
      rintro e w4 ⟨rfl, hb4⟩
      have hB4 := hB3.trans (hb4.mono hB3.size)
      clear hb1 hb2 hb3 hb4 hown2 hown3 hr3 hr4 hB2 hB3
      go_wp2_with fail
      refine (HQ1.out _ hB4).mono ?_
      rintro e w5 ⟨v5, rfl, hown5, hb5⟩
      have hB5 := hB4.trans (hb5.mono hB4.size)
      obtain ⟨A5, c5, rfl, -, -, hr5⟩ := hown5.shape
      go_wp2_with fail
      refine (HQ2.out _ hB5).mono ?_
      rintro e w6 ⟨v6, rfl, hown6, hb6⟩
      have hB6 := hB5.trans (hb6.mono hB5.size)
      obtain ⟨A6, c6, rfl, -, -, hr6⟩ := hown6.shape
      go_wp2_with fail
      refine (HXR.out w6 A5 A6 c5 c6 ((hr5.below hb6 (Nat.le_refl _)).more hb6.size) hr6).mono ?_
      rintro e w7 ⟨rfl, hb7⟩
      have hB7 := hB6.trans (hb7.mono hB6.size)
      clear hb5 hb6 hb7 hown5 hown6 hr5 hr6 hB4 hB5 hB6
      go_wp2_with fail
      refine (HX'.out _ hB7).mono ?_
      rintro e w8 ⟨rfl, hb8⟩
      have hB8 := hB7.trans (hb8.mono hB7.size)
      clear hb8 hB7
      go_wp2_with fail
      have a1 := HE1.out _ hB8
      rcases Nat.lt_or_ge 200 (keySz k1) with hz1 | hz1
      · have ee : encE k1 = 3 := if_neg (by omega)
        rw [ee] at a1
        have HA := Lib.hid a1
        clear a1 ee hz1
        refine HA.out.mono ?_
        rintro e w9 ⟨v9, rfl, hown9, hb9⟩
        have hB9 := hB8.trans (hb9.mono hB8.size)
        go_wp2_with fail
        refine (HE2.out _ hB9).mono ?_
        rintro e w10 ⟨v10, rfl, hown10, hb10⟩
        have hB10 := hB9.trans (hb10.mono hB9.size)
        clear hown9 hown10
        go_wp2
        go_ret
        exact ⟨rfl, hB10⟩
      · have ee : encE k1 = 0 := if_pos hz1
        have eb : encB k1 = keyB k1 := if_pos hz1
        rw [ee, eb] at a1
        obtain ⟨X, hX⟩ : ∃ X, X = keyB k1 := ⟨_, rfl⟩
        rw [← hX] at a1
        have hXl : X.length ≤ 200 := by rw [hX, HZ1.out]; exact hz1
        have HXD := Lib.hid hX
        have HA := Lib.hid a1
        clear a1 ee eb hz1 hX
        refine HA.out.mono ?_
        rintro e w9 ⟨v9, rfl, hown9, hb9⟩
        have hB9 := hB8.trans (hb9.mono hB8.size)
        obtain ⟨A9, c9, rfl, hc9, hm9, hr9, -⟩ := hown9.shape
        clear hown9
        have a2 := HE2.out _ hB9
        rcases Nat.lt_or_ge 200 (keySz k2) with hz2 | hz2
        · have ee : encE k2 = 3 := if_neg (by omega)
          rw [ee] at a2
          have HA2 := Lib.hid a2
          clear a2 ee hz2
          go_wp2_with fail
          refine HA2.out.mono ?_
          rintro e w10 ⟨v10, rfl, hown10, hb10⟩
          have hB10 := hB9.trans (hb10.mono hB9.size)
          clear hown10
          go_wp2
          go_ret
          exact ⟨rfl, hB10⟩
        · have ee : encE k2 = 0 := if_pos hz2
          have eb : encB k2 = keyB k2 := if_pos hz2
          rw [ee, eb] at a2
          obtain ⟨Y, hY⟩ : ∃ Y, Y = keyB k2 := ⟨_, rfl⟩
          rw [← hY] at a2
          have hYl : Y.length ≤ 200 := by rw [hY, HZ2.out]; exact hz2
          have HYD := Lib.hid hY
          have HA2 := Lib.hid a2
          clear a2 ee eb hz2 hY
          go_wp2_with fail
          refine HA2.out.mono ?_
          rintro e w10 ⟨v10, rfl, hown10, hb10⟩
          have hB10 := hB9.trans (hb10.mono hB9.size)
          obtain ⟨A10, c10, rfl, hc10, hm10, hr10, -⟩ := hown10.shape
          have hr9' := (hr9.below hb10 (Nat.le_refl _)).more hb10.size
          clear hown10 hr9 hb10 hB9 hB8 hb9
          have M1 : Op.bytesLess X Y = decide (x < 0) := by rw [HXD.out, HYD.out]; exact HL1.out
          have M2 : (X == Y) = (x == 0) := by rw [HXD.out, HYD.out, HL2.out, Bool.eq_iff_iff]; simp
          have M3 : (decide (X.length ≤ Y.length) && (Y.take X.length == X)) = (decide (k1.length ≤ k2.length) && decide (keyC k1 (k2.take k1.length) = 0)) := by
            rw [← takePre, HXD.out, HYD.out, ← Bool.decide_and]; exact decide_eq_decide.2 HL3.out
          have HM3 := Lib.hid M3
          clear M3
          have hS10 := hB10.size
          unfold maxLen at hm10
          have q1 := fun n => strOfO (n := X.length) (c := c9) (hr9'.drewN n) rfl
          have q2 := fun n => strOfO (n := Y.length) (c := c10) (hr10.drewN n) rfl
          have q1' := strOfO (n := X.length) (c := c9) hr9' rfl
          have q2' := strOfO (n := Y.length) (c := c10) hr10 rfl
          go_upto_region 12 with fail
          go_cut [10] (fun s10 wx => s10 = .bool (decide (X.length ≤ Y.length) && (Y.take X.length == X)) ∧ Below w.heap.size w wx)
          case first =>
            by_cases hlen : (X.length : Int) ≤ (Y.length : Int)
            · have q3 : ∀ n, (convert 26 9 (.slice A10 X.length c10)).run Try.prog (w10.drewN n) = .ok (.string ⟨(Y.take X.length).toArray⟩) (w10.drewN n) := fun n =>
                strOfO (n := X.length) (c := c10) (B := w10.heap.size) (l := Y.take X.length) (by rw [u8s_take]; exact (hr10.drewN n).take _) (by rw [List.length_take]; omega)
              have hd : decide ((X.length : Int) ≤ (Y.length : Int)) = true := by simpa using hlen
              have hlc : (X.length : Int) ≤ (c10 : Int) := by omega
              have hn : Hid (X.length ≤ Y.length) := by show X.length ≤ Y.length; omega
              go_quiet (fail)
              go_wp2_with fail
              go_meet
              exact ⟨by rw [decide_eq_true hn.out, Bool.true_and], below_draws hB10 _⟩
            · have hlen' : decide (X.length ≤ Y.length) = false := by simp; omega
              clear hlen
              go_quiet (fail)
              go_wp2_with fail
              go_meet
              exact ⟨by rw [hlen', Bool.false_and], below_draws hB10 _⟩
          case rest =>
            clear q1 q2 q1' q2' hr9' hr10 M1 M2 hB10 hS10
            obtain ⟨rfl, hBc⟩ := hcut
            rw [HM3.out]
            obtain ⟨pz, hpz⟩ : ∃ pz, pz = decide (keyC k1 (k2.take k1.length) = 0) := ⟨_, rfl⟩
            rw [← hpz]
            by_cases hlen : (k1.length : Int) ≤ (k2.length : Int)
            · have hn : k1.length ≤ k2.length := by omega
              have hs3 := HSM.out hn
              rw [← hpz] at hs3
              have HS3 := Lib.hid hs3
              have HR3 := Lib.hid (HQ3.out hn)
              rw [decide_eq_true hn, Bool.true_and]
              have HN := Lib.hid hn
              have hd : decide ((k1.length : Int) ≤ (k2.length : Int)) = true := by simpa using hlen
              have hmin : min (k1.length : Int) (k2.length : Int) = (k1.length : Int) := by omega
              have hlc : (k1.length : Int) ≤ (c2 : Int) := by omega
              clear hn hs3 hpz
              go_wp2_with fail
              go_region_held (fun w' => Below wc.heap.size wc w')
                (first
                  | exact (Below.refl _ _).drew
                  | exact hB13
                  | exact hB12
                  | exact hB11)
                (first
                  | (go_at_call 15; have hBo : Below wc.heap.size wc _ := (by assumption); (with_reducible refine (HQ1.out _ (hBc.trans (hBo.mono hBc.size))).mono ?_); rintro e wk ⟨v11, rfl, hown11, hbk⟩; have hB11 := hBo.trans (hbk.mono hBo.size); obtain ⟨A11, c11, rfl, -, -, hr11⟩ := hown11.shape; (try (have hr12 := (hr12.below hbk (Nat.le_refl _)).more hbk.size)))
                  | (go_at_call 15; have hBo : Below wc.heap.size wc _ := (by assumption); (with_reducible refine (HR3.out _ (hBc.trans (hBo.mono hBc.size))).mono ?_); rintro e wk ⟨v12, rfl, hown12, hbk⟩; have hB12 := hBo.trans (hbk.mono hBo.size); obtain ⟨A12, c12, rfl, -, -, hr12⟩ := hown12.shape; (try (have hr11 := (hr11.below hbk (Nat.le_refl _)).more hbk.size)))
                  | (go_at_call 18; have hBo : Below wc.heap.size wc _ := (by assumption); (with_reducible refine (HS3.out _ A11 A12 c11 c12 hr11 hr12).mono ?_); rintro e wk ⟨rfl, hbk⟩; have hB13 := hBo.trans (hbk.mono hBo.size)))
              all_goals go_wp2
              all_goals go_ret
              all_goals exact ⟨rfl, hBc.trans (hB13.mono hBc.size)⟩
            · have hn : ¬ k1.length ≤ k2.length := by omega
              have hlen' : decide (k1.length ≤ k2.length) = false := decide_eq_false hn
              rw [hlen', Bool.false_and]
              clear hlen hn hpz
              go_wp2_with fail
              go_quiet (fail)
              go_wp2
              go_ret
              exact ⟨rfl, below_draws hBc _⟩
end Go.Proofs.Ytgcipdgkenidjaa
