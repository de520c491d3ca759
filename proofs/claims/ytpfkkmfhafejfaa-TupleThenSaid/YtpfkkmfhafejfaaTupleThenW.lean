/- The law TupleThen, walked. -/
import Derived.Test.YtpfkkmfhafejfaaTupU
namespace Go.Proofs.Ytpfkkmfhafejfaa
open Go.RowKit Go.Maps

set_option maxRecDepth 100000 in
set_option maxHeartbeats 4000000 in
theorem tupleThen_walk (a1 a2 b1 b2 : LV) (W : World) (h1 : a1.Raw W) (h2 : a2.Raw W) (h3 : b1.Raw W) (h4 : b2.Raw W) :
    Calls Try.prog 7 #[.agg #[.slice a1.A a1.ts.length a1.c, .slice a2.A a2.ts.length a2.c], .agg #[.slice b1.A b1.ts.length b1.c, .slice b2.A b2.ts.length b2.c]] W fun e w' => e = .returned (.bool true) ∧ Below W.heap.size W w' := by
  have hbb := ((Below.refl W.heap.size W).alloc (Nat.le_refl _) (.cells #[.slice a1.A a1.ts.length a1.c, .slice a2.A a2.ts.length a2.c] 35)).alloc (by simp) (.cells #[.slice b1.A b1.ts.length b1.c, .slice b2.A b2.ts.length b2.c] 35)
  have hx := two_new W (.cells #[.slice a1.A a1.ts.length a1.c, .slice a2.A a2.ts.length a2.c] 35) (.cells #[.slice b1.A b1.ts.length b1.c, .slice b2.A b2.ts.length b2.c] 35)
  have HG : Hid (BoxD _ W.heap.size a1 a2 ∧ BoxD _ (W.heap.size + 1) b1 b2 ∧ Below W.heap.size W _) := Lib.hid (And.intro hx.1 (And.intro hx.2 hbb))
  have HAW := Lib.hid awake10_any
  have HFW := Lib.hid fun w (h : Below W.heap.size W w) => few_four a1 a2 b1 b2 w (h1.below h) (h2.below h) (h3.below h) (h4.below h)
  have HR := Lib.hid (And.intro h1 (And.intro h2 (And.intro h3 h4)))
  clear h1 h2 h3 h4 hbb hx
  cases hf : fewB [a1, a2, b1, b2] with
  | false =>
    rw [hf] at HFW
    clear hf HR
    go_enter Try.func7, Try.ntmps7
    go_upto_region 1 with (fail)
    generalize (W.alloc (.cells #[.slice a1.A a1.ts.length a1.c, .slice a2.A a2.ts.length a2.c] 35)).alloc (.cells #[.slice b1.A b1.ts.length b1.c, .slice b2.A b2.ts.length b2.c] 35) = W0 at HG ⊢
    go_upto_region 2 with (first
      | (go_at_call 9; (with_reducible refine (HAW.out _).mono ?_); rintro e w1 ⟨rfl, hb1⟩; have B1 := Lib.hid (HG.out.2.2.trans (lower hb1 HG.out.2.2.size)); have G1 := Lib.hid (And.intro (HG.out.1.kept hb1) (HG.out.2.1.kept hb1)); obtain ⟨k0, k1⟩ := G1.out.1.cells; obtain ⟨k2, k3⟩ := G1.out.2.cells; have HF1 := Lib.hid (HFW.out w1 B1.out); clear hb1 HFW)
      | (go_at_call 10; (with_reducible refine HF1.out.mono ?_); rintro e w2 ⟨rfl, hb2⟩; have B2 := Lib.hid (B1.out.trans (lower hb2 B1.out.size)); clear hb2 HF1))
    go_wp2_with (go_at_call 9; (with_reducible refine (HAW.out _).mono ?_); rintro e w3 ⟨rfl, hb3⟩; have B3 := Lib.hid (B2.out.trans (lower hb3 B2.out.size)); clear hb3)
    go_ret
    exact ⟨rfl, B3.out⟩
  | true =>
    rw [hf] at HFW
    have HO := Lib.hid fun w (h : Below W.heap.size W w) => And.intro ((HR.out.1.below h).ok (fewB_mem hf (by simp))).1 (And.intro ((HR.out.2.1.below h).ok (fewB_mem hf (by simp))).1 (And.intro ((HR.out.2.2.1.below h).ok (fewB_mem hf (by simp))).1 ((HR.out.2.2.2.below h).ok (fewB_mem hf (by simp))).1))
    have hl1 := (HR.out.1.ok (fewB_mem hf (by simp))).2
    have hl2 := (HR.out.2.1.ok (fewB_mem hf (by simp))).2
    have hl3 := (HR.out.2.2.1.ok (fewB_mem hf (by simp))).2
    have hl4 := (HR.out.2.2.2.ok (fewB_mem hf (by simp))).2
    obtain ⟨p, hp⟩ : ∃ p, p = thenP (tus a1.ts) (tus a2.ts) (tus b1.ts) (tus b2.ts) := ⟨_, rfl⟩
    have HT := Lib.hid fun w (h : Below W.heap.size W w) => then_any a1 a2 b1 b2 w (HO.out w h).1 (HO.out w h).2.1 (HO.out w h).2.2.1 (HO.out w h).2.2.2 (by omega) (by omega)
    have HU := Lib.hid fun w (h : Below W.heap.size W w) => rthen_any a1 a2 b1 b2 w (HO.out w h).1 (HO.out w h).2.1 (HO.out w h).2.2.1 (HO.out w h).2.2.2 (by omega) (by omega)
    rw [← hp] at HT HU
    obtain ⟨pn, pP, pQ⟩ := p
    clear hf hl1 hl2 hl3 hl4 HR HO hp
    go_enter Try.func7, Try.ntmps7
    go_upto_region 1 with (fail)
    generalize (W.alloc (.cells #[.slice a1.A a1.ts.length a1.c, .slice a2.A a2.ts.length a2.c] 35)).alloc (.cells #[.slice b1.A b1.ts.length b1.c, .slice b2.A b2.ts.length b2.c] 35) = W0 at HG ⊢
    go_upto_region 4 with (first
      | (go_at_call 9; (with_reducible refine (HAW.out _).mono ?_); rintro e w1 ⟨rfl, hb1⟩; have B1 := Lib.hid (HG.out.2.2.trans (lower hb1 HG.out.2.2.size)); have G1 := Lib.hid (And.intro (HG.out.1.kept hb1) (HG.out.2.1.kept hb1)); obtain ⟨k0, k1⟩ := G1.out.1.cells; obtain ⟨k2, k3⟩ := G1.out.2.cells; have HF1 := Lib.hid (HFW.out w1 B1.out); clear hb1 HFW)
      | (go_at_call 10; (with_reducible refine HF1.out.mono ?_); rintro e w2 ⟨rfl, hb2⟩; have B2 := Lib.hid (B1.out.trans (lower hb2 B1.out.size)); have G2 := Lib.hid (And.intro (G1.out.1.kept hb2) (G1.out.2.kept hb2)); clear k0 k1 k2 k3; obtain ⟨k0, k1⟩ := G2.out.1.cells; obtain ⟨k2, k3⟩ := G2.out.2.cells; have HT2 := Lib.hid (HT.out w2 B2.out); clear hb2 HF1 HT)
      | (go_at_call 29; (with_reducible refine HT2.out.mono ?_); rintro e w3 ⟨x3, y3, m3, rfl, _, p2, _, _, _, p6, p7, p8, p9⟩; dsimp only at p7 p8 ⊢; have B3 := Lib.hid (B2.out.trans (lower p9 B2.out.size)); have G3 := Lib.hid (And.intro (G2.out.1.kept p9) (G2.out.2.kept p9)); have E3 := Lib.hid (And.intro p2 (And.intro p6 (And.intro p7 p8))); clear p2 p6 p7 p8 p9 HT2 k0 k1 k2 k3))
    have hb4 : Below w3.heap.size w3 (w3.alloc (.cells #[.slice x3.A x3.ts.length x3.c, .slice y3.A y3.ts.length y3.c] 35)) := (Below.refl _ _).alloc (Nat.le_refl _) _
    have hx4 := BoxD.new w3 x3 y3
    generalize w3.alloc (.cells #[.slice x3.A x3.ts.length x3.c, .slice y3.A y3.ts.length y3.c] 35) = w4 at hb4 hx4 ⊢
    have B4 := Lib.hid (B3.out.trans (lower hb4 B3.out.size))
    obtain ⟨k0, k1⟩ := (G3.out.1.kept hb4).cells
    obtain ⟨k2, k3⟩ := (G3.out.2.kept hb4).cells
    have E4 := Lib.hid (And.intro hx4 (And.intro (E3.out.1.below hb4) (And.intro (E3.out.2.1.below hb4) E3.out.2.2)))
    have HU4 := Lib.hid (HU.out w4 B4.out)
    clear hb4 hx4 HU G1 G2 G3 E3 B1 B2 B3
    go_upto_region 5 with (go_at_call 30; (with_reducible refine HU4.out.mono ?_); rintro e w5 ⟨x5, y5, rfl, p2, p6, p7, p8, p9⟩; dsimp only at p7 p8 ⊢; have B5 := Lib.hid (B4.out.trans (lower p9 B4.out.size)); have D5 := Lib.hid p9; have E5 := Lib.hid (And.intro p2 (And.intro p6 (And.intro p7 p8))); clear p2 p6 p7 p8 p9 HU4 k0 k1 k2 k3)
    have hb6 : Below w5.heap.size w5 (w5.alloc (.cells #[.slice x5.A x5.ts.length x5.c, .slice y5.A y5.ts.length y5.c] 35)) := (Below.refl _ _).alloc (Nat.le_refl _) _
    have hx6 := BoxD.new w5 x5 y5
    generalize w5.alloc (.cells #[.slice x5.A x5.ts.length x5.c, .slice y5.A y5.ts.length y5.c] 35) = w6 at hb6 hx6 ⊢
    have hb46 := D5.out.trans (lower hb6 D5.out.size)
    have B6 := Lib.hid (B4.out.trans (lower hb46 B4.out.size))
    have hsd := sameD_any x3 y3 x5 y5 w6 (E4.out.2.1.below hb46) (E4.out.2.2.1.below hb46) (E5.out.1.below hb6) (E5.out.2.1.below hb6)
    rw [E4.out.2.2.2.1, E4.out.2.2.2.2, E5.out.2.2.1, E5.out.2.2.2] at hsd
    have hd : decide (pP = pP ∧ pQ = pQ) = true := by simp
    rw [hd] at hsd
    have HSD := Lib.hid hsd
    obtain ⟨k0, k1⟩ := (E4.out.1.kept hb46).cells
    obtain ⟨k2, k3⟩ := hx6.cells
    clear hsd hd hb46 hb6 hx6 E4 E5 B4 B5 D5
    go_wp2_with (go_at_call 24; (with_reducible refine HSD.out.mono ?_); rintro e w7 ⟨rfl, hb7⟩; have B7 := Lib.hid (B6.out.trans (lower hb7 B6.out.size)); clear hb7)
    go_ret
    exact ⟨rfl, B7.out⟩
end Go.Proofs.Ytpfkkmfhafejfaa
