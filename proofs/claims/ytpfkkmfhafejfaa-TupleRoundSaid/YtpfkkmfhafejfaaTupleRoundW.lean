/- The law TupleRound, walked. -/
import Derived.Test.YtpfkkmfhafejfaaTupAB
namespace Go.Proofs.Ytpfkkmfhafejfaa
open Go.RowKit Go.Maps

/-- A delta in a box. -/
def DB (w : World) (b : Nat) (x y : LV) : Prop := BoxD w b x y ∧ x.Ok w ∧ y.Ok w
theorem DB.kept {w w' : World} {b : Nat} {x y : LV} (h : DB w b x y) (hb : Below w.heap.size w w') : DB w' b x y := ⟨h.1.kept hb, h.2.1.below hb, h.2.2.below hb⟩
theorem DB.new {w : World} {x y : LV} (hx : x.Ok w) (hy : y.Ok w) : DB (w.alloc (.cells #[.slice x.A x.ts.length x.c, .slice y.A y.ts.length y.c] 35)) w.heap.size x y ∧ Below w.heap.size w (w.alloc (.cells #[.slice x.A x.ts.length x.c, .slice y.A y.ts.length y.c] 35)) := by
  have hb : Below w.heap.size w (w.alloc (.cells #[.slice x.A x.ts.length x.c, .slice y.A y.ts.length y.c] 35)) := (Below.refl _ _).alloc (Nat.le_refl _) _
  exact ⟨⟨BoxD.new w x y, hx.below hb, hy.below hb⟩, hb⟩
/-- Three lists. -/
def L3 (w : World) (x y z : LV) : Prop := x.Ok w ∧ y.Ok w ∧ z.Ok w
theorem L3.kept {w w' : World} {x y z : LV} (h : L3 w x y z) (hb : Below w.heap.size w w') : L3 w' x y z := ⟨h.1.below hb, h.2.1.below hb, h.2.2.below hb⟩
set_option maxRecDepth 100000 in
set_option maxHeartbeats 4000000 in
theorem tupleRound_walk (a b c : LV) (W : World) (ha : a.Raw W) (hb : b.Raw W) (hc : c.Raw W) :
    Calls Try.prog 8 #[.slice a.A a.ts.length a.c, .slice b.A b.ts.length b.c, .slice c.A c.ts.length c.c] W fun e w' => e = .returned (.bool true) ∧ Below W.heap.size W w' := by
  have HAW := Lib.hid awake10_any
  have HFW := Lib.hid fun w (h : Below W.heap.size W w) => few_thr a b c w (ha.below h) (hb.below h) (hc.below h)
  have HR := Lib.hid (And.intro ha (And.intro hb hc))
  clear ha hb hc
  cases hf : fewB [a, b, c] with
  | false =>
    rw [hf] at HFW
    clear hf HR
    go_enter Try.func8, Try.ntmps8
    go_upto_region 2 with (first
      | (go_at_call 9; (with_reducible refine (HAW.out _).mono ?_); rintro e w1 ⟨rfl, hb1⟩; have B1 := Lib.hid hb1; have HF1 := Lib.hid (HFW.out w1 hb1); clear hb1 HFW)
      | (go_at_call 10; (with_reducible refine HF1.out.mono ?_); rintro e w2 ⟨rfl, hb2⟩; have B2 := Lib.hid (B1.out.trans (lower hb2 B1.out.size)); clear hb2 HF1))
    go_wp2_with (go_at_call 9; (with_reducible refine (HAW.out _).mono ?_); rintro e w3 ⟨rfl, hb3⟩; have B3 := Lib.hid (B2.out.trans (lower hb3 B2.out.size)); clear hb3)
    go_ret
    exact ⟨rfl, B3.out⟩
  | true =>
    rw [hf] at HFW
    have hla := HR.out.1.ok (fewB_mem hf (by simp))
    have hlb := HR.out.2.1.ok (fewB_mem hf (by simp))
    have hlc := HR.out.2.2.ok (fewB_mem hf (by simp))
    have HO := Lib.hid fun w (h : Below W.heap.size W w) => (show L3 w a b c from ⟨hla.1.below h, hlb.1.below h, hlc.1.below h⟩)
    obtain ⟨X, hX⟩ : ∃ X, X = setL (tus a.ts) := ⟨_, rfl⟩
    obtain ⟨Y, hY⟩ : ∃ Y, Y = setL (tus b.ts) := ⟨_, rfl⟩
    obtain ⟨Z, hZ⟩ : ∃ Z, Z = setL (tus c.ts) := ⟨_, rfl⟩
    have RX : Ris X ∧ X.length ≤ 40 := by rw [hX]; exact ⟨ris_set _, Nat.le_trans (setL_len _) (by rw [tus_len]; exact hla.2)⟩
    have RY : Ris Y ∧ Y.length ≤ 40 := by rw [hY]; exact ⟨ris_set _, Nat.le_trans (setL_len _) (by rw [tus_len]; exact hlb.2)⟩
    have RZ : Ris Z ∧ Z.length ≤ 40 := by rw [hZ]; exact ⟨ris_set _, Nat.le_trans (setL_len _) (by rw [tus_len]; exact hlc.2)⟩
    have HX := Lib.hid RX
    have HY := Lib.hid RY
    have HZ := Lib.hid RZ
    have HSA : Hid (∀ w, Below W.heap.size W w → Calls Try.prog 12 #[.slice a.A a.ts.length a.c] w (CoL w X)) := Lib.hid fun w h => by rw [hX]; exact set_l a w (HO.out w h).1
    have HSB : Hid (∀ w, Below W.heap.size W w → Calls Try.prog 12 #[.slice b.A b.ts.length b.c] w (CoL w Y)) := Lib.hid fun w h => by rw [hY]; exact set_l b w (HO.out w h).2.1
    have HSC : Hid (∀ w, Below W.heap.size W w → Calls Try.prog 12 #[.slice c.A c.ts.length c.c] w (CoL w Z)) := Lib.hid fun w h => by rw [hZ]; exact set_l c w (HO.out w h).2.2
    clear hf hla hlb hlc RX RY RZ hX hY hZ HR HO
    go_enter Try.func8, Try.ntmps8
    go_upto_region 5 with (first
      | (go_at_call 9; (with_reducible refine (HAW.out _).mono ?_); rintro e w1 ⟨rfl, hb1⟩; have B1 := Lib.hid hb1; have HF1 := Lib.hid (HFW.out w1 B1.out); clear hb1 HFW)
      | (go_at_call 10; (with_reducible refine HF1.out.mono ?_); rintro e w2 ⟨rfl, hb2⟩; have B2 := Lib.hid (B1.out.trans (lower hb2 B1.out.size)); have HS2 := Lib.hid (HSA.out w2 B2.out); clear hb2 HF1 HSA)
      | (go_at_call 12; (with_reducible refine HS2.out.mono ?_); rintro e w3 ⟨x3, rfl, _, o3, e3, b3⟩; have B3 := Lib.hid (B2.out.trans (lower b3 B2.out.size)); have E3 := Lib.hid o3; have X3 := Lib.hid e3; have HS3 := Lib.hid (HSB.out w3 B3.out); clear o3 e3 b3 HS2 HSB)
      | (go_at_call 12; (with_reducible refine HS3.out.mono ?_); rintro e w4 ⟨x4, rfl, _, o4, e4, b4⟩; have B4 := Lib.hid (B3.out.trans (lower b4 B3.out.size)); have E4 := Lib.hid (And.intro (E3.out.below b4) o4); have X4 := Lib.hid e4; have HS4 := Lib.hid (HSC.out w4 B4.out); clear o4 e4 b4 HS3 HSC E3)
      | (go_at_call 12; (with_reducible refine HS4.out.mono ?_); rintro e w5 ⟨x5, rfl, _, o5, e5, b5⟩; have B5 := Lib.hid (B4.out.trans (lower b5 B4.out.size)); have E5 : Hid (L3 w5 x3 x4 x5) := Lib.hid ⟨E4.out.1.below b5, E4.out.2.below b5, o5⟩; have X5 := Lib.hid e5; have HD5 := Lib.hid (diff2 x3 x4 w5 X Y E5.out.1 E5.out.2.1 X3.out X4.out HX.out.1 HY.out.1); clear o5 e5 b5 HS4 E4)
      | (go_at_call 22; (with_reducible refine HD5.out.mono ?_); rintro e w6 ⟨p6, q6, rfl, o6, r6, e6, f6, b6⟩; have B6 := Lib.hid (B5.out.trans (lower b6 B5.out.size)); have E6 := Lib.hid (And.intro (E5.out.kept b6) (And.intro o6 r6)); have X6 := Lib.hid (And.intro e6 f6); clear o6 r6 e6 f6 b6 HD5 E5))
    have hn6 := DB.new E6.out.2.1 E6.out.2.2
    generalize w6.alloc (.cells #[.slice p6.A p6.ts.length p6.c, .slice q6.A q6.ts.length q6.c] 35) = w7 at hn6 ⊢
    have B7 := Lib.hid (B6.out.trans (lower hn6.2 B6.out.size))
    have E7 := Lib.hid (And.intro (E6.out.1.kept hn6.2) hn6.1)
    have HD7 := Lib.hid (diff2 x4 x5 w7 Y Z E7.out.1.2.1 E7.out.1.2.2 X4.out X5.out HY.out.1 HZ.out.1)
    clear hn6 E6
    go_upto_region 6 with (go_at_call 22; (with_reducible refine HD7.out.mono ?_); rintro e w8 ⟨p8, q8, rfl, o8, r8, e8, f8, b8⟩; have B8 := Lib.hid (B7.out.trans (lower b8 B7.out.size)); have E8 := Lib.hid (And.intro (E7.out.1.kept b8) (And.intro (E7.out.2.kept b8) (And.intro o8 r8))); have X8 := Lib.hid (And.intro e8 f8); clear o8 r8 e8 f8 b8 HD7 E7)
    have hn8 := DB.new E8.out.2.2.1 E8.out.2.2.2
    generalize w8.alloc (.cells #[.slice p8.A p8.ts.length p8.c, .slice q8.A q8.ts.length q8.c] 35) = w9 at hn8 ⊢
    have B9 := Lib.hid (B8.out.trans (lower hn8.2 B8.out.size))
    have E9 := Lib.hid (And.intro (E8.out.1.kept hn8.2) (And.intro (E8.out.2.1.kept hn8.2) hn8.1))
    obtain ⟨k0, k1⟩ := E9.out.2.1.1.cells
    generalize w6.heap.size = bd at E9 k0 k1 ⊢
    generalize w8.heap.size = bf at E9 ⊢
    have HA9 := Lib.hid (apply2 x3 p6 q6 w9 X Y E9.out.1.1 E9.out.2.1.2.1 E9.out.2.1.2.2 X3.out X6.out.1 X6.out.2 HX.out.1 HY.out.1 HX.out.2 HY.out.2)
    clear hn8 E8 B1 B2 B3 B4 B5 B6 B7 B8
    go_upto_region 11 with (first
      | (go_at_call 26; (with_reducible refine HA9.out.mono ?_); rintro e w10 ⟨y10, rfl, o10, e10, b10⟩; have B10 := Lib.hid (B9.out.trans (lower b10 B9.out.size)); have E10 := Lib.hid (And.intro (E9.out.1.kept b10) (And.intro (E9.out.2.1.kept b10) (And.intro (E9.out.2.2.kept b10) o10))); have X10 := Lib.hid e10; clear k0 k1; obtain ⟨k0, k1⟩ := E10.out.2.1.1.cells; have HB10 := Lib.hid (back2 p6 q6 w10 _ _ E10.out.2.1.2.1 E10.out.2.1.2.2 X6.out.1 X6.out.2); clear o10 e10 b10 HA9 E9)
      | (go_at_call 28; (with_reducible refine HB10.out.mono ?_); rintro e w11 ⟨p11, q11, rfl, o11, r11, e11, f11, b11⟩; have B11 := Lib.hid (B10.out.trans (lower b11 B10.out.size)); have E11 := Lib.hid (And.intro (E10.out.1.kept b11) (And.intro (E10.out.2.1.kept b11) (And.intro (E10.out.2.2.1.kept b11) (E10.out.2.2.2.below b11)))); have HA11 := Lib.hid (apply2 x4 p11 q11 w11 Y X E11.out.1.2.1 o11 r11 X4.out e11 f11 HY.out.1 HX.out.1 HY.out.2 HX.out.2); clear o11 r11 e11 f11 b11 HB10 E10 k0 k1)
      | (go_at_call 26; (with_reducible refine HA11.out.mono ?_); rintro e w12 ⟨z12, rfl, o12, e12, b12⟩; have B12 := Lib.hid (B11.out.trans (lower b12 B11.out.size)); have E12 := Lib.hid (And.intro (E11.out.1.kept b12) (And.intro (E11.out.2.1.kept b12) (And.intro (E11.out.2.2.1.kept b12) (And.intro (E11.out.2.2.2.below b12) o12)))); have X12 := Lib.hid e12; obtain ⟨k0, k1⟩ := E12.out.2.1.1.cells; obtain ⟨k2, k3⟩ := E12.out.2.2.1.1.cells; have HT12 := Lib.hid (then2 p6 q6 p8 q8 w12 X Y Z E12.out.2.1.2.1 E12.out.2.1.2.2 E12.out.2.2.1.2.1 E12.out.2.2.1.2.2 X6.out.1 X6.out.2 X8.out.1 X8.out.2 HX.out.1 HY.out.1 HZ.out.1 HX.out.2 HY.out.2 HZ.out.2); clear o12 e12 b12 HA11 E11)
      | (go_at_call 29; (with_reducible refine HT12.out.mono ?_); rintro e w13 ⟨p13, q13, rfl, o13, r13, e13, f13, b13⟩; have B13 := Lib.hid (B12.out.trans (lower b13 B12.out.size)); have E13 := Lib.hid (And.intro (E12.out.1.kept b13) (And.intro (E12.out.2.2.2.1.below b13) (And.intro (E12.out.2.2.2.2.below b13) (And.intro o13 r13)))); have X13 := Lib.hid (And.intro e13 f13); clear o13 r13 e13 f13 b13 HT12 E12 k0 k1 k2 k3))
    have hn13 := DB.new E13.out.2.2.2.1 E13.out.2.2.2.2
    generalize w13.alloc (.cells #[.slice p13.A p13.ts.length p13.c, .slice q13.A q13.ts.length q13.c] 35) = w14 at hn13 ⊢
    have B14 := Lib.hid (B13.out.trans (lower hn13.2 B13.out.size))
    have E14 := Lib.hid (And.intro (E13.out.1.kept hn13.2) (And.intro (E13.out.2.1.below hn13.2) (And.intro (E13.out.2.2.1.below hn13.2) hn13.1)))
    generalize w13.heap.size = bt at E14 ⊢
    have HS14 := Lib.hid (same2 y10 x4 w14 Y E14.out.2.1 E14.out.1.2.1 X10.out X4.out)
    clear hn13 E13 B9 B10 B11 B12 B13
    go_upto_region 15 with (first
      | (go_at_call 13; (with_reducible refine HS14.out.mono ?_); rintro e w15 ⟨rfl, b15⟩; have B15 := Lib.hid (B14.out.trans (lower b15 B14.out.size)); have E15 := Lib.hid (And.intro (E14.out.1.kept b15) (And.intro (E14.out.2.2.1.below b15) (E14.out.2.2.2.kept b15))); have HS15 := Lib.hid (same2 z12 x3 w15 X E15.out.2.1 E15.out.1.1 X12.out X3.out); clear b15 HS14 E14)
      | (go_at_call 13; (with_reducible refine HS15.out.mono ?_); rintro e w16 ⟨rfl, b16⟩; have B16 := Lib.hid (B15.out.trans (lower b16 B15.out.size)); have E16 := Lib.hid (And.intro (E15.out.1.kept b16) (E15.out.2.2.kept b16)); obtain ⟨k0, k1⟩ := E16.out.2.1.cells; have HA16 := Lib.hid (apply2 x3 p13 q13 w16 X Z E16.out.1.1 E16.out.2.2.1 E16.out.2.2.2 X3.out X13.out.1 X13.out.2 HX.out.1 HZ.out.1 HX.out.2 HZ.out.2); clear b16 HS15 E15)
      | (go_at_call 26; (with_reducible refine HA16.out.mono ?_); rintro e w17 ⟨u17, rfl, o17, e17, b17⟩; have B17 := Lib.hid (B16.out.trans (lower b17 B16.out.size)); have E17 := Lib.hid (And.intro (E16.out.1.kept b17) (And.intro (E16.out.2.kept b17) o17)); have X17 := Lib.hid e17; have HD17 := Lib.hid (diff2 x3 x5 w17 X Z E17.out.1.1 E17.out.1.2.2 X3.out X5.out HX.out.1 HZ.out.1); clear o17 e17 b17 HA16 E16 k0 k1)
      | (go_at_call 22; (with_reducible refine HD17.out.mono ?_); rintro e w18 ⟨p18, q18, rfl, o18, r18, e18, f18, b18⟩; have B18 := Lib.hid (B17.out.trans (lower b18 B17.out.size)); have E18 := Lib.hid (And.intro (E17.out.1.kept b18) (And.intro (E17.out.2.1.kept b18) (And.intro (E17.out.2.2.below b18) (And.intro o18 r18)))); have X18 := Lib.hid (And.intro e18 f18); clear o18 r18 e18 f18 b18 HD17 E17))
    have hn18 := DB.new E18.out.2.2.2.1 E18.out.2.2.2.2
    generalize w18.alloc (.cells #[.slice p18.A p18.ts.length p18.c, .slice q18.A q18.ts.length q18.c] 35) = w19 at hn18 ⊢
    have B19 := Lib.hid (B18.out.trans (lower hn18.2 B18.out.size))
    have E19 := Lib.hid (And.intro (E18.out.1.kept hn18.2) (And.intro (E18.out.2.1.kept hn18.2) (And.intro (E18.out.2.2.1.below hn18.2) hn18.1)))
    generalize w18.heap.size = bw at E19 ⊢
    have HS19 := Lib.hid (same2 u17 x5 w19 Z E19.out.2.2.1 E19.out.1.2.2 X17.out X5.out)
    clear hn18 E18 B14 B15 B16 B17 B18
    go_wp2_with (first
      | (go_at_call 13; (with_reducible refine HS19.out.mono ?_); rintro e w20 ⟨rfl, b20⟩; have B20 := Lib.hid (B19.out.trans (lower b20 B19.out.size)); have E20 := Lib.hid (And.intro (E19.out.2.1.kept b20) (E19.out.2.2.2.kept b20)); obtain ⟨k0, k1⟩ := E20.out.1.1.cells; obtain ⟨k2, k3⟩ := E20.out.2.1.cells; have HS20 := Lib.hid (sameD2 p18 q18 p13 q13 w20 _ _ E20.out.2.2.1 E20.out.2.2.2 E20.out.1.2.1 E20.out.1.2.2 X18.out.1 X18.out.2 X13.out.1 X13.out.2); clear b20 HS19 E19)
      | (go_at_call 24; (with_reducible refine HS20.out.mono ?_); rintro e w21 ⟨rfl, b21⟩; have B21 := Lib.hid (B20.out.trans (lower b21 B20.out.size)); clear b21 HS20))
    go_ret
    exact ⟨rfl, B21.out⟩
end Go.Proofs.Ytpfkkmfhafejfaa
