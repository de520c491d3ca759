/- ofKey. -/
import Derived.Test.YtgjjdmkoamjdpaaGreatDoorRcI
namespace Go.Proofs.YtgjjdmkoamjdpaaGreatDoor
open Go.RowKit Go.Maps
set_option maxRecDepth 100000

def OkPost (w : World) (r : Option ChV) (e : Ending) (w' : World) : Prop := e = .returned (.tuple #[.agg (r.getD zeroC).cells, .bool r.isSome]) ∧ Below w.heap.size w w'
set_option maxHeartbeats 4000000 in
theorem ofKey_any (A : Option Addr) (ks : List KPart) (n c B : Nat) (w : World) (hn : n = ks.length) (hr : Rd w B A (pcs ks)) (hB : B ≤ w.heap.size) (hl : ks.length ≤ 1000) : Calls Tryz.prog 76 #[.slice A n c] w (OkPost w (ofK ks)) := by
  have hb0 : Below w.heap.size w (w.alloc (.cells cellsZ 53)) := (Below.refl _ _).alloc (Nat.le_refl _) _
  have hz0 := heap_alloc_new w (.cells cellsZ 53)
  have HB := Lib.hid (And.intro hb0 hz0)
  cases ks with
  | nil =>
    subst hn
    obtain ⟨e0, e1, e2, e3, e4, e5, e6, e7, e8⟩ := box9 hz0
    obtain ⟨f0, f1, f2, f3, f4, f5, f6, f7, f8⟩ := fr9 hz0
    clear hb0 hz0 hr hl
    go_enter Tryz.func76, Tryz.ntmps76
    go_wp2_with (fail)
    exact bodyPost_ret (resOK HB.out.2 _ rfl) rfl ⟨rfl, HB.out.1⟩
  | cons a ks =>
    rw [List.length_cons] at hn hl
    obtain ⟨b, o, rfl, hb, p0, p1, p2⟩ := (hr.part (k := 0) (by simp))
    obtain ⟨m, hm⟩ : ∃ m, m = ks.length := ⟨_, rfl⟩
    rw [← hm] at hn hl
    subst hn
    have hlt : b < w.heap.size := Nat.lt_of_lt_of_le hb hB
    have p2' := (hb0.cell (p := ⟨b, o + 0 * 3 + 2, none⟩) hlt).trans p2
    simp only [Nat.zero_mul, Nat.add_zero, List.getElem_cons_zero] at p2'
    obtain ⟨e0, e1, e2, e3, e4, e5, e6, e7, e8⟩ := box9 hz0
    obtain ⟨f0, f1, f2, f3, f4, f5, f6, f7, f8⟩ := fr9 hz0
    have HR := Lib.hid (And.intro hr hm)
    have hne : ((m : Int) + 1 == 0) = false := beq_eq_false_iff_ne.2 (by omega)
    clear hb0 hz0 hr hm p0 p1 p2
    go_enter Tryz.func76, Tryz.ntmps76
    go_upto_region 4 with (fail)
    have hb1 : Below w.heap.size w ((w.alloc (.cells cellsZ 53)).alloc (.cells #[.int .i64 a.n, .int .i64 0, .int .i64 0, .string ⟨#[]⟩, .int .i64 0, .string ⟨#[]⟩, .int .i64 0, .int .i64 0, .string ⟨#[]⟩] 53)) := HB.out.1.alloc (by simp) _
    have hz1 : ((w.alloc (.cells cellsZ 53)).alloc (.cells #[.int .i64 a.n, .int .i64 0, .int .i64 0, .string ⟨#[]⟩, .int .i64 0, .string ⟨#[]⟩, .int .i64 0, .int .i64 0, .string ⟨#[]⟩] 53)).heap[w.heap.size]? = some (.cells cellsZ 53 (0, 0)) := (((Below.refl (w.heap.size + 1) (w.alloc (.cells cellsZ 53))).alloc (by simp) _).block w.heap.size (by omega)).trans HB.out.2
    have hx1 : ((w.alloc (.cells cellsZ 53)).alloc (.cells #[.int .i64 a.n, .int .i64 0, .int .i64 0, .string ⟨#[]⟩, .int .i64 0, .string ⟨#[]⟩, .int .i64 0, .int .i64 0, .string ⟨#[]⟩] 53)).heap[w.heap.size + 1]? = some (.cells #[.int .i64 a.n, .int .i64 0, .int .i64 0, .string ⟨#[]⟩, .int .i64 0, .string ⟨#[]⟩, .int .i64 0, .int .i64 0, .string ⟨#[]⟩] 53 (0, 0)) := by
      have h := heap_alloc_new (w.alloc (.cells cellsZ 53)) (.cells #[.int .i64 a.n, .int .i64 0, .int .i64 0, .string ⟨#[]⟩, .int .i64 0, .string ⟨#[]⟩, .int .i64 0, .int .i64 0, .string ⟨#[]⟩] 53)
      rw [alloc1_size] at h
      exact h
    clear e0 e1 e2 e3 e4 e5 e6 e7 e8 f0 f1 f2 f3 f4 f5 f6 f7 f8 p2' hne
    dsimp only [cellsZ] at hb1 hz1 hx1
    generalize ((w.alloc (.cells #[.int .i64 0, .int .i64 0, .int .i64 0, .string ⟨#[]⟩, .int .i64 0, .string ⟨#[]⟩, .int .i64 0, .int .i64 0, .string ⟨#[]⟩] 53)).alloc (.cells #[.int .i64 a.n, .int .i64 0, .int .i64 0, .string ⟨#[]⟩, .int .i64 0, .string ⟨#[]⟩, .int .i64 0, .int .i64 0, .string ⟨#[]⟩] 53)) = W2 at hb1 hz1 hx1 ⊢
    obtain ⟨r, hr⟩ : ∃ r, r = w.heap.size := ⟨_, rfl⟩
    obtain ⟨x4, hx4⟩ : ∃ x4, x4 = w.heap.size + 1 := ⟨_, rfl⟩
    rw [← hx4, ← hr]
    rw [← hr] at hz1
    rw [← hx4] at hx1
    have HR0 := Lib.hid (And.intro hr hx4)
    have HB2 := Lib.hid (And.intro hb1 (And.intro hz1 hx1))
    obtain ⟨e0, e1, e2, e3, e4, e5, e6, e7, e8⟩ := box9 hx1
    have hko := keyOf_len ⟨a.n, 0, 0, ⟨#[]⟩, 0, ⟨#[]⟩, ⟨0, 0, ⟨#[]⟩⟩⟩ W2
    obtain ⟨q, hq⟩ : ∃ q, q = kLen a.n := ⟨_, rfl⟩
    dsimp only [ChV.cells] at hko
    rw [← hq] at hko
    have HKO := Lib.hid hko
    have HQ := Lib.hid hq
    clear hb1 hz1 hx1 hko hr hx4 hq
    by_cases hmq : m + 1 = q
    · have hbe : ((m : Int) + 1 != (q : Int)) = false := by rw [bne_eq_false_iff_eq]; omega
      go_upto_region 6 with (go_at_call 70; (with_reducible refine HKO.out.mono ?_); rintro e W3 ⟨A3, c3, rfl, b3⟩; have B3 := Lib.hid b3; clear b3)
      clear e0 e1 e2 e3 e4 e5 e6 e7 e8 HKO hbe
      have hz3 := (B3.out.block r (heap_lt HB2.out.2.1)).trans HB2.out.2.1
      have hx3 := (B3.out.block x4 (heap_lt HB2.out.2.2)).trans HB2.out.2.2
      have hb3 : Below w.heap.size w W3 := HB2.out.1.trans (lower' B3.out HB2.out.1.size)
      obtain ⟨e0, e1, e2, e3, e4, e5, e6, e7, e8⟩ := box9 hx3
      obtain ⟨f0, f1, f2, f3, f4, f5, f6, f7, f8⟩ := fr9 hx3
      have HB3 := Lib.hid (And.intro hb3 (And.intro hz3 hx3))
      have hne : r ≠ x4 := by rw [HR0.out.1, HR0.out.2]; omega
      have HNE := Lib.hid hne
      clear hb3 hz3 hx3 hne HB2 B3
      obtain ⟨k, hk⟩ : ∃ k, k = a.n := ⟨_, rfl⟩
      rw [← hk] at HB3 HQ e0 ⊢
      have HK := Lib.hid hk
      clear hk
      by_cases h12 : k = 1 ∨ k = 2
      · obtain ⟨p, rfl⟩ : ∃ p, ks = [p] := by
          have h1 := HQ.out
          rw [kLen_two h12, ← hmq, HR.out.2] at h1
          match ks, h1 with
          | [p], _ => exact ⟨p, rfl⟩
        have HOF := Lib.hid (show ofK [a, p] = some ⟨k, p.n, 0, ⟨#[]⟩, 0, ⟨#[]⟩, ⟨0, 0, ⟨#[]⟩⟩⟩ from by rw [ofK_two, ← HK.out, if_pos h12])
        have x1 : W3.cell? ⟨b, o + 1 * 3 + 2, none⟩ = some (.int .i64 p.n) := by
          obtain ⟨b', o', hAA, hbl, x0, x1, x2⟩ := HR.out.1.part (k := 1) (by simp)
          injection hAA with hAA
          injection hAA with g8 g9
          subst g8 g9
          exact (HB3.out.1.cell (p := ⟨b, o + 1 * 3 + 2, none⟩) (Nat.lt_of_lt_of_le hbl hB)).trans x2
        have x1' : W3.cell? ⟨b, o + 3 + 2, none⟩ = some (.int .i64 p.n) := x1
        have hm1 : m = 1 := HR.out.2
        rcases h12 with h1 | h1
        · subst h1
          go_upto_region 16 with (fail)
          skip
          clear e0 e1 e2 e3 e4 e5 e6 e7 e8 f0 f1 f2 f3 f4 f5 f6 f7 f8
          have hx5_1 := heap_setCell_same W3 x4 1 _ _ (.int .i64 p.n) HB3.out.2.2
          have hz5_1 := (heap_setCell_other W3 ⟨x4, 1, none⟩ r (.int .i64 p.n) HNE.out).trans (HB3.out.2.1)
          have hb5_1 := Below.setCell (p := ⟨x4, 1, none⟩) (HB3.out.1) (show w.heap.size ≤ x4 by rw [HR0.out.2]; omega) (.int .i64 p.n)
          have hx5 : ((W3.setCell ⟨x4, 1, none⟩ (.int .i64 p.n))).heap[x4]? = some (.cells #[.int .i64 1, .int .i64 p.n, .int .i64 0, .string ⟨#[]⟩, .int .i64 0, .string ⟨#[]⟩, .int .i64 0, .int .i64 0, .string ⟨#[]⟩] 53 (0, 0)) := (show ((W3.setCell ⟨x4, 1, none⟩ (.int .i64 p.n))).heap[x4]? = some (.cells #[.int .i64 1, .int .i64 p.n, .int .i64 0, .string ⟨#[]⟩, .int .i64 0, .string ⟨#[]⟩, .int .i64 0, .int .i64 0, .string ⟨#[]⟩] 53 (0, 0)) from by simpa using hx5_1)
          have hz5 : ((W3.setCell ⟨x4, 1, none⟩ (.int .i64 p.n))).heap[r]? = _ := hz5_1
          have hb5 := (hb5_1)
          clear hx5_1 hz5_1 hb5_1
          generalize (W3.setCell ⟨x4, 1, none⟩ (.int .i64 p.n)) = W5 at hx5 hz5 hb5 ⊢
          obtain ⟨e0, e1, e2, e3, e4, e5, e6, e7, e8⟩ := box9 hx5
          obtain ⟨d0, d1, d2, d3, d4, d5, d6, d7, d8⟩ := box9 hz5
          obtain ⟨f0, f1, f2, f3, f4, f5, f6, f7, f8⟩ := fr9 hz5
          have H5 := Lib.hid (And.intro hb5 hz5)
          clear hx5 hz5 hb5
          go_wp2_with (fail)
          have hR := set9 H5.out.2 (.int .i64 1) (.int .i64 p.n) (.int .i64 0) (.string ⟨#[]⟩) (.int .i64 0) (.string ⟨#[]⟩) (.int .i64 0) (.int .i64 0) (.string ⟨#[]⟩)
          have hL := below_set9 (show Below r w W5 from HR0.out.1 ▸ H5.out.1) (Nat.le_refl _) (.int .i64 1) (.int .i64 p.n) (.int .i64 0) (.string ⟨#[]⟩) (.int .i64 0) (.string ⟨#[]⟩) (.int .i64 0) (.int .i64 0) (.string ⟨#[]⟩)
          generalize (((((((((W5.setCell ⟨r, 0, none⟩ (.int .i64 1)).setCell ⟨r, 1, none⟩ (.int .i64 p.n)).setCell ⟨r, 2, none⟩ (.int .i64 0)).setCell ⟨r, 3, none⟩ (.string ⟨#[]⟩)).setCell ⟨r, 4, none⟩ (.int .i64 0)).setCell ⟨r, 5, none⟩ (.string ⟨#[]⟩)).setCell ⟨r, 6, none⟩ (.int .i64 0)).setCell ⟨r, 7, none⟩ (.int .i64 0)).setCell ⟨r, 8, none⟩ (.string ⟨#[]⟩)) = wX at hR hL ⊢
          exact bodyPost_ret (resOK hR _ rfl) rfl ⟨by rw [HOF.out]; rfl, by have h := hL; rw [HR0.out.1] at h; exact h⟩
        · subst h1
          go_upto_region 16 with (fail)
          skip
          clear e0 e1 e2 e3 e4 e5 e6 e7 e8 f0 f1 f2 f3 f4 f5 f6 f7 f8
          have hx5_1 := heap_setCell_same W3 x4 1 _ _ (.int .i64 p.n) HB3.out.2.2
          have hz5_1 := (heap_setCell_other W3 ⟨x4, 1, none⟩ r (.int .i64 p.n) HNE.out).trans (HB3.out.2.1)
          have hb5_1 := Below.setCell (p := ⟨x4, 1, none⟩) (HB3.out.1) (show w.heap.size ≤ x4 by rw [HR0.out.2]; omega) (.int .i64 p.n)
          have hx5 : ((W3.setCell ⟨x4, 1, none⟩ (.int .i64 p.n))).heap[x4]? = some (.cells #[.int .i64 2, .int .i64 p.n, .int .i64 0, .string ⟨#[]⟩, .int .i64 0, .string ⟨#[]⟩, .int .i64 0, .int .i64 0, .string ⟨#[]⟩] 53 (0, 0)) := (show ((W3.setCell ⟨x4, 1, none⟩ (.int .i64 p.n))).heap[x4]? = some (.cells #[.int .i64 2, .int .i64 p.n, .int .i64 0, .string ⟨#[]⟩, .int .i64 0, .string ⟨#[]⟩, .int .i64 0, .int .i64 0, .string ⟨#[]⟩] 53 (0, 0)) from by simpa using hx5_1)
          have hz5 : ((W3.setCell ⟨x4, 1, none⟩ (.int .i64 p.n))).heap[r]? = _ := hz5_1
          have hb5 := (hb5_1)
          clear hx5_1 hz5_1 hb5_1
          generalize (W3.setCell ⟨x4, 1, none⟩ (.int .i64 p.n)) = W5 at hx5 hz5 hb5 ⊢
          obtain ⟨e0, e1, e2, e3, e4, e5, e6, e7, e8⟩ := box9 hx5
          obtain ⟨d0, d1, d2, d3, d4, d5, d6, d7, d8⟩ := box9 hz5
          obtain ⟨f0, f1, f2, f3, f4, f5, f6, f7, f8⟩ := fr9 hz5
          have H5 := Lib.hid (And.intro hb5 hz5)
          clear hx5 hz5 hb5
          go_wp2_with (fail)
          have hR := set9 H5.out.2 (.int .i64 2) (.int .i64 p.n) (.int .i64 0) (.string ⟨#[]⟩) (.int .i64 0) (.string ⟨#[]⟩) (.int .i64 0) (.int .i64 0) (.string ⟨#[]⟩)
          have hL := below_set9 (show Below r w W5 from HR0.out.1 ▸ H5.out.1) (Nat.le_refl _) (.int .i64 2) (.int .i64 p.n) (.int .i64 0) (.string ⟨#[]⟩) (.int .i64 0) (.string ⟨#[]⟩) (.int .i64 0) (.int .i64 0) (.string ⟨#[]⟩)
          generalize (((((((((W5.setCell ⟨r, 0, none⟩ (.int .i64 2)).setCell ⟨r, 1, none⟩ (.int .i64 p.n)).setCell ⟨r, 2, none⟩ (.int .i64 0)).setCell ⟨r, 3, none⟩ (.string ⟨#[]⟩)).setCell ⟨r, 4, none⟩ (.int .i64 0)).setCell ⟨r, 5, none⟩ (.string ⟨#[]⟩)).setCell ⟨r, 6, none⟩ (.int .i64 0)).setCell ⟨r, 7, none⟩ (.int .i64 0)).setCell ⟨r, 8, none⟩ (.string ⟨#[]⟩)) = wX at hR hL ⊢
          exact bodyPost_ret (resOK hR _ rfl) rfl ⟨by rw [HOF.out]; rfl, by have h := hL; rw [HR0.out.1] at h; exact h⟩
      · by_cases h34 : k = 3 ∨ k = 4
        · obtain ⟨p, p2, p3, rfl⟩ : ∃ p p2 p3, ks = [p, p2, p3] := by
            have h1 := HQ.out
            rw [kLen_four h34, ← hmq, HR.out.2] at h1
            match ks, h1 with
            | [p, p2, p3], _ => exact ⟨p, p2, p3, rfl⟩
          have HOF := Lib.hid (show ofK [a, p, p2, p3] = some ⟨k, 0, p.n, p2.s, p3.n, ⟨#[]⟩, ⟨0, 0, ⟨#[]⟩⟩⟩ from by rw [ofK_four, ← HK.out, if_pos h34])
          have x1 : W3.cell? ⟨b, o + 1 * 3 + 2, none⟩ = some (.int .i64 p.n) := by
            obtain ⟨b', o', hAA, hbl, x0, x1, x2⟩ := HR.out.1.part (k := 1) (by simp)
            injection hAA with hAA
            injection hAA with g8 g9
            subst g8 g9
            exact (HB3.out.1.cell (p := ⟨b, o + 1 * 3 + 2, none⟩) (Nat.lt_of_lt_of_le hbl hB)).trans x2
          have x1' : W3.cell? ⟨b, o + 3 + 2, none⟩ = some (.int .i64 p.n) := x1
          have x2 : W3.cell? ⟨b, o + 2 * 3 + 1, none⟩ = some (.string p2.s) := by
            obtain ⟨b', o', hAA, hbl, x0, x1, x2⟩ := HR.out.1.part (k := 2) (by simp)
            injection hAA with hAA
            injection hAA with g8 g9
            subst g8 g9
            exact (HB3.out.1.cell (p := ⟨b, o + 2 * 3 + 1, none⟩) (Nat.lt_of_lt_of_le hbl hB)).trans x1
          have x2' : W3.cell? ⟨b, o + 6 + 1, none⟩ = some (.string p2.s) := x2
          have x3 : W3.cell? ⟨b, o + 3 * 3 + 2, none⟩ = some (.int .i64 p3.n) := by
            obtain ⟨b', o', hAA, hbl, x0, x1, x2⟩ := HR.out.1.part (k := 3) (by simp)
            injection hAA with hAA
            injection hAA with g8 g9
            subst g8 g9
            exact (HB3.out.1.cell (p := ⟨b, o + 3 * 3 + 2, none⟩) (Nat.lt_of_lt_of_le hbl hB)).trans x2
          have x3' : W3.cell? ⟨b, o + 9 + 2, none⟩ = some (.int .i64 p3.n) := x3
          have hm1 : m = 3 := HR.out.2
          have g1 : (k == 1) = false := beq_eq_false_iff_ne.2 fun e => h12 (.inl e)
          have g2 : (k == 2) = false := beq_eq_false_iff_ne.2 fun e => h12 (.inr e)
          clear h12
          rcases h34 with h1 | h1
          · subst h1
            go_upto_region 12 with (fail)
            go_region
            go_upto_region 16 with (fail)
            skip
            clear e0 e1 e2 e3 e4 e5 e6 e7 e8 f0 f1 f2 f3 f4 f5 f6 f7 f8
            have hx5_1 := heap_setCell_same W3 x4 2 _ _ (.int .i64 p.n) HB3.out.2.2
            have hz5_1 := (heap_setCell_other W3 ⟨x4, 2, none⟩ r (.int .i64 p.n) HNE.out).trans (HB3.out.2.1)
            have hb5_1 := Below.setCell (p := ⟨x4, 2, none⟩) (HB3.out.1) (show w.heap.size ≤ x4 by rw [HR0.out.2]; omega) (.int .i64 p.n)
            have hx5_2 := heap_setCell_same (W3.setCell ⟨x4, 2, none⟩ (.int .i64 p.n)) x4 3 _ _ (.string p2.s) hx5_1
            have hz5_2 := (heap_setCell_other (W3.setCell ⟨x4, 2, none⟩ (.int .i64 p.n)) ⟨x4, 3, none⟩ r (.string p2.s) HNE.out).trans (hz5_1)
            have hb5_2 := Below.setCell (p := ⟨x4, 3, none⟩) (hb5_1) (show w.heap.size ≤ x4 by rw [HR0.out.2]; omega) (.string p2.s)
            have hx5_3 := heap_setCell_same ((W3.setCell ⟨x4, 2, none⟩ (.int .i64 p.n)).setCell ⟨x4, 3, none⟩ (.string p2.s)) x4 4 _ _ (.int .i64 p3.n) hx5_2
            have hz5_3 := (heap_setCell_other ((W3.setCell ⟨x4, 2, none⟩ (.int .i64 p.n)).setCell ⟨x4, 3, none⟩ (.string p2.s)) ⟨x4, 4, none⟩ r (.int .i64 p3.n) HNE.out).trans (hz5_2)
            have hb5_3 := Below.setCell (p := ⟨x4, 4, none⟩) (hb5_2) (show w.heap.size ≤ x4 by rw [HR0.out.2]; omega) (.int .i64 p3.n)
            have hx5 : ((((W3.setCell ⟨x4, 2, none⟩ (.int .i64 p.n)).setCell ⟨x4, 3, none⟩ (.string p2.s)).setCell ⟨x4, 4, none⟩ (.int .i64 p3.n))).drew.heap[x4]? = some (.cells #[.int .i64 3, .int .i64 0, .int .i64 p.n, .string p2.s, .int .i64 p3.n, .string ⟨#[]⟩, .int .i64 0, .int .i64 0, .string ⟨#[]⟩] 53 (0, 0)) := (show ((((W3.setCell ⟨x4, 2, none⟩ (.int .i64 p.n)).setCell ⟨x4, 3, none⟩ (.string p2.s)).setCell ⟨x4, 4, none⟩ (.int .i64 p3.n))).heap[x4]? = some (.cells #[.int .i64 3, .int .i64 0, .int .i64 p.n, .string p2.s, .int .i64 p3.n, .string ⟨#[]⟩, .int .i64 0, .int .i64 0, .string ⟨#[]⟩] 53 (0, 0)) from by simpa using hx5_3)
            have hz5 : ((((W3.setCell ⟨x4, 2, none⟩ (.int .i64 p.n)).setCell ⟨x4, 3, none⟩ (.string p2.s)).setCell ⟨x4, 4, none⟩ (.int .i64 p3.n))).drew.heap[r]? = _ := hz5_3
            have hb5 := (hb5_3).drew
            clear hx5_1 hz5_1 hb5_1 hx5_2 hz5_2 hb5_2 hx5_3 hz5_3 hb5_3
            generalize (((W3.setCell ⟨x4, 2, none⟩ (.int .i64 p.n)).setCell ⟨x4, 3, none⟩ (.string p2.s)).setCell ⟨x4, 4, none⟩ (.int .i64 p3.n)).drew = W5 at hx5 hz5 hb5 ⊢
            obtain ⟨e0, e1, e2, e3, e4, e5, e6, e7, e8⟩ := box9 hx5
            obtain ⟨d0, d1, d2, d3, d4, d5, d6, d7, d8⟩ := box9 hz5
            obtain ⟨f0, f1, f2, f3, f4, f5, f6, f7, f8⟩ := fr9 hz5
            have H5 := Lib.hid (And.intro hb5 hz5)
            clear hx5 hz5 hb5
            go_wp2_with (fail)
            have hR := set9 H5.out.2 (.int .i64 3) (.int .i64 0) (.int .i64 p.n) (.string p2.s) (.int .i64 p3.n) (.string ⟨#[]⟩) (.int .i64 0) (.int .i64 0) (.string ⟨#[]⟩)
            have hL := below_set9 (show Below r w W5 from HR0.out.1 ▸ H5.out.1) (Nat.le_refl _) (.int .i64 3) (.int .i64 0) (.int .i64 p.n) (.string p2.s) (.int .i64 p3.n) (.string ⟨#[]⟩) (.int .i64 0) (.int .i64 0) (.string ⟨#[]⟩)
            generalize (((((((((W5.setCell ⟨r, 0, none⟩ (.int .i64 3)).setCell ⟨r, 1, none⟩ (.int .i64 0)).setCell ⟨r, 2, none⟩ (.int .i64 p.n)).setCell ⟨r, 3, none⟩ (.string p2.s)).setCell ⟨r, 4, none⟩ (.int .i64 p3.n)).setCell ⟨r, 5, none⟩ (.string ⟨#[]⟩)).setCell ⟨r, 6, none⟩ (.int .i64 0)).setCell ⟨r, 7, none⟩ (.int .i64 0)).setCell ⟨r, 8, none⟩ (.string ⟨#[]⟩)) = wX at hR hL ⊢
            exact bodyPost_ret (resOK hR _ rfl) rfl ⟨by rw [HOF.out]; rfl, by have h := hL; rw [HR0.out.1] at h; exact h⟩
          · subst h1
            go_upto_region 12 with (fail)
            go_region
            go_upto_region 16 with (fail)
            skip
            clear e0 e1 e2 e3 e4 e5 e6 e7 e8 f0 f1 f2 f3 f4 f5 f6 f7 f8
            have hx5_1 := heap_setCell_same W3 x4 2 _ _ (.int .i64 p.n) HB3.out.2.2
            have hz5_1 := (heap_setCell_other W3 ⟨x4, 2, none⟩ r (.int .i64 p.n) HNE.out).trans (HB3.out.2.1)
            have hb5_1 := Below.setCell (p := ⟨x4, 2, none⟩) (HB3.out.1) (show w.heap.size ≤ x4 by rw [HR0.out.2]; omega) (.int .i64 p.n)
            have hx5_2 := heap_setCell_same (W3.setCell ⟨x4, 2, none⟩ (.int .i64 p.n)) x4 3 _ _ (.string p2.s) hx5_1
            have hz5_2 := (heap_setCell_other (W3.setCell ⟨x4, 2, none⟩ (.int .i64 p.n)) ⟨x4, 3, none⟩ r (.string p2.s) HNE.out).trans (hz5_1)
            have hb5_2 := Below.setCell (p := ⟨x4, 3, none⟩) (hb5_1) (show w.heap.size ≤ x4 by rw [HR0.out.2]; omega) (.string p2.s)
            have hx5_3 := heap_setCell_same ((W3.setCell ⟨x4, 2, none⟩ (.int .i64 p.n)).setCell ⟨x4, 3, none⟩ (.string p2.s)) x4 4 _ _ (.int .i64 p3.n) hx5_2
            have hz5_3 := (heap_setCell_other ((W3.setCell ⟨x4, 2, none⟩ (.int .i64 p.n)).setCell ⟨x4, 3, none⟩ (.string p2.s)) ⟨x4, 4, none⟩ r (.int .i64 p3.n) HNE.out).trans (hz5_2)
            have hb5_3 := Below.setCell (p := ⟨x4, 4, none⟩) (hb5_2) (show w.heap.size ≤ x4 by rw [HR0.out.2]; omega) (.int .i64 p3.n)
            have hx5 : ((((W3.setCell ⟨x4, 2, none⟩ (.int .i64 p.n)).setCell ⟨x4, 3, none⟩ (.string p2.s)).setCell ⟨x4, 4, none⟩ (.int .i64 p3.n))).drew.heap[x4]? = some (.cells #[.int .i64 4, .int .i64 0, .int .i64 p.n, .string p2.s, .int .i64 p3.n, .string ⟨#[]⟩, .int .i64 0, .int .i64 0, .string ⟨#[]⟩] 53 (0, 0)) := (show ((((W3.setCell ⟨x4, 2, none⟩ (.int .i64 p.n)).setCell ⟨x4, 3, none⟩ (.string p2.s)).setCell ⟨x4, 4, none⟩ (.int .i64 p3.n))).heap[x4]? = some (.cells #[.int .i64 4, .int .i64 0, .int .i64 p.n, .string p2.s, .int .i64 p3.n, .string ⟨#[]⟩, .int .i64 0, .int .i64 0, .string ⟨#[]⟩] 53 (0, 0)) from by simpa using hx5_3)
            have hz5 : ((((W3.setCell ⟨x4, 2, none⟩ (.int .i64 p.n)).setCell ⟨x4, 3, none⟩ (.string p2.s)).setCell ⟨x4, 4, none⟩ (.int .i64 p3.n))).drew.heap[r]? = _ := hz5_3
            have hb5 := (hb5_3).drew
            clear hx5_1 hz5_1 hb5_1 hx5_2 hz5_2 hb5_2 hx5_3 hz5_3 hb5_3
            generalize (((W3.setCell ⟨x4, 2, none⟩ (.int .i64 p.n)).setCell ⟨x4, 3, none⟩ (.string p2.s)).setCell ⟨x4, 4, none⟩ (.int .i64 p3.n)).drew = W5 at hx5 hz5 hb5 ⊢
            obtain ⟨e0, e1, e2, e3, e4, e5, e6, e7, e8⟩ := box9 hx5
            obtain ⟨d0, d1, d2, d3, d4, d5, d6, d7, d8⟩ := box9 hz5
            obtain ⟨f0, f1, f2, f3, f4, f5, f6, f7, f8⟩ := fr9 hz5
            have H5 := Lib.hid (And.intro hb5 hz5)
            clear hx5 hz5 hb5
            go_wp2_with (fail)
            have hR := set9 H5.out.2 (.int .i64 4) (.int .i64 0) (.int .i64 p.n) (.string p2.s) (.int .i64 p3.n) (.string ⟨#[]⟩) (.int .i64 0) (.int .i64 0) (.string ⟨#[]⟩)
            have hL := below_set9 (show Below r w W5 from HR0.out.1 ▸ H5.out.1) (Nat.le_refl _) (.int .i64 4) (.int .i64 0) (.int .i64 p.n) (.string p2.s) (.int .i64 p3.n) (.string ⟨#[]⟩) (.int .i64 0) (.int .i64 0) (.string ⟨#[]⟩)
            generalize (((((((((W5.setCell ⟨r, 0, none⟩ (.int .i64 4)).setCell ⟨r, 1, none⟩ (.int .i64 0)).setCell ⟨r, 2, none⟩ (.int .i64 p.n)).setCell ⟨r, 3, none⟩ (.string p2.s)).setCell ⟨r, 4, none⟩ (.int .i64 p3.n)).setCell ⟨r, 5, none⟩ (.string ⟨#[]⟩)).setCell ⟨r, 6, none⟩ (.int .i64 0)).setCell ⟨r, 7, none⟩ (.int .i64 0)).setCell ⟨r, 8, none⟩ (.string ⟨#[]⟩)) = wX at hR hL ⊢
            exact bodyPost_ret (resOK hR _ rfl) rfl ⟨by rw [HOF.out]; rfl, by have h := hL; rw [HR0.out.1] at h; exact h⟩
        · by_cases h56 : k = 5 ∨ k = 6
          · obtain ⟨p, p2, rfl⟩ : ∃ p p2, ks = [p, p2] := by
              have h1 := HQ.out
              rw [kLen_three h56, ← hmq, HR.out.2] at h1
              match ks, h1 with
              | [p, p2], _ => exact ⟨p, p2, rfl⟩
            have HOF := Lib.hid (show ofK [a, p, p2] = some ⟨k, p.n, 0, ⟨#[]⟩, 0, p2.s, ⟨0, 0, ⟨#[]⟩⟩⟩ from by rw [ofK_three, ← HK.out, if_pos h56])
            have x1 : W3.cell? ⟨b, o + 1 * 3 + 2, none⟩ = some (.int .i64 p.n) := by
              obtain ⟨b', o', hAA, hbl, x0, x1, x2⟩ := HR.out.1.part (k := 1) (by simp)
              injection hAA with hAA
              injection hAA with g8 g9
              subst g8 g9
              exact (HB3.out.1.cell (p := ⟨b, o + 1 * 3 + 2, none⟩) (Nat.lt_of_lt_of_le hbl hB)).trans x2
            have x1' : W3.cell? ⟨b, o + 3 + 2, none⟩ = some (.int .i64 p.n) := x1
            have x2 : W3.cell? ⟨b, o + 2 * 3 + 1, none⟩ = some (.string p2.s) := by
              obtain ⟨b', o', hAA, hbl, x0, x1, x2⟩ := HR.out.1.part (k := 2) (by simp)
              injection hAA with hAA
              injection hAA with g8 g9
              subst g8 g9
              exact (HB3.out.1.cell (p := ⟨b, o + 2 * 3 + 1, none⟩) (Nat.lt_of_lt_of_le hbl hB)).trans x1
            have x2' : W3.cell? ⟨b, o + 6 + 1, none⟩ = some (.string p2.s) := x2
            have hm1 : m = 2 := HR.out.2
            have g1 : (k == 1) = false := beq_eq_false_iff_ne.2 fun e => h12 (.inl e)
            have g2 : (k == 2) = false := beq_eq_false_iff_ne.2 fun e => h12 (.inr e)
            have g3 : (k == 3) = false := beq_eq_false_iff_ne.2 fun e => h34 (.inl e)
            have g4 : (k == 4) = false := beq_eq_false_iff_ne.2 fun e => h34 (.inr e)
            clear h12 h34
            rcases h56 with h1 | h1
            · subst h1
              go_upto_region 15 with (fail)
              go_region
              go_upto_region 16 with (fail)
              skip
              clear e0 e1 e2 e3 e4 e5 e6 e7 e8 f0 f1 f2 f3 f4 f5 f6 f7 f8
              have hx5_1 := heap_setCell_same W3 x4 1 _ _ (.int .i64 p.n) HB3.out.2.2
              have hz5_1 := (heap_setCell_other W3 ⟨x4, 1, none⟩ r (.int .i64 p.n) HNE.out).trans (HB3.out.2.1)
              have hb5_1 := Below.setCell (p := ⟨x4, 1, none⟩) (HB3.out.1) (show w.heap.size ≤ x4 by rw [HR0.out.2]; omega) (.int .i64 p.n)
              have hx5_2 := heap_setCell_same (W3.setCell ⟨x4, 1, none⟩ (.int .i64 p.n)) x4 5 _ _ (.string p2.s) hx5_1
              have hz5_2 := (heap_setCell_other (W3.setCell ⟨x4, 1, none⟩ (.int .i64 p.n)) ⟨x4, 5, none⟩ r (.string p2.s) HNE.out).trans (hz5_1)
              have hb5_2 := Below.setCell (p := ⟨x4, 5, none⟩) (hb5_1) (show w.heap.size ≤ x4 by rw [HR0.out.2]; omega) (.string p2.s)
              have hx5 : (((W3.setCell ⟨x4, 1, none⟩ (.int .i64 p.n)).setCell ⟨x4, 5, none⟩ (.string p2.s))).drew.heap[x4]? = some (.cells #[.int .i64 5, .int .i64 p.n, .int .i64 0, .string ⟨#[]⟩, .int .i64 0, .string p2.s, .int .i64 0, .int .i64 0, .string ⟨#[]⟩] 53 (0, 0)) := (show (((W3.setCell ⟨x4, 1, none⟩ (.int .i64 p.n)).setCell ⟨x4, 5, none⟩ (.string p2.s))).heap[x4]? = some (.cells #[.int .i64 5, .int .i64 p.n, .int .i64 0, .string ⟨#[]⟩, .int .i64 0, .string p2.s, .int .i64 0, .int .i64 0, .string ⟨#[]⟩] 53 (0, 0)) from by simpa using hx5_2)
              have hz5 : (((W3.setCell ⟨x4, 1, none⟩ (.int .i64 p.n)).setCell ⟨x4, 5, none⟩ (.string p2.s))).drew.heap[r]? = _ := hz5_2
              have hb5 := (hb5_2).drew
              clear hx5_1 hz5_1 hb5_1 hx5_2 hz5_2 hb5_2
              generalize ((W3.setCell ⟨x4, 1, none⟩ (.int .i64 p.n)).setCell ⟨x4, 5, none⟩ (.string p2.s)).drew = W5 at hx5 hz5 hb5 ⊢
              obtain ⟨e0, e1, e2, e3, e4, e5, e6, e7, e8⟩ := box9 hx5
              obtain ⟨d0, d1, d2, d3, d4, d5, d6, d7, d8⟩ := box9 hz5
              obtain ⟨f0, f1, f2, f3, f4, f5, f6, f7, f8⟩ := fr9 hz5
              have H5 := Lib.hid (And.intro hb5 hz5)
              clear hx5 hz5 hb5
              go_wp2_with (fail)
              have hR := set9 H5.out.2 (.int .i64 5) (.int .i64 p.n) (.int .i64 0) (.string ⟨#[]⟩) (.int .i64 0) (.string p2.s) (.int .i64 0) (.int .i64 0) (.string ⟨#[]⟩)
              have hL := below_set9 (show Below r w W5 from HR0.out.1 ▸ H5.out.1) (Nat.le_refl _) (.int .i64 5) (.int .i64 p.n) (.int .i64 0) (.string ⟨#[]⟩) (.int .i64 0) (.string p2.s) (.int .i64 0) (.int .i64 0) (.string ⟨#[]⟩)
              generalize (((((((((W5.setCell ⟨r, 0, none⟩ (.int .i64 5)).setCell ⟨r, 1, none⟩ (.int .i64 p.n)).setCell ⟨r, 2, none⟩ (.int .i64 0)).setCell ⟨r, 3, none⟩ (.string ⟨#[]⟩)).setCell ⟨r, 4, none⟩ (.int .i64 0)).setCell ⟨r, 5, none⟩ (.string p2.s)).setCell ⟨r, 6, none⟩ (.int .i64 0)).setCell ⟨r, 7, none⟩ (.int .i64 0)).setCell ⟨r, 8, none⟩ (.string ⟨#[]⟩)) = wX at hR hL ⊢
              exact bodyPost_ret (resOK hR _ rfl) rfl ⟨by rw [HOF.out]; rfl, by have h := hL; rw [HR0.out.1] at h; exact h⟩
            · subst h1
              go_upto_region 15 with (fail)
              go_region
              go_upto_region 16 with (fail)
              skip
              clear e0 e1 e2 e3 e4 e5 e6 e7 e8 f0 f1 f2 f3 f4 f5 f6 f7 f8
              have hx5_1 := heap_setCell_same W3 x4 1 _ _ (.int .i64 p.n) HB3.out.2.2
              have hz5_1 := (heap_setCell_other W3 ⟨x4, 1, none⟩ r (.int .i64 p.n) HNE.out).trans (HB3.out.2.1)
              have hb5_1 := Below.setCell (p := ⟨x4, 1, none⟩) (HB3.out.1) (show w.heap.size ≤ x4 by rw [HR0.out.2]; omega) (.int .i64 p.n)
              have hx5_2 := heap_setCell_same (W3.setCell ⟨x4, 1, none⟩ (.int .i64 p.n)) x4 5 _ _ (.string p2.s) hx5_1
              have hz5_2 := (heap_setCell_other (W3.setCell ⟨x4, 1, none⟩ (.int .i64 p.n)) ⟨x4, 5, none⟩ r (.string p2.s) HNE.out).trans (hz5_1)
              have hb5_2 := Below.setCell (p := ⟨x4, 5, none⟩) (hb5_1) (show w.heap.size ≤ x4 by rw [HR0.out.2]; omega) (.string p2.s)
              have hx5 : (((W3.setCell ⟨x4, 1, none⟩ (.int .i64 p.n)).setCell ⟨x4, 5, none⟩ (.string p2.s))).drew.heap[x4]? = some (.cells #[.int .i64 6, .int .i64 p.n, .int .i64 0, .string ⟨#[]⟩, .int .i64 0, .string p2.s, .int .i64 0, .int .i64 0, .string ⟨#[]⟩] 53 (0, 0)) := (show (((W3.setCell ⟨x4, 1, none⟩ (.int .i64 p.n)).setCell ⟨x4, 5, none⟩ (.string p2.s))).heap[x4]? = some (.cells #[.int .i64 6, .int .i64 p.n, .int .i64 0, .string ⟨#[]⟩, .int .i64 0, .string p2.s, .int .i64 0, .int .i64 0, .string ⟨#[]⟩] 53 (0, 0)) from by simpa using hx5_2)
              have hz5 : (((W3.setCell ⟨x4, 1, none⟩ (.int .i64 p.n)).setCell ⟨x4, 5, none⟩ (.string p2.s))).drew.heap[r]? = _ := hz5_2
              have hb5 := (hb5_2).drew
              clear hx5_1 hz5_1 hb5_1 hx5_2 hz5_2 hb5_2
              generalize ((W3.setCell ⟨x4, 1, none⟩ (.int .i64 p.n)).setCell ⟨x4, 5, none⟩ (.string p2.s)).drew = W5 at hx5 hz5 hb5 ⊢
              obtain ⟨e0, e1, e2, e3, e4, e5, e6, e7, e8⟩ := box9 hx5
              obtain ⟨d0, d1, d2, d3, d4, d5, d6, d7, d8⟩ := box9 hz5
              obtain ⟨f0, f1, f2, f3, f4, f5, f6, f7, f8⟩ := fr9 hz5
              have H5 := Lib.hid (And.intro hb5 hz5)
              clear hx5 hz5 hb5
              go_wp2_with (fail)
              have hR := set9 H5.out.2 (.int .i64 6) (.int .i64 p.n) (.int .i64 0) (.string ⟨#[]⟩) (.int .i64 0) (.string p2.s) (.int .i64 0) (.int .i64 0) (.string ⟨#[]⟩)
              have hL := below_set9 (show Below r w W5 from HR0.out.1 ▸ H5.out.1) (Nat.le_refl _) (.int .i64 6) (.int .i64 p.n) (.int .i64 0) (.string ⟨#[]⟩) (.int .i64 0) (.string p2.s) (.int .i64 0) (.int .i64 0) (.string ⟨#[]⟩)
              generalize (((((((((W5.setCell ⟨r, 0, none⟩ (.int .i64 6)).setCell ⟨r, 1, none⟩ (.int .i64 p.n)).setCell ⟨r, 2, none⟩ (.int .i64 0)).setCell ⟨r, 3, none⟩ (.string ⟨#[]⟩)).setCell ⟨r, 4, none⟩ (.int .i64 0)).setCell ⟨r, 5, none⟩ (.string p2.s)).setCell ⟨r, 6, none⟩ (.int .i64 0)).setCell ⟨r, 7, none⟩ (.int .i64 0)).setCell ⟨r, 8, none⟩ (.string ⟨#[]⟩)) = wX at hR hL ⊢
              exact bodyPost_ret (resOK hR _ rfl) rfl ⟨by rw [HOF.out]; rfl, by have h := hL; rw [HR0.out.1] at h; exact h⟩
          · have h0 : kLen k = 0 := by unfold kLen; rw [if_neg h12, if_neg h34, if_neg h56]
            have h1 := HQ.out
            omega
    · have hbe : ((m : Int) + 1 != (q : Int)) = true := by rw [bne_iff_ne]; omega
      have HN := Lib.hid (show ofK (a :: ks) = none from ofK_len (by rw [← HR.out.2, ← HQ.out]; exact hmq))
      go_upto_region 5 with (go_at_call 70; (with_reducible refine HKO.out.mono ?_); rintro e W3 ⟨A3, c3, rfl, b3⟩; have B3 := Lib.hid b3; clear b3)
      clear e0 e1 e2 e3 e4 e5 e6 e7 e8 HKO hbe
      have hz3 := (B3.out.block r (heap_lt HB2.out.2.1)).trans HB2.out.2.1
      have hb3 : Below w.heap.size w W3 := HB2.out.1.trans (lower' B3.out HB2.out.1.size)
      obtain ⟨e0, e1, e2, e3, e4, e5, e6, e7, e8⟩ := box9 hz3
      obtain ⟨f0, f1, f2, f3, f4, f5, f6, f7, f8⟩ := fr9 hz3
      have HB3 := Lib.hid (And.intro hb3 hz3)
      clear hb3 hz3 HB2 B3
      go_wp2_with (fail)
      have hR := set9 HB3.out.2 (.int .i64 0) (.int .i64 0) (.int .i64 0) (.string ⟨#[]⟩) (.int .i64 0) (.string ⟨#[]⟩) (.int .i64 0) (.int .i64 0) (.string ⟨#[]⟩)
      have hL := below_set9 (show Below r w W3 from HR0.out.1 ▸ HB3.out.1) (Nat.le_refl _) (.int .i64 0) (.int .i64 0) (.int .i64 0) (.string ⟨#[]⟩) (.int .i64 0) (.string ⟨#[]⟩) (.int .i64 0) (.int .i64 0) (.string ⟨#[]⟩)
      generalize (((((((((W3.setCell ⟨r, 0, none⟩ (.int .i64 0)).setCell ⟨r, 1, none⟩ (.int .i64 0)).setCell ⟨r, 2, none⟩ (.int .i64 0)).setCell ⟨r, 3, none⟩ (.string ⟨#[]⟩)).setCell ⟨r, 4, none⟩ (.int .i64 0)).setCell ⟨r, 5, none⟩ (.string ⟨#[]⟩)).setCell ⟨r, 6, none⟩ (.int .i64 0)).setCell ⟨r, 7, none⟩ (.int .i64 0)).setCell ⟨r, 8, none⟩ (.string ⟨#[]⟩)) = wX at hR hL ⊢
      exact bodyPost_ret (resOK hR _ rfl) rfl ⟨by rw [HN.out]; rfl, by have h := hL; rw [HR0.out.1] at h; exact h⟩
end Go.Proofs.YtgjjdmkoamjdpaaGreatDoor
