/- The key of a change in form. -/
import Derived.Test.YtgjjdmkoamjdpaaGreatDoorRcA
import Derived.Test.YtgjjdmkoamjdpaaGreatDoorKeyD
import Derived.Test.YtgjjdmkoamjdpaaGreatDoorOrdM
import Derived.Deep.CutRange
namespace Go.Proofs.YtgjjdmkoamjdpaaGreatDoor
open Go.RowKit Go.Maps

theorem bel_alloc {W W1 : World} (h : Below W.heap.size W W1) (o : Obj) : Below W.heap.size W (W1.alloc o) := h.alloc h.size o
def numK (n : Int) : KPart := ⟨false, ⟨#[]⟩, n⟩
def strK (s : ByteArray) : KPart := ⟨true, s, 0⟩
/-- A change's key. -/
def keyL (c : ChV) : List KPart :=
  if c.kind = 1 ∨ c.kind = 2 then [numK c.kind, numK c.node]
  else if c.kind = 3 ∨ c.kind = 4 then [numK c.kind, numK c.ef, strK c.lab, numK c.et]
  else [numK c.kind, numK c.node, strK c.key]
def KoPost (w : World) (ks : List KPart) (e : Ending) (w' : World) : Prop := ∃ A c, e = .returned (.slice A ks.length c) ∧ Rd w' w'.heap.size A (pcs ks) ∧ ks.length ≤ c ∧ c ≤ 100 ∧ Below w.heap.size w w'
set_option maxRecDepth 100000 in
set_option maxHeartbeats 4000000 in
theorem keyOf_any (c : ChV) (w : World) (hk : 1 ≤ c.kind ∧ c.kind ≤ 6) : Calls Tryz.prog 70 #[.agg c.cells] w (KoPost w (keyL c)) := by
  obtain ⟨k, n, ef, lab, et, key, vk, vn, vs⟩ := c
  have hb0 : Below w.heap.size w (w.alloc (.cells #[.int .i64 k, .int .i64 n, .int .i64 ef, .string lab, .int .i64 et, .string key, .int .i64 vk, .int .i64 vn, .string vs] 53)) := (Below.refl _ _).alloc (Nat.le_refl _) _
  have hx0 := heap_alloc_new w (.cells #[.int .i64 k, .int .i64 n, .int .i64 ef, .string lab, .int .i64 et, .string key, .int .i64 vk, .int .i64 vn, .string vs] 53)
  obtain ⟨c0, c1, c2, c3, c4, c5, c6, c7, c8⟩ := box9 hx0
  have HB := Lib.hid (And.intro hb0 hx0)
  have HN := Lib.hid num_any
  have HS := Lib.hid str_any
  clear hb0 hx0
  dsimp only [ChV.cells] at hk ⊢
  by_cases h12 : k = 1 ∨ k = 2
  · have hv : keyL ⟨k, n, ef, lab, et, key, vk, vn, vs⟩ = [numK k, numK n] := by unfold keyL; rw [if_pos h12]
    rw [hv]
    clear hv hk
    rcases h12 with hk1 | hk1
    · subst hk1
      go_enter Tryz.func70, Tryz.ntmps70
      go_upto_region 2 with (go_at_call 85; (with_reducible refine (HN.out _ _).mono ?_); rintro e w1 ⟨rfl, b1⟩)
      have hx1 := (b1.block w.heap.size (by simp)).trans HB.out.2
      have hx2 := ((Below.refl w1.heap.size w1).alloc (Nat.le_refl _) (.cells #[.bool false, .string ⟨#[]⟩, .int .i64 1] 150)).block w.heap.size (heap_lt hx1)
      rw [hx1] at hx2
      have hp2 := heap_alloc_new w1 (.cells #[.bool false, .string ⟨#[]⟩, .int .i64 1] 150)
      have hb2 : Below w.heap.size w (w1.alloc (.cells #[.bool false, .string ⟨#[]⟩, .int .i64 1] 150)) := (HB.out.1.trans (lower' b1 HB.out.1.size)).alloc (HB.out.1.trans (lower' b1 HB.out.1.size)).size _
      generalize w1.alloc (.cells #[.bool false, .string ⟨#[]⟩, .int .i64 1] 150) = W2 at hx2 hp2 hb2 ⊢
      generalize w1.heap.size = P at hp2 ⊢
      clear c0 c1 c2 c3 c4 c5 c6 c7 c8 hx1 b1
      obtain ⟨c0, c1, c2, c3, c4, c5, -⟩ := box9 hx2
      have KS := Lib.hid fun W (h : Below W2.heap.size W2 W) => (⟨cell_of_row _ _ 0 _ _ _ ((h.block _ (heap_lt hp2)).trans hp2), cell_of_row _ _ 1 _ _ _ ((h.block _ (heap_lt hp2)).trans hp2), cell_of_row _ _ 2 _ _ _ ((h.block _ (heap_lt hp2)).trans hp2), cell_of_row _ _ 1 _ _ _ ((h.block _ (heap_lt hx2)).trans hx2)⟩ : W.cell? ⟨P, 0, none⟩ = some (.bool false) ∧ W.cell? ⟨P, 1, none⟩ = some (.string ⟨#[]⟩) ∧ W.cell? ⟨P, 2, none⟩ = some (.int .i64 1) ∧ W.cell? ⟨w.heap.size, 1, none⟩ = some (.int .i64 n))
      go_upto_region 5 with (fail)
      clear c0 c1 c2 c3 c4 c5
      have hbd : Below W2.heap.size W2 W2.drew := (Below.refl _ _).drew
      have HB2 := Lib.hid hb2
      clear hb2 hx2 hp2
      go_region_held3 (fun W => W.cell? ⟨P, 0, none⟩ = some (.bool false) ∧ W.cell? ⟨P, 1, none⟩ = some (.string ⟨#[]⟩) ∧ W.cell? ⟨P, 2, none⟩ = some (.int .i64 1) ∧ W.cell? ⟨w.heap.size, 1, none⟩ = some (.int .i64 n)) (first | with_reducible assumption | exact KS.out _ (by with_reducible assumption) | exact KS.out _ (bel_alloc (by with_reducible assumption) _)) (first
        | (go_at_call 85; (with_reducible refine ((show Calls Tryz.prog 85 #[.int .i64 n] _ _ from HN.out _ _)).mono ?_); rintro e w3 ⟨rfl, b3⟩; have hb3 : Below W2.heap.size W2 w3 := Below.trans (by with_reducible assumption) (lower' b3 (by first | exact hb3.size | exact hb4.size | exact hb5.size | exact hbd.size))))
      all_goals
        go_wp2_with (fail)
        go_ret
        exact ⟨_, _, rfl, (by rw [alloc1_size]; exact Rd.new _ _ _ _), by simp, by simp, HB2.out.trans (lower' (bel_alloc (by with_reducible assumption) _) HB2.out.size)⟩
    · subst hk1
      go_enter Tryz.func70, Tryz.ntmps70
      go_upto_region 2 with (go_at_call 85; (with_reducible refine (HN.out _ _).mono ?_); rintro e w1 ⟨rfl, b1⟩)
      have hx1 := (b1.block w.heap.size (by simp)).trans HB.out.2
      have hx2 := ((Below.refl w1.heap.size w1).alloc (Nat.le_refl _) (.cells #[.bool false, .string ⟨#[]⟩, .int .i64 2] 150)).block w.heap.size (heap_lt hx1)
      rw [hx1] at hx2
      have hp2 := heap_alloc_new w1 (.cells #[.bool false, .string ⟨#[]⟩, .int .i64 2] 150)
      have hb2 : Below w.heap.size w (w1.alloc (.cells #[.bool false, .string ⟨#[]⟩, .int .i64 2] 150)) := (HB.out.1.trans (lower' b1 HB.out.1.size)).alloc (HB.out.1.trans (lower' b1 HB.out.1.size)).size _
      generalize w1.alloc (.cells #[.bool false, .string ⟨#[]⟩, .int .i64 2] 150) = W2 at hx2 hp2 hb2 ⊢
      generalize w1.heap.size = P at hp2 ⊢
      clear c0 c1 c2 c3 c4 c5 c6 c7 c8 hx1 b1
      obtain ⟨c0, c1, c2, c3, c4, c5, -⟩ := box9 hx2
      have KS := Lib.hid fun W (h : Below W2.heap.size W2 W) => (⟨cell_of_row _ _ 0 _ _ _ ((h.block _ (heap_lt hp2)).trans hp2), cell_of_row _ _ 1 _ _ _ ((h.block _ (heap_lt hp2)).trans hp2), cell_of_row _ _ 2 _ _ _ ((h.block _ (heap_lt hp2)).trans hp2), cell_of_row _ _ 1 _ _ _ ((h.block _ (heap_lt hx2)).trans hx2)⟩ : W.cell? ⟨P, 0, none⟩ = some (.bool false) ∧ W.cell? ⟨P, 1, none⟩ = some (.string ⟨#[]⟩) ∧ W.cell? ⟨P, 2, none⟩ = some (.int .i64 2) ∧ W.cell? ⟨w.heap.size, 1, none⟩ = some (.int .i64 n))
      go_upto_region 5 with (fail)
      clear c0 c1 c2 c3 c4 c5
      have hbd : Below W2.heap.size W2 W2.drew := (Below.refl _ _).drew
      have HB2 := Lib.hid hb2
      clear hb2 hx2 hp2
      go_region_held3 (fun W => W.cell? ⟨P, 0, none⟩ = some (.bool false) ∧ W.cell? ⟨P, 1, none⟩ = some (.string ⟨#[]⟩) ∧ W.cell? ⟨P, 2, none⟩ = some (.int .i64 2) ∧ W.cell? ⟨w.heap.size, 1, none⟩ = some (.int .i64 n)) (first | with_reducible assumption | exact KS.out _ (by with_reducible assumption) | exact KS.out _ (bel_alloc (by with_reducible assumption) _)) (first
        | (go_at_call 85; (with_reducible refine ((show Calls Tryz.prog 85 #[.int .i64 n] _ _ from HN.out _ _)).mono ?_); rintro e w3 ⟨rfl, b3⟩; have hb3 : Below W2.heap.size W2 w3 := Below.trans (by with_reducible assumption) (lower' b3 (by first | exact hb3.size | exact hb4.size | exact hb5.size | exact hbd.size))))
      all_goals
        go_wp2_with (fail)
        go_ret
        exact ⟨_, _, rfl, (by rw [alloc1_size]; exact Rd.new _ _ _ _), by simp, by simp, HB2.out.trans (lower' (bel_alloc (by with_reducible assumption) _) HB2.out.size)⟩
  · by_cases h34 : k = 3 ∨ k = 4
    · have hv : keyL ⟨k, n, ef, lab, et, key, vk, vn, vs⟩ = [numK k, numK ef, strK lab, numK et] := by unfold keyL; rw [if_neg h12, if_pos h34]
      rw [hv]
      have g1 : (k == 1) = false := beq_eq_false_iff_ne.2 fun e => h12 (.inl e)
      have g2 : (k == 2) = false := beq_eq_false_iff_ne.2 fun e => h12 (.inr e)
      clear hv hk h12
      rcases h34 with hk1 | hk1
      · subst hk1
        go_enter Tryz.func70, Tryz.ntmps70
        go_upto_region 2 with (go_at_call 85; (with_reducible refine (HN.out _ _).mono ?_); rintro e w1 ⟨rfl, b1⟩)
        have hx1 := (b1.block w.heap.size (by simp)).trans HB.out.2
        have hx2 := ((Below.refl w1.heap.size w1).alloc (Nat.le_refl _) (.cells #[.bool false, .string ⟨#[]⟩, .int .i64 3] 150)).block w.heap.size (heap_lt hx1)
        rw [hx1] at hx2
        have hp2 := heap_alloc_new w1 (.cells #[.bool false, .string ⟨#[]⟩, .int .i64 3] 150)
        have hb2 : Below w.heap.size w (w1.alloc (.cells #[.bool false, .string ⟨#[]⟩, .int .i64 3] 150)) := (HB.out.1.trans (lower' b1 HB.out.1.size)).alloc (HB.out.1.trans (lower' b1 HB.out.1.size)).size _
        generalize w1.alloc (.cells #[.bool false, .string ⟨#[]⟩, .int .i64 3] 150) = W2 at hx2 hp2 hb2 ⊢
        generalize w1.heap.size = P at hp2 ⊢
        clear c0 c1 c2 c3 c4 c5 c6 c7 c8 hx1 b1
        obtain ⟨c0, c1, c2, c3, c4, c5, -⟩ := box9 hx2
        have KS := Lib.hid fun W (h : Below W2.heap.size W2 W) => (⟨cell_of_row _ _ 0 _ _ _ ((h.block _ (heap_lt hp2)).trans hp2), cell_of_row _ _ 1 _ _ _ ((h.block _ (heap_lt hp2)).trans hp2), cell_of_row _ _ 2 _ _ _ ((h.block _ (heap_lt hp2)).trans hp2), cell_of_row _ _ 2 _ _ _ ((h.block _ (heap_lt hx2)).trans hx2), cell_of_row _ _ 3 _ _ _ ((h.block _ (heap_lt hx2)).trans hx2), cell_of_row _ _ 4 _ _ _ ((h.block _ (heap_lt hx2)).trans hx2)⟩ : W.cell? ⟨P, 0, none⟩ = some (.bool false) ∧ W.cell? ⟨P, 1, none⟩ = some (.string ⟨#[]⟩) ∧ W.cell? ⟨P, 2, none⟩ = some (.int .i64 3) ∧ W.cell? ⟨w.heap.size, 2, none⟩ = some (.int .i64 ef) ∧ W.cell? ⟨w.heap.size, 3, none⟩ = some (.string lab) ∧ W.cell? ⟨w.heap.size, 4, none⟩ = some (.int .i64 et))
        go_upto_region 8 with (fail)
        clear c0 c1 c2 c3 c4 c5
        have hbd : Below W2.heap.size W2 W2.drew := (Below.refl _ _).drew
        have HB2 := Lib.hid hb2
        clear hb2 hx2 hp2
        go_region_held3 (fun W => W.cell? ⟨P, 0, none⟩ = some (.bool false) ∧ W.cell? ⟨P, 1, none⟩ = some (.string ⟨#[]⟩) ∧ W.cell? ⟨P, 2, none⟩ = some (.int .i64 3) ∧ W.cell? ⟨w.heap.size, 2, none⟩ = some (.int .i64 ef) ∧ W.cell? ⟨w.heap.size, 3, none⟩ = some (.string lab) ∧ W.cell? ⟨w.heap.size, 4, none⟩ = some (.int .i64 et)) (first | with_reducible assumption | exact KS.out _ (by with_reducible assumption) | exact KS.out _ (bel_alloc (by with_reducible assumption) _)) (first
          | (go_at_call 85; (with_reducible refine ((show Calls Tryz.prog 85 #[.int .i64 ef] _ _ from HN.out _ _)).mono ?_); rintro e w3 ⟨rfl, b3⟩; have hb3 : Below W2.heap.size W2 w3 := Below.trans (by with_reducible assumption) (lower' b3 (by first | exact hb3.size | exact hb4.size | exact hb5.size | exact hbd.size)))
          | (go_at_call 86; (with_reducible refine ((show Calls Tryz.prog 86 #[.string lab] _ _ from HS.out _ _)).mono ?_); rintro e w4 ⟨rfl, b4⟩; have hb4 : Below W2.heap.size W2 w4 := Below.trans (by with_reducible assumption) (lower' b4 (by first | exact hb3.size | exact hb4.size | exact hb5.size | exact hbd.size)))
          | (go_at_call 85; (with_reducible refine ((show Calls Tryz.prog 85 #[.int .i64 et] _ _ from HN.out _ _)).mono ?_); rintro e w5 ⟨rfl, b5⟩; have hb5 : Below W2.heap.size W2 w5 := Below.trans (by with_reducible assumption) (lower' b5 (by first | exact hb3.size | exact hb4.size | exact hb5.size | exact hbd.size))))
        all_goals
          go_wp2_with (fail)
          go_ret
          exact ⟨_, _, rfl, (by rw [alloc1_size]; exact Rd.new _ _ _ _), by simp, by simp, HB2.out.trans (lower' (bel_alloc (by with_reducible assumption) _) HB2.out.size)⟩
      · subst hk1
        go_enter Tryz.func70, Tryz.ntmps70
        go_upto_region 2 with (go_at_call 85; (with_reducible refine (HN.out _ _).mono ?_); rintro e w1 ⟨rfl, b1⟩)
        have hx1 := (b1.block w.heap.size (by simp)).trans HB.out.2
        have hx2 := ((Below.refl w1.heap.size w1).alloc (Nat.le_refl _) (.cells #[.bool false, .string ⟨#[]⟩, .int .i64 4] 150)).block w.heap.size (heap_lt hx1)
        rw [hx1] at hx2
        have hp2 := heap_alloc_new w1 (.cells #[.bool false, .string ⟨#[]⟩, .int .i64 4] 150)
        have hb2 : Below w.heap.size w (w1.alloc (.cells #[.bool false, .string ⟨#[]⟩, .int .i64 4] 150)) := (HB.out.1.trans (lower' b1 HB.out.1.size)).alloc (HB.out.1.trans (lower' b1 HB.out.1.size)).size _
        generalize w1.alloc (.cells #[.bool false, .string ⟨#[]⟩, .int .i64 4] 150) = W2 at hx2 hp2 hb2 ⊢
        generalize w1.heap.size = P at hp2 ⊢
        clear c0 c1 c2 c3 c4 c5 c6 c7 c8 hx1 b1
        obtain ⟨c0, c1, c2, c3, c4, c5, -⟩ := box9 hx2
        have KS := Lib.hid fun W (h : Below W2.heap.size W2 W) => (⟨cell_of_row _ _ 0 _ _ _ ((h.block _ (heap_lt hp2)).trans hp2), cell_of_row _ _ 1 _ _ _ ((h.block _ (heap_lt hp2)).trans hp2), cell_of_row _ _ 2 _ _ _ ((h.block _ (heap_lt hp2)).trans hp2), cell_of_row _ _ 2 _ _ _ ((h.block _ (heap_lt hx2)).trans hx2), cell_of_row _ _ 3 _ _ _ ((h.block _ (heap_lt hx2)).trans hx2), cell_of_row _ _ 4 _ _ _ ((h.block _ (heap_lt hx2)).trans hx2)⟩ : W.cell? ⟨P, 0, none⟩ = some (.bool false) ∧ W.cell? ⟨P, 1, none⟩ = some (.string ⟨#[]⟩) ∧ W.cell? ⟨P, 2, none⟩ = some (.int .i64 4) ∧ W.cell? ⟨w.heap.size, 2, none⟩ = some (.int .i64 ef) ∧ W.cell? ⟨w.heap.size, 3, none⟩ = some (.string lab) ∧ W.cell? ⟨w.heap.size, 4, none⟩ = some (.int .i64 et))
        go_upto_region 8 with (fail)
        clear c0 c1 c2 c3 c4 c5
        have hbd : Below W2.heap.size W2 W2.drew := (Below.refl _ _).drew
        have HB2 := Lib.hid hb2
        clear hb2 hx2 hp2
        go_region_held3 (fun W => W.cell? ⟨P, 0, none⟩ = some (.bool false) ∧ W.cell? ⟨P, 1, none⟩ = some (.string ⟨#[]⟩) ∧ W.cell? ⟨P, 2, none⟩ = some (.int .i64 4) ∧ W.cell? ⟨w.heap.size, 2, none⟩ = some (.int .i64 ef) ∧ W.cell? ⟨w.heap.size, 3, none⟩ = some (.string lab) ∧ W.cell? ⟨w.heap.size, 4, none⟩ = some (.int .i64 et)) (first | with_reducible assumption | exact KS.out _ (by with_reducible assumption) | exact KS.out _ (bel_alloc (by with_reducible assumption) _)) (first
          | (go_at_call 85; (with_reducible refine ((show Calls Tryz.prog 85 #[.int .i64 ef] _ _ from HN.out _ _)).mono ?_); rintro e w3 ⟨rfl, b3⟩; have hb3 : Below W2.heap.size W2 w3 := Below.trans (by with_reducible assumption) (lower' b3 (by first | exact hb3.size | exact hb4.size | exact hb5.size | exact hbd.size)))
          | (go_at_call 86; (with_reducible refine ((show Calls Tryz.prog 86 #[.string lab] _ _ from HS.out _ _)).mono ?_); rintro e w4 ⟨rfl, b4⟩; have hb4 : Below W2.heap.size W2 w4 := Below.trans (by with_reducible assumption) (lower' b4 (by first | exact hb3.size | exact hb4.size | exact hb5.size | exact hbd.size)))
          | (go_at_call 85; (with_reducible refine ((show Calls Tryz.prog 85 #[.int .i64 et] _ _ from HN.out _ _)).mono ?_); rintro e w5 ⟨rfl, b5⟩; have hb5 : Below W2.heap.size W2 w5 := Below.trans (by with_reducible assumption) (lower' b5 (by first | exact hb3.size | exact hb4.size | exact hb5.size | exact hbd.size))))
        all_goals
          go_wp2_with (fail)
          go_ret
          exact ⟨_, _, rfl, (by rw [alloc1_size]; exact Rd.new _ _ _ _), by simp, by simp, HB2.out.trans (lower' (bel_alloc (by with_reducible assumption) _) HB2.out.size)⟩
    · have hv : keyL ⟨k, n, ef, lab, et, key, vk, vn, vs⟩ = [numK k, numK n, strK key] := by unfold keyL; rw [if_neg h12, if_neg h34]
      rw [hv]
      have h56 : k = 5 ∨ k = 6 := by omega
      have g1 : (k == 1) = false := beq_eq_false_iff_ne.2 fun e => h12 (.inl e)
      have g2 : (k == 2) = false := beq_eq_false_iff_ne.2 fun e => h12 (.inr e)
      have g3 : (k == 3) = false := beq_eq_false_iff_ne.2 fun e => h34 (.inl e)
      have g4 : (k == 4) = false := beq_eq_false_iff_ne.2 fun e => h34 (.inr e)
      clear hv hk h12 h34
      rcases h56 with hk1 | hk1
      · subst hk1
        go_enter Tryz.func70, Tryz.ntmps70
        go_upto_region 2 with (go_at_call 85; (with_reducible refine (HN.out _ _).mono ?_); rintro e w1 ⟨rfl, b1⟩)
        have hx1 := (b1.block w.heap.size (by simp)).trans HB.out.2
        have hx2 := ((Below.refl w1.heap.size w1).alloc (Nat.le_refl _) (.cells #[.bool false, .string ⟨#[]⟩, .int .i64 5] 150)).block w.heap.size (heap_lt hx1)
        rw [hx1] at hx2
        have hp2 := heap_alloc_new w1 (.cells #[.bool false, .string ⟨#[]⟩, .int .i64 5] 150)
        have hb2 : Below w.heap.size w (w1.alloc (.cells #[.bool false, .string ⟨#[]⟩, .int .i64 5] 150)) := (HB.out.1.trans (lower' b1 HB.out.1.size)).alloc (HB.out.1.trans (lower' b1 HB.out.1.size)).size _
        generalize w1.alloc (.cells #[.bool false, .string ⟨#[]⟩, .int .i64 5] 150) = W2 at hx2 hp2 hb2 ⊢
        generalize w1.heap.size = P at hp2 ⊢
        clear c0 c1 c2 c3 c4 c5 c6 c7 c8 hx1 b1
        obtain ⟨c0, c1, c2, c3, c4, c5, -⟩ := box9 hx2
        have KS := Lib.hid fun W (h : Below W2.heap.size W2 W) => (⟨cell_of_row _ _ 0 _ _ _ ((h.block _ (heap_lt hp2)).trans hp2), cell_of_row _ _ 1 _ _ _ ((h.block _ (heap_lt hp2)).trans hp2), cell_of_row _ _ 2 _ _ _ ((h.block _ (heap_lt hp2)).trans hp2), cell_of_row _ _ 1 _ _ _ ((h.block _ (heap_lt hx2)).trans hx2), cell_of_row _ _ 5 _ _ _ ((h.block _ (heap_lt hx2)).trans hx2)⟩ : W.cell? ⟨P, 0, none⟩ = some (.bool false) ∧ W.cell? ⟨P, 1, none⟩ = some (.string ⟨#[]⟩) ∧ W.cell? ⟨P, 2, none⟩ = some (.int .i64 5) ∧ W.cell? ⟨w.heap.size, 1, none⟩ = some (.int .i64 n) ∧ W.cell? ⟨w.heap.size, 5, none⟩ = some (.string key))
        go_upto_region 11 with (fail)
        clear c0 c1 c2 c3 c4 c5
        have hbd : Below W2.heap.size W2 W2.drew := (Below.refl _ _).drew
        have HB2 := Lib.hid hb2
        clear hb2 hx2 hp2
        go_region_held3 (fun W => W.cell? ⟨P, 0, none⟩ = some (.bool false) ∧ W.cell? ⟨P, 1, none⟩ = some (.string ⟨#[]⟩) ∧ W.cell? ⟨P, 2, none⟩ = some (.int .i64 5) ∧ W.cell? ⟨w.heap.size, 1, none⟩ = some (.int .i64 n) ∧ W.cell? ⟨w.heap.size, 5, none⟩ = some (.string key)) (first | with_reducible assumption | exact KS.out _ (by with_reducible assumption) | exact KS.out _ (bel_alloc (by with_reducible assumption) _)) (first
          | (go_at_call 85; (with_reducible refine ((show Calls Tryz.prog 85 #[.int .i64 n] _ _ from HN.out _ _)).mono ?_); rintro e w3 ⟨rfl, b3⟩; have hb3 : Below W2.heap.size W2 w3 := Below.trans (by with_reducible assumption) (lower' b3 (by first | exact hb3.size | exact hb4.size | exact hb5.size | exact hbd.size)))
          | (go_at_call 86; (with_reducible refine ((show Calls Tryz.prog 86 #[.string key] _ _ from HS.out _ _)).mono ?_); rintro e w4 ⟨rfl, b4⟩; have hb4 : Below W2.heap.size W2 w4 := Below.trans (by with_reducible assumption) (lower' b4 (by first | exact hb3.size | exact hb4.size | exact hb5.size | exact hbd.size))))
        all_goals
          go_wp2_with (fail)
          go_ret
          exact ⟨_, _, rfl, (by rw [alloc1_size]; exact Rd.new _ _ _ _), by simp, by simp, HB2.out.trans (lower' (bel_alloc (by with_reducible assumption) _) HB2.out.size)⟩
      · subst hk1
        go_enter Tryz.func70, Tryz.ntmps70
        go_upto_region 2 with (go_at_call 85; (with_reducible refine (HN.out _ _).mono ?_); rintro e w1 ⟨rfl, b1⟩)
        have hx1 := (b1.block w.heap.size (by simp)).trans HB.out.2
        have hx2 := ((Below.refl w1.heap.size w1).alloc (Nat.le_refl _) (.cells #[.bool false, .string ⟨#[]⟩, .int .i64 6] 150)).block w.heap.size (heap_lt hx1)
        rw [hx1] at hx2
        have hp2 := heap_alloc_new w1 (.cells #[.bool false, .string ⟨#[]⟩, .int .i64 6] 150)
        have hb2 : Below w.heap.size w (w1.alloc (.cells #[.bool false, .string ⟨#[]⟩, .int .i64 6] 150)) := (HB.out.1.trans (lower' b1 HB.out.1.size)).alloc (HB.out.1.trans (lower' b1 HB.out.1.size)).size _
        generalize w1.alloc (.cells #[.bool false, .string ⟨#[]⟩, .int .i64 6] 150) = W2 at hx2 hp2 hb2 ⊢
        generalize w1.heap.size = P at hp2 ⊢
        clear c0 c1 c2 c3 c4 c5 c6 c7 c8 hx1 b1
        obtain ⟨c0, c1, c2, c3, c4, c5, -⟩ := box9 hx2
        have KS := Lib.hid fun W (h : Below W2.heap.size W2 W) => (⟨cell_of_row _ _ 0 _ _ _ ((h.block _ (heap_lt hp2)).trans hp2), cell_of_row _ _ 1 _ _ _ ((h.block _ (heap_lt hp2)).trans hp2), cell_of_row _ _ 2 _ _ _ ((h.block _ (heap_lt hp2)).trans hp2), cell_of_row _ _ 1 _ _ _ ((h.block _ (heap_lt hx2)).trans hx2), cell_of_row _ _ 5 _ _ _ ((h.block _ (heap_lt hx2)).trans hx2)⟩ : W.cell? ⟨P, 0, none⟩ = some (.bool false) ∧ W.cell? ⟨P, 1, none⟩ = some (.string ⟨#[]⟩) ∧ W.cell? ⟨P, 2, none⟩ = some (.int .i64 6) ∧ W.cell? ⟨w.heap.size, 1, none⟩ = some (.int .i64 n) ∧ W.cell? ⟨w.heap.size, 5, none⟩ = some (.string key))
        go_upto_region 11 with (fail)
        clear c0 c1 c2 c3 c4 c5
        have hbd : Below W2.heap.size W2 W2.drew := (Below.refl _ _).drew
        have HB2 := Lib.hid hb2
        clear hb2 hx2 hp2
        go_region_held3 (fun W => W.cell? ⟨P, 0, none⟩ = some (.bool false) ∧ W.cell? ⟨P, 1, none⟩ = some (.string ⟨#[]⟩) ∧ W.cell? ⟨P, 2, none⟩ = some (.int .i64 6) ∧ W.cell? ⟨w.heap.size, 1, none⟩ = some (.int .i64 n) ∧ W.cell? ⟨w.heap.size, 5, none⟩ = some (.string key)) (first | with_reducible assumption | exact KS.out _ (by with_reducible assumption) | exact KS.out _ (bel_alloc (by with_reducible assumption) _)) (first
          | (go_at_call 85; (with_reducible refine ((show Calls Tryz.prog 85 #[.int .i64 n] _ _ from HN.out _ _)).mono ?_); rintro e w3 ⟨rfl, b3⟩; have hb3 : Below W2.heap.size W2 w3 := Below.trans (by with_reducible assumption) (lower' b3 (by first | exact hb3.size | exact hb4.size | exact hb5.size | exact hbd.size)))
          | (go_at_call 86; (with_reducible refine ((show Calls Tryz.prog 86 #[.string key] _ _ from HS.out _ _)).mono ?_); rintro e w4 ⟨rfl, b4⟩; have hb4 : Below W2.heap.size W2 w4 := Below.trans (by with_reducible assumption) (lower' b4 (by first | exact hb3.size | exact hb4.size | exact hb5.size | exact hbd.size))))
        all_goals
          go_wp2_with (fail)
          go_ret
          exact ⟨_, _, rfl, (by rw [alloc1_size]; exact Rd.new _ _ _ _), by simp, by simp, HB2.out.trans (lower' (bel_alloc (by with_reducible assumption) _) HB2.out.size)⟩
end Go.Proofs.YtgjjdmkoamjdpaaGreatDoor
