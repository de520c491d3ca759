/- The reference's order. -/
import Derived.Test.YtinhmchekdolmaaDoorProg
import Derived.Test.YtinhmchekdolmaaDoorValS
import Derived.WalkKit
import Derived.WalkSpells
import Derived.WalkLawsBesides
import Derived.Deep.QuietTactic
import Derived.BigQuiet
import Derived.KernelRfl
import Derived.Lib.Hide
namespace Go.Proofs.YtinhmchekdolmaaDoor
open Go.RowKit

theorem other3 (w : World) (b k : Nat) (v0 v1 v2 : Value) (h : k ≠ b) : (((w.setCell ⟨b, 0, none⟩ v0).setCell ⟨b, 1, none⟩ v1).setCell ⟨b, 2, none⟩ v2).heap[k]? = w.heap[k]? := by
  rw [heap_setCell_other _ _ _ _ h, heap_setCell_other _ _ _ _ h, heap_setCell_other _ _ _ _ h]
theorem size3 (w : World) (b : Nat) (v0 v1 v2 : Value) : (((w.setCell ⟨b, 0, none⟩ v0).setCell ⟨b, 1, none⟩ v1).setCell ⟨b, 2, none⟩ v2).heap.size = w.heap.size := by
  rw [World.size_setCell, World.size_setCell, World.size_setCell]
theorem empty_size (s : ByteArray) (h : s = ⟨#[]⟩) : s.data.toList = [] := by subst h; rfl

set_option maxRecDepth 100000 in
set_option maxHeartbeats 1000000 in
theorem refCmp_any (a b : VVal) (w : World) :
    Calls Tryd.prog 25 #[.agg a.cells, .agg b.cells] w fun e w' => e = .returned (.int .i64 (vc a b)) ∧ Below w.heap.size w w' := by
  have hpa := fun W => plain_any a W
  have hpb := fun W => plain_any b W
  obtain ⟨k, n, s⟩ := a
  obtain ⟨l, m, t⟩ := b
  obtain ⟨⟨k', n', s'⟩, hA⟩ : ∃ p, p = plainV ⟨k, n, s⟩ := ⟨_, rfl⟩
  obtain ⟨⟨l', m', t'⟩, hBB⟩ : ∃ p, p = plainV ⟨l, m, t⟩ := ⟨_, rfl⟩
  rw [← hA] at hpa
  rw [← hBB] at hpb
  simp only [VVal.cells] at hpa hpb ⊢
  have HPA := Lib.hid hpa
  have HPB := Lib.hid hpb
  have HA := Lib.hid hA
  have HBB := Lib.hid hBB
  clear hpa hpb hA hBB
  have hB0 : Below w.heap.size w ((w.alloc (.cells #[.int .i64 k, .int .i64 n, .string s] 23)).alloc (.cells #[.int .i64 l, .int .i64 m, .string t] 23)) := ((Below.refl _ _).alloc (Nat.le_refl _) _).alloc (by simp) _
  have hg0 : ((w.alloc (.cells #[.int .i64 k, .int .i64 n, .string s] 23)).alloc (.cells #[.int .i64 l, .int .i64 m, .string t] 23)).heap[w.heap.size]? = some (.cells #[.int .i64 k, .int .i64 n, .string s] 23 (0, 0)) := by
    rw [Below.heap_alloc _ _ _ (by simp)]; exact heap_alloc_new w _
  have hg1 : ((w.alloc (.cells #[.int .i64 k, .int .i64 n, .string s] 23)).alloc (.cells #[.int .i64 l, .int .i64 m, .string t] 23)).heap[w.heap.size + 1]? = some (.cells #[.int .i64 l, .int .i64 m, .string t] 23 (0, 0)) := by
    have := heap_alloc_new (w.alloc (.cells #[.int .i64 k, .int .i64 n, .string s] 23)) (.cells #[.int .i64 l, .int .i64 m, .string t] 23)
    simpa using this
  have hz0 : ((w.alloc (.cells #[.int .i64 k, .int .i64 n, .string s] 23)).alloc (.cells #[.int .i64 l, .int .i64 m, .string t] 23)).heap.size = w.heap.size + 2 := by simp
  have HB0 := Lib.hid hB0
  have HG0 := Lib.hid hg0
  have HG1 := Lib.hid hg1
  have HZ0 := Lib.hid hz0
  clear hB0 hg0 hg1 hz0
  obtain ⟨X, hX⟩ : ∃ X, X = vc ⟨k, n, s⟩ ⟨l, m, t⟩ := ⟨_, rfl⟩
  rw [← hX]
  have HX := Lib.hid hX
  clear hX
  go_enter Tryd.func25, Tryd.ntmps25
  go_wp2_with fail
  refine (HPA.out _).mono ?_
  rintro e w1 ⟨rfl, hb1⟩
  have hg1 := (hb1.block w.heap.size (by rw [HZ0.out]; omega)).trans HG0.out
  have hh1 := (hb1.block (w.heap.size + 1) (by rw [HZ0.out]; omega)).trans HG1.out
  have hz1 : w.heap.size + 2 ≤ w1.heap.size := by have := hb1.size; rw [HZ0.out] at this; exact this
  have hB1 := HB0.out.trans (hb1.mono HB0.out.size)
  clear hb1
  have e0 := cell_of_row w1 w.heap.size 0 _ _ _ hg1
  have e1 := cell_of_row w1 w.heap.size 1 _ _ _ hg1
  have e2 := cell_of_row w1 w.heap.size 2 _ _ _ hg1
  have f0 := frozen_of_row w1 w.heap.size 0 _ _ hg1
  have f1 := frozen_of_row w1 w.heap.size 1 _ _ hg1
  have f2 := frozen_of_row w1 w.heap.size 2 _ _ hg1
  have d0 := cell_of_row w1 (w.heap.size + 1) 0 _ _ _ hh1
  have d1 := cell_of_row w1 (w.heap.size + 1) 1 _ _ _ hh1
  have d2 := cell_of_row w1 (w.heap.size + 1) 2 _ _ _ hh1
  go_wp2_with fail
  have hg2 := set3 hg1 (.int .i64 k') (.int .i64 n') (.string s')
  have hh2 := (other3 w1 w.heap.size (w.heap.size + 1) (.int .i64 k') (.int .i64 n') (.string s') (by omega)).trans hh1
  have hz2 := (size3 w1 w.heap.size (.int .i64 k') (.int .i64 n') (.string s')).symm
  have hB2 := below_set3 hB1 (Nat.le_refl _) (.int .i64 k') (.int .i64 n') (.string s')
  clear e0 e1 e2 f0 f1 f2 d0 d1 d2 hg1 hh1 hB1
  generalize ((w1.setCell ⟨w.heap.size, 0, none⟩ (.int .i64 k')).setCell ⟨w.heap.size, 1, none⟩ (.int .i64 n')).setCell ⟨w.heap.size, 2, none⟩ (.string s') = w2 at *
  refine (HPB.out _).mono ?_
  rintro e w3 ⟨rfl, hb3⟩
  have hg3 := (hb3.block w.heap.size (by omega)).trans hg2
  have hh3 := (hb3.block (w.heap.size + 1) (by omega)).trans hh2
  have hB3 := hB2.trans (hb3.mono (by omega))
  clear hb3 hg2 hh2 hB2 hz1 hz2
  have e0 := cell_of_row w3 w.heap.size 0 _ _ _ hg3
  have e1 := cell_of_row w3 w.heap.size 1 _ _ _ hg3
  have e2 := cell_of_row w3 w.heap.size 2 _ _ _ hg3
  have d0 := cell_of_row w3 (w.heap.size + 1) 0 _ _ _ hh3
  have d1 := cell_of_row w3 (w.heap.size + 1) 1 _ _ _ hh3
  have d2 := cell_of_row w3 (w.heap.size + 1) 2 _ _ _ hh3
  have f0 := frozen_of_row w3 (w.heap.size + 1) 0 _ _ hh3
  have f1 := frozen_of_row w3 (w.heap.size + 1) 1 _ _ hh3
  have f2 := frozen_of_row w3 (w.heap.size + 1) 2 _ _ hh3
  go_upto_region 3 with fail
  have hg4 := (other3 w3 (w.heap.size + 1) w.heap.size (.int .i64 l') (.int .i64 m') (.string t') (by omega)).trans hg3
  have hh4 := set3 hh3 (.int .i64 l') (.int .i64 m') (.string t')
  have hB4 := below_set3 (b := w.heap.size + 1) hB3 (by omega) (.int .i64 l') (.int .i64 m') (.string t')
  clear e0 e1 e2 f0 f1 f2 d0 d1 d2 hg3 hh3 hB3
  generalize ((w3.setCell ⟨w.heap.size + 1, 0, none⟩ (.int .i64 l')).setCell ⟨w.heap.size + 1, 1, none⟩ (.int .i64 m')).setCell ⟨w.heap.size + 1, 2, none⟩ (.string t') = w4 at *
  have e0 := cell_of_row w4 w.heap.size 0 _ _ _ hg4
  have e1 := cell_of_row w4 w.heap.size 1 _ _ _ hg4
  have e2 := cell_of_row w4 w.heap.size 2 _ _ _ hg4
  have d0 := cell_of_row w4 (w.heap.size + 1) 0 _ _ _ hh4
  have d1 := cell_of_row w4 (w.heap.size + 1) 1 _ _ _ hh4
  have d2 := cell_of_row w4 (w.heap.size + 1) 2 _ _ _ hh4
  clear hg4 hh4
  by_cases hkl : k = l
  · subst hkl
    by_cases h2 : k = 2
    · subst h2
      obtain ⟨rfl, rfl, rfl⟩ : k' = 2 ∧ n' = 0 ∧ s' = s := by have := HA.out; simpa [plainV] using this
      obtain ⟨rfl, rfl, rfl⟩ : l' = 2 ∧ m' = 0 ∧ t' = t := by have := HBB.out; simpa [plainV] using this
      have hc : Hid (X = Lib.compareBytes s'.data.toList t'.data.toList) := Lib.hid (by rw [HX.out]; simp [vc])
      have c1 := cbl s'.data.toList t'.data.toList
      have c3 := Lib.toList_data s'
      have c4 := Lib.toList_data t'
      clear HA HBB HPA HPB HB0 HG0 HG1 HZ0 HX
      rcases cb_range s'.data.toList t'.data.toList with h | h | h
      · have d1 : Op.bytesLess s'.toList t'.toList = true := by rw [c3, c4, c1, h]; rfl
        rw [h] at hc
        clear c1 c3 c4 h
        go_wp2
        go_ret
        exact ⟨by rw [hc.out]; rfl, hB4⟩
      · have d1 : Op.bytesLess s'.toList t'.toList = false := by rw [c3, c4, c1, h]; rfl
        have d2 : s'.toList = t'.toList := by rw [c3, c4]; exact cb_eq _ _ h
        rw [h] at hc
        clear c1 c3 c4 h
        rw [d2] at d1
        go_wp2
        go_ret
        exact ⟨by rw [hc.out]; rfl, hB4⟩
      · have d1 : Op.bytesLess s'.toList t'.toList = false := by rw [c3, c4, c1, h]; rfl
        have d2 : ¬ s'.toList = t'.toList := by rw [c3, c4]; intro e; rw [e, cb_self] at h; omega
        rw [h] at hc
        clear c1 c3 c4 h
        go_wp2
        go_ret
        exact ⟨by rw [hc.out]; rfl, hB4⟩
    · obtain ⟨rfl, rfl, rfl⟩ : k' = k ∧ n' = n ∧ s' = ⟨#[]⟩ := by have := HA.out; simpa [plainV, h2] using this
      obtain ⟨rfl, rfl, rfl⟩ : l' = k' ∧ m' = m ∧ t' = ⟨#[]⟩ := by have := HBB.out; simpa [plainV, h2] using this
      have hc : Hid (X = Lib.compareInt n' m') := Lib.hid (by rw [HX.out]; simp [vc, h2])
      clear HA HBB HPA HPB HB0 HG0 HG1 HZ0 HX
      rcases Int.lt_trichotomy n' m' with h | h | h
      · have h' : Lib.compareInt n' m' = -1 := by unfold Lib.compareInt; rw [if_pos h]
        rw [h'] at hc
        clear h'
        go_wp2
        go_ret
        exact ⟨by rw [hc.out]; rfl, hB4⟩
      · subst h
        have h' : Lib.compareInt n' n' = 0 := (ci_eq _ _).2 rfl
        rw [h'] at hc
        clear h'
        go_wp2
        go_ret
        exact ⟨by rw [hc.out]; rfl, hB4⟩
      · have h' : Lib.compareInt n' m' = 1 := by unfold Lib.compareInt; rw [if_neg (by omega), if_pos h]
        rw [h'] at hc
        clear h'
        have h3 : ¬ n' < m' := by omega
        have h4 : (n' == m') = false := by rw [beq_eq_false_iff_ne]; omega
        go_wp2
        go_ret
        exact ⟨by rw [hc.out]; rfl, hB4⟩
  · obtain rfl : k' = k := by have := HA.out; unfold plainV at this; split at this <;> simp_all
    obtain rfl : l' = l := by have := HBB.out; unfold plainV at this; split at this <;> simp_all
    have hc : Hid (X = Lib.compareInt k' l') := Lib.hid (by rw [HX.out]; simp [vc, hkl])
    clear HA HBB HPA HPB HB0 HG0 HG1 HZ0 HX
    have h4 : (k' == l') = false := by rw [beq_eq_false_iff_ne]; exact hkl
    rcases Int.lt_or_gt_of_ne hkl with h | h
    · have h' : Lib.compareInt k' l' = -1 := by unfold Lib.compareInt; rw [if_pos h]
      rw [h'] at hc
      clear h'
      go_wp2
      go_ret
      exact ⟨by rw [hc.out]; rfl, hB4⟩
    · have h' : Lib.compareInt k' l' = 1 := by unfold Lib.compareInt; rw [if_neg (by omega), if_pos h]
      rw [h'] at hc
      clear h'
      have h3 : ¬ k' < l' := by omega
      go_wp2
      go_ret
      exact ⟨by rw [hc.out]; rfl, hB4⟩
end Go.Proofs.YtinhmchekdolmaaDoor
