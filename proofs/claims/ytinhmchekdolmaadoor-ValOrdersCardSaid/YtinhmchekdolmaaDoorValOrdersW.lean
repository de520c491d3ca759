/- ValOrders: the walk. -/
import Derived.Test.YtinhmchekdolmaaDoorProg
import Derived.Test.YtinhmchekdolmaaDoorValN
import Derived.Test.YtinhmchekdolmaaDoorValP
import Derived.Test.YtinhmchekdolmaaDoorValR
import Derived.WalkKit
import Derived.WalkSpells
import Derived.WalkLawsBesides
import Derived.Deep.QuietTactic
import Derived.Deep.RegionHeld3
import Derived.Deep.DeepCutAuto
import Derived.Deep.CutRange
import Derived.BigQuiet
import Derived.KernelRfl
import Derived.Lib.Hide
namespace Go.Proofs.YtinhmchekdolmaaDoor
open Go.RowKit

theorem three_at (w : World) (a b c : Obj) : (((w.alloc a).alloc b).alloc c).heap[w.heap.size]? = some a ∧ (((w.alloc a).alloc b).alloc c).heap[w.heap.size + 1]? = some b ∧ (((w.alloc a).alloc b).alloc c).heap[w.heap.size + 2]? = some c := by
  have e1 : (w.alloc a).heap.size = w.heap.size + 1 := by simp
  have e2 : ((w.alloc a).alloc b).heap.size = w.heap.size + 2 := by simp
  refine ⟨?_, ?_, ?_⟩
  · rw [Below.heap_alloc _ _ _ (by omega), Below.heap_alloc _ _ _ (by omega)]; exact heap_alloc_new w _
  · rw [Below.heap_alloc _ _ _ (by omega), ← e1]; exact heap_alloc_new _ _
  · rw [← e2]; exact heap_alloc_new _ _

set_option maxRecDepth 100000 in
theorem idxV (x0 x1 x2 x3 x4 x5 x6 x7 x8 : Value) (w : World) :
    (Instr.index 49 (.agg #[x0, x1, x2, x3, x4, x5, x6, x7, x8]) (.int .i64 0)).run Tryd.prog w = .ok (.agg #[x0, x1, x2]) w
    ∧ (Instr.index 49 (.agg #[x0, x1, x2, x3, x4, x5, x6, x7, x8]) (.int .i64 1)).run Tryd.prog w = .ok (.agg #[x3, x4, x5]) w
    ∧ (Instr.index 49 (.agg #[x0, x1, x2, x3, x4, x5, x6, x7, x8]) (.int .i64 2)).run Tryd.prog w = .ok (.agg #[x6, x7, x8]) w := by
  refine ⟨?_, ?_, ?_⟩
  · simp [Instr.index, run_underlying Tryd.underlying49, asIntOf, go_sem]
  · simp [Instr.index, run_underlying Tryd.underlying49, asIntOf, go_sem]
  · simp [Instr.index, run_underlying Tryd.underlying49, asIntOf, go_sem]

set_option maxRecDepth 100000 in
set_option maxHeartbeats 2000000 in
theorem valOrders_walk (a b c : VVal) (w : World) (hfa : a.fits) (hfb : b.fits) (hfc : c.fits) (hT : Tabs w) :
    Calls Tryd.prog 7 #[.agg a.cells, .agg b.cells, .agg c.cells] w fun e w' => e = .returned (.bool true) ∧ Below w.heap.size w w' := by
  have hca := fun W => refCheck_any a W hfa
  have hcb := fun W => refCheck_any b W hfb
  have hcc := fun W => refCheck_any c W hfc
  have hab := fun W => vcmp_any a b W
  have hba := fun W => vcmp_any b a W
  have hbc := fun W => vcmp_any b c W
  have hac := fun W => vcmp_any a c W
  have hrab := fun W => refCmp_any a b W
  have hsab := fun W => vsame_any a b W
  have htr := vc_trans a b c
  rw [vc_swap a b] at hba
  have htx := fun (h1 : a.kind = 2) (h2 : b.kind = 2) => (vc_text a.s b.s a.n b.n)
  have hvx : a.kind = 2 → b.kind = 2 → vc ⟨2, a.n, a.s⟩ ⟨2, b.n, b.s⟩ = vc a b := fun h1 h2 => by
    rw [← h1]
    show vc ⟨a.kind, a.n, a.s⟩ _ = _
    rw [h1, ← h2]
    show vc ⟨b.kind, a.n, a.s⟩ ⟨b.kind, b.n, b.s⟩ = _
    unfold vc
    simp [h1, h2]
  have htx2 : a.kind = 2 → b.kind = 2 → Op.bytesLess a.s.toList b.s.toList = decide (vc a b < 0) := fun h1 h2 => by
    rw [← hvx h1 h2]; exact htx h1 h2
  clear htx hvx
  obtain ⟨xa, hxa⟩ : ∃ x, x = ckR a := ⟨_, rfl⟩
  obtain ⟨xb, hxb⟩ : ∃ x, x = ckR b := ⟨_, rfl⟩
  obtain ⟨xc, hxc⟩ : ∃ x, x = ckR c := ⟨_, rfl⟩
  rw [← hxa] at hca
  rw [← hxb] at hcb
  rw [← hxc] at hcc
  obtain ⟨x, hx⟩ : ∃ x, x = vc a b := ⟨_, rfl⟩
  obtain ⟨y, hy⟩ : ∃ x, x = vc b c := ⟨_, rfl⟩
  obtain ⟨z, hz⟩ : ∃ x, x = vc a c := ⟨_, rfl⟩
  have hxr : x = -1 ∨ x = 0 ∨ x = 1 := by rw [hx]; exact vc_range a b
  rw [← hx] at hab hba hrab hsab htr htx2
  rw [← hy] at hbc htr
  rw [← hz] at hac htr
  clear hxa hxb hxc hx hy hz hfa hfb hfc
  obtain ⟨k1, n1, s1⟩ := a
  obtain ⟨k2, n2, s2⟩ := b
  obtain ⟨k3, n3, s3⟩ := c
  simp only [VVal.cells] at hca hcb hcc hab hba hbc hac hrab hsab htx2 ⊢
  have HCA := Lib.hid hca
  have HCB := Lib.hid hcb
  have HCC := Lib.hid hcc
  have HAB := Lib.hid hab
  have HBA := Lib.hid hba
  have HBC := Lib.hid hbc
  have HAC := Lib.hid hac
  have HRAB := Lib.hid hrab
  have HSAB := Lib.hid hsab
  have HTR := Lib.hid htr
  have HTX := Lib.hid htx2
  have HXR := Lib.hid hxr
  clear hca hcb hcc hab hba hbc hac hrab hsab htr htx2 hxr
  obtain ⟨hg0, hg1, hg2⟩ := three_at w (.cells #[.int .i64 k1, .int .i64 n1, .string s1] 23) (.cells #[.int .i64 k2, .int .i64 n2, .string s2] 23) (.cells #[.int .i64 k3, .int .i64 n3, .string s3] 23)
  have hz0 : (((w.alloc (.cells #[.int .i64 k1, .int .i64 n1, .string s1] 23)).alloc (.cells #[.int .i64 k2, .int .i64 n2, .string s2] 23)).alloc (.cells #[.int .i64 k3, .int .i64 n3, .string s3] 23)).heap.size = w.heap.size + 3 := by simp
  have hB0 : Below w.heap.size w (((w.alloc (.cells #[.int .i64 k1, .int .i64 n1, .string s1] 23)).alloc (.cells #[.int .i64 k2, .int .i64 n2, .string s2] 23)).alloc (.cells #[.int .i64 k3, .int .i64 n3, .string s3] 23)) := (((Below.refl _ _).alloc (Nat.le_refl _) _).alloc (by simp) _).alloc (by simp; omega) _
  have HT0 := Lib.hid (hT.below hB0)
  have HG0 := Lib.hid hg0
  have HG1 := Lib.hid hg1
  have HG2 := Lib.hid hg2
  have HZ0 := Lib.hid hz0
  have HB0 := Lib.hid hB0
  clear hT hg0 hg1 hg2 hz0 hB0
  go_enter Tryd.func7, Tryd.ntmps7
  go_wp2_with fail
  refine (awake_any _ HT0.out).mono ?_
  rintro e w1 ⟨rfl, hb1⟩
  have hg0 := (hb1.block w.heap.size (by rw [HZ0.out]; omega)).trans HG0.out
  have hg1 := (hb1.block (w.heap.size + 1) (by rw [HZ0.out]; omega)).trans HG1.out
  have hg2 := (hb1.block (w.heap.size + 2) (by rw [HZ0.out]; omega)).trans HG2.out
  have hB1 := HB0.out.trans (hb1.mono HB0.out.size)
  have hz1 : w.heap.size + 3 ≤ w1.heap.size := by have := hb1.size; rw [HZ0.out] at this; exact this
  clear hb1 HG0 HG1 HG2 HB0 HZ0 HT0
  have a0 := cell_of_row w1 w.heap.size 0 _ _ _ hg0
  have a1 := cell_of_row w1 w.heap.size 1 _ _ _ hg0
  have a2 := cell_of_row w1 w.heap.size 2 _ _ _ hg0
  have b0 := cell_of_row w1 (w.heap.size + 1) 0 _ _ _ hg1
  have b1 := cell_of_row w1 (w.heap.size + 1) 1 _ _ _ hg1
  have b2 := cell_of_row w1 (w.heap.size + 1) 2 _ _ _ hg1
  have c0 := cell_of_row w1 (w.heap.size + 2) 0 _ _ _ hg2
  have c1 := cell_of_row w1 (w.heap.size + 2) 1 _ _ _ hg2
  have c2 := cell_of_row w1 (w.heap.size + 2) 2 _ _ _ hg2
  have HG0 := Lib.hid hg0
  have HG1 := Lib.hid hg1
  have HG2 := Lib.hid hg2
  have HB1 := Lib.hid hB1
  clear hg0 hg1 hg2 hB1
  go_wp2
  clear a0 a1 a2 b0 b1 b2 c0 c1 c2
  go_loopw [16] (fun i wr => ∃ j : Nat, j ≤ 3 ∧ i = .int .i64 (j : Int) ∧ Below (w.heap.size + 3) w1 wr) (fun i _ => 3 - (intOf i).toNat)
  case atStart => exact ⟨0, by omega, rfl, Below.refl _ _⟩
  case round =>
    obtain ⟨j, hj, rfl, hbj⟩ := hrel
    have hszj := hbj.size
    rcases Nat.lt_or_ge j 3 with h9 | h9
    · have hjj : j = 0 ∨ j = 1 ∨ j = 2 := by omega
      clear h9 hj
      rcases hjj with rfl | rfl | rfl
      · have ix := (idxV (.int .i64 k1) (.int .i64 n1) (.string s1) (.int .i64 k2) (.int .i64 n2) (.string s2) (.int .i64 k3) (.int .i64 n3) (.string s3) wr).1
        by_cases h0 : xa = 0
        · go_wp2_with (go_at_call 12; (with_reducible refine (HCA.out _).mono ?_); rintro e w2 ⟨rfl, hb2⟩)
          go_roundw
          case rel => exact ⟨1, by omega, by go_num, (hbj.alloc (by omega) _).trans (hb2.mono (by simp; omega))⟩
          case measure => simp [intOf]
        · have h0' : ((xa : Int) == 0) = false := by rw [beq_eq_false_iff_ne]; omega
          go_wp2_with (go_at_call 12; (with_reducible refine (HCA.out _).mono ?_); rintro e w2 ⟨rfl, hb2⟩)
          go_ret
          exact ⟨rfl, HB1.out.trans (((hbj.alloc (by omega) _).trans (hb2.mono (by simp; omega))).mono (by omega))⟩
      · have ix := (idxV (.int .i64 k1) (.int .i64 n1) (.string s1) (.int .i64 k2) (.int .i64 n2) (.string s2) (.int .i64 k3) (.int .i64 n3) (.string s3) wr).2.1
        by_cases h0 : xb = 0
        · go_wp2_with (go_at_call 12; (with_reducible refine (HCB.out _).mono ?_); rintro e w2 ⟨rfl, hb2⟩)
          go_roundw
          case rel => exact ⟨2, by omega, by go_num, (hbj.alloc (by omega) _).trans (hb2.mono (by simp; omega))⟩
          case measure => simp [intOf]
        · have h0' : ((xb : Int) == 0) = false := by rw [beq_eq_false_iff_ne]; omega
          go_wp2_with (go_at_call 12; (with_reducible refine (HCB.out _).mono ?_); rintro e w2 ⟨rfl, hb2⟩)
          go_ret
          exact ⟨rfl, HB1.out.trans (((hbj.alloc (by omega) _).trans (hb2.mono (by simp; omega))).mono (by omega))⟩
      · have ix := (idxV (.int .i64 k1) (.int .i64 n1) (.string s1) (.int .i64 k2) (.int .i64 n2) (.string s2) (.int .i64 k3) (.int .i64 n3) (.string s3) wr).2.2
        by_cases h0 : xc = 0
        · go_wp2_with (go_at_call 12; (with_reducible refine (HCC.out _).mono ?_); rintro e w2 ⟨rfl, hb2⟩)
          go_roundw
          case rel => exact ⟨3, by omega, by go_num, (hbj.alloc (by omega) _).trans (hb2.mono (by simp; omega))⟩
          case measure => simp [intOf]
        · have h0' : ((xc : Int) == 0) = false := by rw [beq_eq_false_iff_ne]; omega
          go_wp2_with (go_at_call 12; (with_reducible refine (HCC.out _).mono ?_); rintro e w2 ⟨rfl, hb2⟩)
          go_ret
          exact ⟨rfl, HB1.out.trans (((hbj.alloc (by omega) _).trans (hb2.mono (by simp; omega))).mono (by omega))⟩
    · obtain rfl : j = 3 := by omega
      clear h9 hj HCA HCB HCC
      have hg0 := (hbj.block w.heap.size (by omega)).trans HG0.out
      have hg1 := (hbj.block (w.heap.size + 1) (by omega)).trans HG1.out
      have hg2 := (hbj.block (w.heap.size + 2) (by omega)).trans HG2.out
      have hBj := HB1.out.trans (hbj.mono (by omega))
      clear hbj HG0 HG1 HG2 HB1
      have hxx := HXR.out
      have HXX : Hid (x ≤ 0 → y ≤ 0 → z ≤ 0) := HTR
      clear HXR HTR
      have a0 := cell_of_row wr w.heap.size 0 _ _ _ hg0
      have a1 := cell_of_row wr w.heap.size 1 _ _ _ hg0
      have a2 := cell_of_row wr w.heap.size 2 _ _ _ hg0
      have b0 := cell_of_row wr (w.heap.size + 1) 0 _ _ _ hg1
      have b1 := cell_of_row wr (w.heap.size + 1) 1 _ _ _ hg1
      have b2 := cell_of_row wr (w.heap.size + 1) 2 _ _ _ hg1
      have c0 := cell_of_row wr (w.heap.size + 2) 0 _ _ _ hg2
      have c1 := cell_of_row wr (w.heap.size + 2) 1 _ _ _ hg2
      have c2 := cell_of_row wr (w.heap.size + 2) 2 _ _ _ hg2
      rcases hxx with rfl | rfl | rfl
      · go_wp2_with fail
        clear a0 a1 a2 b0 b1 b2 c0 c1 c2
        refine (HAB.out _).mono ?_
        rintro e w2 ⟨rfl, hb⟩
        replace hg0 := (hb.block w.heap.size (by omega)).trans hg0
        replace hg1 := (hb.block (w.heap.size + 1) (by omega)).trans hg1
        replace hg2 := (hb.block (w.heap.size + 2) (by omega)).trans hg2
        replace hBj := hBj.trans (hb.mono hBj.size)
        replace hszj := Nat.le_trans hszj hb.size
        clear hb
        have a0 := cell_of_row w2 w.heap.size 0 _ _ _ hg0
        have a1 := cell_of_row w2 w.heap.size 1 _ _ _ hg0
        have a2 := cell_of_row w2 w.heap.size 2 _ _ _ hg0
        have b0 := cell_of_row w2 (w.heap.size + 1) 0 _ _ _ hg1
        have b1 := cell_of_row w2 (w.heap.size + 1) 1 _ _ _ hg1
        have b2 := cell_of_row w2 (w.heap.size + 1) 2 _ _ _ hg1
        have c0 := cell_of_row w2 (w.heap.size + 2) 0 _ _ _ hg2
        have c1 := cell_of_row w2 (w.heap.size + 2) 1 _ _ _ hg2
        have c2 := cell_of_row w2 (w.heap.size + 2) 2 _ _ _ hg2
        go_wp2_with fail
        clear a0 a1 a2 b0 b1 b2 c0 c1 c2
        refine (HRAB.out _).mono ?_
        rintro e w3 ⟨rfl, hb⟩
        replace hg0 := (hb.block w.heap.size (by omega)).trans hg0
        replace hg1 := (hb.block (w.heap.size + 1) (by omega)).trans hg1
        replace hg2 := (hb.block (w.heap.size + 2) (by omega)).trans hg2
        replace hBj := hBj.trans (hb.mono hBj.size)
        replace hszj := Nat.le_trans hszj hb.size
        clear hb
        have a0 := cell_of_row w3 w.heap.size 0 _ _ _ hg0
        have a1 := cell_of_row w3 w.heap.size 1 _ _ _ hg0
        have a2 := cell_of_row w3 w.heap.size 2 _ _ _ hg0
        have b0 := cell_of_row w3 (w.heap.size + 1) 0 _ _ _ hg1
        have b1 := cell_of_row w3 (w.heap.size + 1) 1 _ _ _ hg1
        have b2 := cell_of_row w3 (w.heap.size + 1) 2 _ _ _ hg1
        have c0 := cell_of_row w3 (w.heap.size + 2) 0 _ _ _ hg2
        have c1 := cell_of_row w3 (w.heap.size + 2) 1 _ _ _ hg2
        have c2 := cell_of_row w3 (w.heap.size + 2) 2 _ _ _ hg2
        go_wp2_with fail
        clear a0 a1 a2 b0 b1 b2 c0 c1 c2
        refine (HBA.out _).mono ?_
        rintro e w4 ⟨rfl, hb⟩
        replace hg0 := (hb.block w.heap.size (by omega)).trans hg0
        replace hg1 := (hb.block (w.heap.size + 1) (by omega)).trans hg1
        replace hg2 := (hb.block (w.heap.size + 2) (by omega)).trans hg2
        replace hBj := hBj.trans (hb.mono hBj.size)
        replace hszj := Nat.le_trans hszj hb.size
        clear hb
        have a0 := cell_of_row w4 w.heap.size 0 _ _ _ hg0
        have a1 := cell_of_row w4 w.heap.size 1 _ _ _ hg0
        have a2 := cell_of_row w4 w.heap.size 2 _ _ _ hg0
        have b0 := cell_of_row w4 (w.heap.size + 1) 0 _ _ _ hg1
        have b1 := cell_of_row w4 (w.heap.size + 1) 1 _ _ _ hg1
        have b2 := cell_of_row w4 (w.heap.size + 1) 2 _ _ _ hg1
        have c0 := cell_of_row w4 (w.heap.size + 2) 0 _ _ _ hg2
        have c1 := cell_of_row w4 (w.heap.size + 2) 1 _ _ _ hg2
        have c2 := cell_of_row w4 (w.heap.size + 2) 2 _ _ _ hg2
        go_wp2_with fail
        clear a0 a1 a2 b0 b1 b2 c0 c1 c2
        refine (HSAB.out _).mono ?_
        rintro e w5 ⟨rfl, hb⟩
        replace hg0 := (hb.block w.heap.size (by omega)).trans hg0
        replace hg1 := (hb.block (w.heap.size + 1) (by omega)).trans hg1
        replace hg2 := (hb.block (w.heap.size + 2) (by omega)).trans hg2
        replace hBj := hBj.trans (hb.mono hBj.size)
        replace hszj := Nat.le_trans hszj hb.size
        clear hb
        have a0 := cell_of_row w5 w.heap.size 0 _ _ _ hg0
        have a1 := cell_of_row w5 w.heap.size 1 _ _ _ hg0
        have a2 := cell_of_row w5 w.heap.size 2 _ _ _ hg0
        have b0 := cell_of_row w5 (w.heap.size + 1) 0 _ _ _ hg1
        have b1 := cell_of_row w5 (w.heap.size + 1) 1 _ _ _ hg1
        have b2 := cell_of_row w5 (w.heap.size + 1) 2 _ _ _ hg1
        have c0 := cell_of_row w5 (w.heap.size + 2) 0 _ _ _ hg2
        have c1 := cell_of_row w5 (w.heap.size + 2) 1 _ _ _ hg2
        have c2 := cell_of_row w5 (w.heap.size + 2) 2 _ _ _ hg2
        go_upto_region 12 with fail
        by_cases hk1 : k1 = 2
        · by_cases hk2 : k2 = 2
          · have htx := HTX.out hk1 hk2
            subst hk1 hk2
            have htx2 : Op.bytesLess s1.toList s2.toList = true := by rw [htx]; rfl
            clear htx HTX
            by_cases hy : y ≤ 0
            · have hz := HXX.out (by decide) hy
              have hy2 : ¬ (0 : Int) < y := by omega
              go_wp2_with fail
              clear a0 a1 a2 b0 b1 b2 c0 c1 c2
              refine (HBC.out _).mono ?_
              rintro e w6 ⟨rfl, hb⟩
              replace hg0 := (hb.block w.heap.size (by omega)).trans hg0
              replace hg1 := (hb.block (w.heap.size + 1) (by omega)).trans hg1
              replace hg2 := (hb.block (w.heap.size + 2) (by omega)).trans hg2
              replace hBj := hBj.trans (hb.mono hBj.size)
              replace hszj := Nat.le_trans hszj hb.size
              clear hb
              have a0 := cell_of_row w6 w.heap.size 0 _ _ _ hg0
              have a1 := cell_of_row w6 w.heap.size 1 _ _ _ hg0
              have a2 := cell_of_row w6 w.heap.size 2 _ _ _ hg0
              have b0 := cell_of_row w6 (w.heap.size + 1) 0 _ _ _ hg1
              have b1 := cell_of_row w6 (w.heap.size + 1) 1 _ _ _ hg1
              have b2 := cell_of_row w6 (w.heap.size + 1) 2 _ _ _ hg1
              have c0 := cell_of_row w6 (w.heap.size + 2) 0 _ _ _ hg2
              have c1 := cell_of_row w6 (w.heap.size + 2) 1 _ _ _ hg2
              have c2 := cell_of_row w6 (w.heap.size + 2) 2 _ _ _ hg2
              go_wp2_with fail
              clear a0 a1 a2 b0 b1 b2 c0 c1 c2
              refine (HAC.out _).mono ?_
              rintro e w7 ⟨rfl, hb⟩
              replace hg0 := (hb.block w.heap.size (by omega)).trans hg0
              replace hg1 := (hb.block (w.heap.size + 1) (by omega)).trans hg1
              replace hg2 := (hb.block (w.heap.size + 2) (by omega)).trans hg2
              replace hBj := hBj.trans (hb.mono hBj.size)
              replace hszj := Nat.le_trans hszj hb.size
              clear hb
              have a0 := cell_of_row w7 w.heap.size 0 _ _ _ hg0
              have a1 := cell_of_row w7 w.heap.size 1 _ _ _ hg0
              have a2 := cell_of_row w7 w.heap.size 2 _ _ _ hg0
              have b0 := cell_of_row w7 (w.heap.size + 1) 0 _ _ _ hg1
              have b1 := cell_of_row w7 (w.heap.size + 1) 1 _ _ _ hg1
              have b2 := cell_of_row w7 (w.heap.size + 1) 2 _ _ _ hg1
              have c0 := cell_of_row w7 (w.heap.size + 2) 0 _ _ _ hg2
              have c1 := cell_of_row w7 (w.heap.size + 2) 1 _ _ _ hg2
              have c2 := cell_of_row w7 (w.heap.size + 2) 2 _ _ _ hg2
              clear a0 a1 a2 b0 b1 b2 c0 c1 c2
              go_wp2
              go_ret
              exact ⟨rfl, hBj⟩
            · have hy2 : (0 : Int) < y := by omega
              go_wp2_with fail
              clear a0 a1 a2 b0 b1 b2 c0 c1 c2
              refine (HBC.out _).mono ?_
              rintro e w6 ⟨rfl, hb⟩
              replace hg0 := (hb.block w.heap.size (by omega)).trans hg0
              replace hg1 := (hb.block (w.heap.size + 1) (by omega)).trans hg1
              replace hg2 := (hb.block (w.heap.size + 2) (by omega)).trans hg2
              replace hBj := hBj.trans (hb.mono hBj.size)
              replace hszj := Nat.le_trans hszj hb.size
              clear hb
              have a0 := cell_of_row w6 w.heap.size 0 _ _ _ hg0
              have a1 := cell_of_row w6 w.heap.size 1 _ _ _ hg0
              have a2 := cell_of_row w6 w.heap.size 2 _ _ _ hg0
              have b0 := cell_of_row w6 (w.heap.size + 1) 0 _ _ _ hg1
              have b1 := cell_of_row w6 (w.heap.size + 1) 1 _ _ _ hg1
              have b2 := cell_of_row w6 (w.heap.size + 1) 2 _ _ _ hg1
              have c0 := cell_of_row w6 (w.heap.size + 2) 0 _ _ _ hg2
              have c1 := cell_of_row w6 (w.heap.size + 2) 1 _ _ _ hg2
              have c2 := cell_of_row w6 (w.heap.size + 2) 2 _ _ _ hg2
              clear a0 a1 a2 b0 b1 b2 c0 c1 c2
              go_wp2
              go_ret
              exact ⟨rfl, hBj⟩
          · have hk2b : (k2 == 2) = false := beq_eq_false_iff_ne.2 hk2
            subst hk1
            by_cases hy : y ≤ 0
            · have hz := HXX.out (by decide) hy
              have hy2 : ¬ (0 : Int) < y := by omega
              go_wp2_with fail
              clear a0 a1 a2 b0 b1 b2 c0 c1 c2
              refine (HBC.out _).mono ?_
              rintro e w6 ⟨rfl, hb⟩
              replace hg0 := (hb.block w.heap.size (by omega)).trans hg0
              replace hg1 := (hb.block (w.heap.size + 1) (by omega)).trans hg1
              replace hg2 := (hb.block (w.heap.size + 2) (by omega)).trans hg2
              replace hBj := hBj.trans (hb.mono hBj.size)
              replace hszj := Nat.le_trans hszj hb.size
              clear hb
              have a0 := cell_of_row w6 w.heap.size 0 _ _ _ hg0
              have a1 := cell_of_row w6 w.heap.size 1 _ _ _ hg0
              have a2 := cell_of_row w6 w.heap.size 2 _ _ _ hg0
              have b0 := cell_of_row w6 (w.heap.size + 1) 0 _ _ _ hg1
              have b1 := cell_of_row w6 (w.heap.size + 1) 1 _ _ _ hg1
              have b2 := cell_of_row w6 (w.heap.size + 1) 2 _ _ _ hg1
              have c0 := cell_of_row w6 (w.heap.size + 2) 0 _ _ _ hg2
              have c1 := cell_of_row w6 (w.heap.size + 2) 1 _ _ _ hg2
              have c2 := cell_of_row w6 (w.heap.size + 2) 2 _ _ _ hg2
              go_wp2_with fail
              clear a0 a1 a2 b0 b1 b2 c0 c1 c2
              refine (HAC.out _).mono ?_
              rintro e w7 ⟨rfl, hb⟩
              replace hg0 := (hb.block w.heap.size (by omega)).trans hg0
              replace hg1 := (hb.block (w.heap.size + 1) (by omega)).trans hg1
              replace hg2 := (hb.block (w.heap.size + 2) (by omega)).trans hg2
              replace hBj := hBj.trans (hb.mono hBj.size)
              replace hszj := Nat.le_trans hszj hb.size
              clear hb
              have a0 := cell_of_row w7 w.heap.size 0 _ _ _ hg0
              have a1 := cell_of_row w7 w.heap.size 1 _ _ _ hg0
              have a2 := cell_of_row w7 w.heap.size 2 _ _ _ hg0
              have b0 := cell_of_row w7 (w.heap.size + 1) 0 _ _ _ hg1
              have b1 := cell_of_row w7 (w.heap.size + 1) 1 _ _ _ hg1
              have b2 := cell_of_row w7 (w.heap.size + 1) 2 _ _ _ hg1
              have c0 := cell_of_row w7 (w.heap.size + 2) 0 _ _ _ hg2
              have c1 := cell_of_row w7 (w.heap.size + 2) 1 _ _ _ hg2
              have c2 := cell_of_row w7 (w.heap.size + 2) 2 _ _ _ hg2
              clear a0 a1 a2 b0 b1 b2 c0 c1 c2
              go_wp2
              go_ret
              exact ⟨rfl, hBj⟩
            · have hy2 : (0 : Int) < y := by omega
              go_wp2_with fail
              clear a0 a1 a2 b0 b1 b2 c0 c1 c2
              refine (HBC.out _).mono ?_
              rintro e w6 ⟨rfl, hb⟩
              replace hg0 := (hb.block w.heap.size (by omega)).trans hg0
              replace hg1 := (hb.block (w.heap.size + 1) (by omega)).trans hg1
              replace hg2 := (hb.block (w.heap.size + 2) (by omega)).trans hg2
              replace hBj := hBj.trans (hb.mono hBj.size)
              replace hszj := Nat.le_trans hszj hb.size
              clear hb
              have a0 := cell_of_row w6 w.heap.size 0 _ _ _ hg0
              have a1 := cell_of_row w6 w.heap.size 1 _ _ _ hg0
              have a2 := cell_of_row w6 w.heap.size 2 _ _ _ hg0
              have b0 := cell_of_row w6 (w.heap.size + 1) 0 _ _ _ hg1
              have b1 := cell_of_row w6 (w.heap.size + 1) 1 _ _ _ hg1
              have b2 := cell_of_row w6 (w.heap.size + 1) 2 _ _ _ hg1
              have c0 := cell_of_row w6 (w.heap.size + 2) 0 _ _ _ hg2
              have c1 := cell_of_row w6 (w.heap.size + 2) 1 _ _ _ hg2
              have c2 := cell_of_row w6 (w.heap.size + 2) 2 _ _ _ hg2
              clear a0 a1 a2 b0 b1 b2 c0 c1 c2
              go_wp2
              go_ret
              exact ⟨rfl, hBj⟩
        · have hk1b : (k1 == 2) = false := beq_eq_false_iff_ne.2 hk1
          by_cases hy : y ≤ 0
          · have hz := HXX.out (by decide) hy
            have hy2 : ¬ (0 : Int) < y := by omega
            go_wp2_with fail
            clear a0 a1 a2 b0 b1 b2 c0 c1 c2
            refine (HBC.out _).mono ?_
            rintro e w6 ⟨rfl, hb⟩
            replace hg0 := (hb.block w.heap.size (by omega)).trans hg0
            replace hg1 := (hb.block (w.heap.size + 1) (by omega)).trans hg1
            replace hg2 := (hb.block (w.heap.size + 2) (by omega)).trans hg2
            replace hBj := hBj.trans (hb.mono hBj.size)
            replace hszj := Nat.le_trans hszj hb.size
            clear hb
            have a0 := cell_of_row w6 w.heap.size 0 _ _ _ hg0
            have a1 := cell_of_row w6 w.heap.size 1 _ _ _ hg0
            have a2 := cell_of_row w6 w.heap.size 2 _ _ _ hg0
            have b0 := cell_of_row w6 (w.heap.size + 1) 0 _ _ _ hg1
            have b1 := cell_of_row w6 (w.heap.size + 1) 1 _ _ _ hg1
            have b2 := cell_of_row w6 (w.heap.size + 1) 2 _ _ _ hg1
            have c0 := cell_of_row w6 (w.heap.size + 2) 0 _ _ _ hg2
            have c1 := cell_of_row w6 (w.heap.size + 2) 1 _ _ _ hg2
            have c2 := cell_of_row w6 (w.heap.size + 2) 2 _ _ _ hg2
            go_wp2_with fail
            clear a0 a1 a2 b0 b1 b2 c0 c1 c2
            refine (HAC.out _).mono ?_
            rintro e w7 ⟨rfl, hb⟩
            replace hg0 := (hb.block w.heap.size (by omega)).trans hg0
            replace hg1 := (hb.block (w.heap.size + 1) (by omega)).trans hg1
            replace hg2 := (hb.block (w.heap.size + 2) (by omega)).trans hg2
            replace hBj := hBj.trans (hb.mono hBj.size)
            replace hszj := Nat.le_trans hszj hb.size
            clear hb
            have a0 := cell_of_row w7 w.heap.size 0 _ _ _ hg0
            have a1 := cell_of_row w7 w.heap.size 1 _ _ _ hg0
            have a2 := cell_of_row w7 w.heap.size 2 _ _ _ hg0
            have b0 := cell_of_row w7 (w.heap.size + 1) 0 _ _ _ hg1
            have b1 := cell_of_row w7 (w.heap.size + 1) 1 _ _ _ hg1
            have b2 := cell_of_row w7 (w.heap.size + 1) 2 _ _ _ hg1
            have c0 := cell_of_row w7 (w.heap.size + 2) 0 _ _ _ hg2
            have c1 := cell_of_row w7 (w.heap.size + 2) 1 _ _ _ hg2
            have c2 := cell_of_row w7 (w.heap.size + 2) 2 _ _ _ hg2
            clear a0 a1 a2 b0 b1 b2 c0 c1 c2
            go_wp2
            go_ret
            exact ⟨rfl, hBj⟩
          · have hy2 : (0 : Int) < y := by omega
            go_wp2_with fail
            clear a0 a1 a2 b0 b1 b2 c0 c1 c2
            refine (HBC.out _).mono ?_
            rintro e w6 ⟨rfl, hb⟩
            replace hg0 := (hb.block w.heap.size (by omega)).trans hg0
            replace hg1 := (hb.block (w.heap.size + 1) (by omega)).trans hg1
            replace hg2 := (hb.block (w.heap.size + 2) (by omega)).trans hg2
            replace hBj := hBj.trans (hb.mono hBj.size)
            replace hszj := Nat.le_trans hszj hb.size
            clear hb
            have a0 := cell_of_row w6 w.heap.size 0 _ _ _ hg0
            have a1 := cell_of_row w6 w.heap.size 1 _ _ _ hg0
            have a2 := cell_of_row w6 w.heap.size 2 _ _ _ hg0
            have b0 := cell_of_row w6 (w.heap.size + 1) 0 _ _ _ hg1
            have b1 := cell_of_row w6 (w.heap.size + 1) 1 _ _ _ hg1
            have b2 := cell_of_row w6 (w.heap.size + 1) 2 _ _ _ hg1
            have c0 := cell_of_row w6 (w.heap.size + 2) 0 _ _ _ hg2
            have c1 := cell_of_row w6 (w.heap.size + 2) 1 _ _ _ hg2
            have c2 := cell_of_row w6 (w.heap.size + 2) 2 _ _ _ hg2
            clear a0 a1 a2 b0 b1 b2 c0 c1 c2
            go_wp2
            go_ret
            exact ⟨rfl, hBj⟩
      · go_wp2_with fail
        clear a0 a1 a2 b0 b1 b2 c0 c1 c2
        refine (HAB.out _).mono ?_
        rintro e w2 ⟨rfl, hb⟩
        replace hg0 := (hb.block w.heap.size (by omega)).trans hg0
        replace hg1 := (hb.block (w.heap.size + 1) (by omega)).trans hg1
        replace hg2 := (hb.block (w.heap.size + 2) (by omega)).trans hg2
        replace hBj := hBj.trans (hb.mono hBj.size)
        replace hszj := Nat.le_trans hszj hb.size
        clear hb
        have a0 := cell_of_row w2 w.heap.size 0 _ _ _ hg0
        have a1 := cell_of_row w2 w.heap.size 1 _ _ _ hg0
        have a2 := cell_of_row w2 w.heap.size 2 _ _ _ hg0
        have b0 := cell_of_row w2 (w.heap.size + 1) 0 _ _ _ hg1
        have b1 := cell_of_row w2 (w.heap.size + 1) 1 _ _ _ hg1
        have b2 := cell_of_row w2 (w.heap.size + 1) 2 _ _ _ hg1
        have c0 := cell_of_row w2 (w.heap.size + 2) 0 _ _ _ hg2
        have c1 := cell_of_row w2 (w.heap.size + 2) 1 _ _ _ hg2
        have c2 := cell_of_row w2 (w.heap.size + 2) 2 _ _ _ hg2
        go_wp2_with fail
        clear a0 a1 a2 b0 b1 b2 c0 c1 c2
        refine (HRAB.out _).mono ?_
        rintro e w3 ⟨rfl, hb⟩
        replace hg0 := (hb.block w.heap.size (by omega)).trans hg0
        replace hg1 := (hb.block (w.heap.size + 1) (by omega)).trans hg1
        replace hg2 := (hb.block (w.heap.size + 2) (by omega)).trans hg2
        replace hBj := hBj.trans (hb.mono hBj.size)
        replace hszj := Nat.le_trans hszj hb.size
        clear hb
        have a0 := cell_of_row w3 w.heap.size 0 _ _ _ hg0
        have a1 := cell_of_row w3 w.heap.size 1 _ _ _ hg0
        have a2 := cell_of_row w3 w.heap.size 2 _ _ _ hg0
        have b0 := cell_of_row w3 (w.heap.size + 1) 0 _ _ _ hg1
        have b1 := cell_of_row w3 (w.heap.size + 1) 1 _ _ _ hg1
        have b2 := cell_of_row w3 (w.heap.size + 1) 2 _ _ _ hg1
        have c0 := cell_of_row w3 (w.heap.size + 2) 0 _ _ _ hg2
        have c1 := cell_of_row w3 (w.heap.size + 2) 1 _ _ _ hg2
        have c2 := cell_of_row w3 (w.heap.size + 2) 2 _ _ _ hg2
        go_wp2_with fail
        clear a0 a1 a2 b0 b1 b2 c0 c1 c2
        refine (HBA.out _).mono ?_
        rintro e w4 ⟨rfl, hb⟩
        replace hg0 := (hb.block w.heap.size (by omega)).trans hg0
        replace hg1 := (hb.block (w.heap.size + 1) (by omega)).trans hg1
        replace hg2 := (hb.block (w.heap.size + 2) (by omega)).trans hg2
        replace hBj := hBj.trans (hb.mono hBj.size)
        replace hszj := Nat.le_trans hszj hb.size
        clear hb
        have a0 := cell_of_row w4 w.heap.size 0 _ _ _ hg0
        have a1 := cell_of_row w4 w.heap.size 1 _ _ _ hg0
        have a2 := cell_of_row w4 w.heap.size 2 _ _ _ hg0
        have b0 := cell_of_row w4 (w.heap.size + 1) 0 _ _ _ hg1
        have b1 := cell_of_row w4 (w.heap.size + 1) 1 _ _ _ hg1
        have b2 := cell_of_row w4 (w.heap.size + 1) 2 _ _ _ hg1
        have c0 := cell_of_row w4 (w.heap.size + 2) 0 _ _ _ hg2
        have c1 := cell_of_row w4 (w.heap.size + 2) 1 _ _ _ hg2
        have c2 := cell_of_row w4 (w.heap.size + 2) 2 _ _ _ hg2
        go_wp2_with fail
        clear a0 a1 a2 b0 b1 b2 c0 c1 c2
        refine (HSAB.out _).mono ?_
        rintro e w5 ⟨rfl, hb⟩
        replace hg0 := (hb.block w.heap.size (by omega)).trans hg0
        replace hg1 := (hb.block (w.heap.size + 1) (by omega)).trans hg1
        replace hg2 := (hb.block (w.heap.size + 2) (by omega)).trans hg2
        replace hBj := hBj.trans (hb.mono hBj.size)
        replace hszj := Nat.le_trans hszj hb.size
        clear hb
        have a0 := cell_of_row w5 w.heap.size 0 _ _ _ hg0
        have a1 := cell_of_row w5 w.heap.size 1 _ _ _ hg0
        have a2 := cell_of_row w5 w.heap.size 2 _ _ _ hg0
        have b0 := cell_of_row w5 (w.heap.size + 1) 0 _ _ _ hg1
        have b1 := cell_of_row w5 (w.heap.size + 1) 1 _ _ _ hg1
        have b2 := cell_of_row w5 (w.heap.size + 1) 2 _ _ _ hg1
        have c0 := cell_of_row w5 (w.heap.size + 2) 0 _ _ _ hg2
        have c1 := cell_of_row w5 (w.heap.size + 2) 1 _ _ _ hg2
        have c2 := cell_of_row w5 (w.heap.size + 2) 2 _ _ _ hg2
        go_upto_region 12 with fail
        by_cases hk1 : k1 = 2
        · by_cases hk2 : k2 = 2
          · have htx := HTX.out hk1 hk2
            subst hk1 hk2
            have htx2 : Op.bytesLess s1.toList s2.toList = false := by rw [htx]; rfl
            clear htx HTX
            by_cases hy : y ≤ 0
            · have hz := HXX.out (by decide) hy
              have hy2 : ¬ (0 : Int) < y := by omega
              go_wp2_with fail
              clear a0 a1 a2 b0 b1 b2 c0 c1 c2
              refine (HBC.out _).mono ?_
              rintro e w6 ⟨rfl, hb⟩
              replace hg0 := (hb.block w.heap.size (by omega)).trans hg0
              replace hg1 := (hb.block (w.heap.size + 1) (by omega)).trans hg1
              replace hg2 := (hb.block (w.heap.size + 2) (by omega)).trans hg2
              replace hBj := hBj.trans (hb.mono hBj.size)
              replace hszj := Nat.le_trans hszj hb.size
              clear hb
              have a0 := cell_of_row w6 w.heap.size 0 _ _ _ hg0
              have a1 := cell_of_row w6 w.heap.size 1 _ _ _ hg0
              have a2 := cell_of_row w6 w.heap.size 2 _ _ _ hg0
              have b0 := cell_of_row w6 (w.heap.size + 1) 0 _ _ _ hg1
              have b1 := cell_of_row w6 (w.heap.size + 1) 1 _ _ _ hg1
              have b2 := cell_of_row w6 (w.heap.size + 1) 2 _ _ _ hg1
              have c0 := cell_of_row w6 (w.heap.size + 2) 0 _ _ _ hg2
              have c1 := cell_of_row w6 (w.heap.size + 2) 1 _ _ _ hg2
              have c2 := cell_of_row w6 (w.heap.size + 2) 2 _ _ _ hg2
              go_wp2_with fail
              clear a0 a1 a2 b0 b1 b2 c0 c1 c2
              refine (HAC.out _).mono ?_
              rintro e w7 ⟨rfl, hb⟩
              replace hg0 := (hb.block w.heap.size (by omega)).trans hg0
              replace hg1 := (hb.block (w.heap.size + 1) (by omega)).trans hg1
              replace hg2 := (hb.block (w.heap.size + 2) (by omega)).trans hg2
              replace hBj := hBj.trans (hb.mono hBj.size)
              replace hszj := Nat.le_trans hszj hb.size
              clear hb
              have a0 := cell_of_row w7 w.heap.size 0 _ _ _ hg0
              have a1 := cell_of_row w7 w.heap.size 1 _ _ _ hg0
              have a2 := cell_of_row w7 w.heap.size 2 _ _ _ hg0
              have b0 := cell_of_row w7 (w.heap.size + 1) 0 _ _ _ hg1
              have b1 := cell_of_row w7 (w.heap.size + 1) 1 _ _ _ hg1
              have b2 := cell_of_row w7 (w.heap.size + 1) 2 _ _ _ hg1
              have c0 := cell_of_row w7 (w.heap.size + 2) 0 _ _ _ hg2
              have c1 := cell_of_row w7 (w.heap.size + 2) 1 _ _ _ hg2
              have c2 := cell_of_row w7 (w.heap.size + 2) 2 _ _ _ hg2
              clear a0 a1 a2 b0 b1 b2 c0 c1 c2
              go_wp2
              go_ret
              exact ⟨rfl, hBj⟩
            · have hy2 : (0 : Int) < y := by omega
              go_wp2_with fail
              clear a0 a1 a2 b0 b1 b2 c0 c1 c2
              refine (HBC.out _).mono ?_
              rintro e w6 ⟨rfl, hb⟩
              replace hg0 := (hb.block w.heap.size (by omega)).trans hg0
              replace hg1 := (hb.block (w.heap.size + 1) (by omega)).trans hg1
              replace hg2 := (hb.block (w.heap.size + 2) (by omega)).trans hg2
              replace hBj := hBj.trans (hb.mono hBj.size)
              replace hszj := Nat.le_trans hszj hb.size
              clear hb
              have a0 := cell_of_row w6 w.heap.size 0 _ _ _ hg0
              have a1 := cell_of_row w6 w.heap.size 1 _ _ _ hg0
              have a2 := cell_of_row w6 w.heap.size 2 _ _ _ hg0
              have b0 := cell_of_row w6 (w.heap.size + 1) 0 _ _ _ hg1
              have b1 := cell_of_row w6 (w.heap.size + 1) 1 _ _ _ hg1
              have b2 := cell_of_row w6 (w.heap.size + 1) 2 _ _ _ hg1
              have c0 := cell_of_row w6 (w.heap.size + 2) 0 _ _ _ hg2
              have c1 := cell_of_row w6 (w.heap.size + 2) 1 _ _ _ hg2
              have c2 := cell_of_row w6 (w.heap.size + 2) 2 _ _ _ hg2
              clear a0 a1 a2 b0 b1 b2 c0 c1 c2
              go_wp2
              go_ret
              exact ⟨rfl, hBj⟩
          · have hk2b : (k2 == 2) = false := beq_eq_false_iff_ne.2 hk2
            subst hk1
            by_cases hy : y ≤ 0
            · have hz := HXX.out (by decide) hy
              have hy2 : ¬ (0 : Int) < y := by omega
              go_wp2_with fail
              clear a0 a1 a2 b0 b1 b2 c0 c1 c2
              refine (HBC.out _).mono ?_
              rintro e w6 ⟨rfl, hb⟩
              replace hg0 := (hb.block w.heap.size (by omega)).trans hg0
              replace hg1 := (hb.block (w.heap.size + 1) (by omega)).trans hg1
              replace hg2 := (hb.block (w.heap.size + 2) (by omega)).trans hg2
              replace hBj := hBj.trans (hb.mono hBj.size)
              replace hszj := Nat.le_trans hszj hb.size
              clear hb
              have a0 := cell_of_row w6 w.heap.size 0 _ _ _ hg0
              have a1 := cell_of_row w6 w.heap.size 1 _ _ _ hg0
              have a2 := cell_of_row w6 w.heap.size 2 _ _ _ hg0
              have b0 := cell_of_row w6 (w.heap.size + 1) 0 _ _ _ hg1
              have b1 := cell_of_row w6 (w.heap.size + 1) 1 _ _ _ hg1
              have b2 := cell_of_row w6 (w.heap.size + 1) 2 _ _ _ hg1
              have c0 := cell_of_row w6 (w.heap.size + 2) 0 _ _ _ hg2
              have c1 := cell_of_row w6 (w.heap.size + 2) 1 _ _ _ hg2
              have c2 := cell_of_row w6 (w.heap.size + 2) 2 _ _ _ hg2
              go_wp2_with fail
              clear a0 a1 a2 b0 b1 b2 c0 c1 c2
              refine (HAC.out _).mono ?_
              rintro e w7 ⟨rfl, hb⟩
              replace hg0 := (hb.block w.heap.size (by omega)).trans hg0
              replace hg1 := (hb.block (w.heap.size + 1) (by omega)).trans hg1
              replace hg2 := (hb.block (w.heap.size + 2) (by omega)).trans hg2
              replace hBj := hBj.trans (hb.mono hBj.size)
              replace hszj := Nat.le_trans hszj hb.size
              clear hb
              have a0 := cell_of_row w7 w.heap.size 0 _ _ _ hg0
              have a1 := cell_of_row w7 w.heap.size 1 _ _ _ hg0
              have a2 := cell_of_row w7 w.heap.size 2 _ _ _ hg0
              have b0 := cell_of_row w7 (w.heap.size + 1) 0 _ _ _ hg1
              have b1 := cell_of_row w7 (w.heap.size + 1) 1 _ _ _ hg1
              have b2 := cell_of_row w7 (w.heap.size + 1) 2 _ _ _ hg1
              have c0 := cell_of_row w7 (w.heap.size + 2) 0 _ _ _ hg2
              have c1 := cell_of_row w7 (w.heap.size + 2) 1 _ _ _ hg2
              have c2 := cell_of_row w7 (w.heap.size + 2) 2 _ _ _ hg2
              clear a0 a1 a2 b0 b1 b2 c0 c1 c2
              go_wp2
              go_ret
              exact ⟨rfl, hBj⟩
            · have hy2 : (0 : Int) < y := by omega
              go_wp2_with fail
              clear a0 a1 a2 b0 b1 b2 c0 c1 c2
              refine (HBC.out _).mono ?_
              rintro e w6 ⟨rfl, hb⟩
              replace hg0 := (hb.block w.heap.size (by omega)).trans hg0
              replace hg1 := (hb.block (w.heap.size + 1) (by omega)).trans hg1
              replace hg2 := (hb.block (w.heap.size + 2) (by omega)).trans hg2
              replace hBj := hBj.trans (hb.mono hBj.size)
              replace hszj := Nat.le_trans hszj hb.size
              clear hb
              have a0 := cell_of_row w6 w.heap.size 0 _ _ _ hg0
              have a1 := cell_of_row w6 w.heap.size 1 _ _ _ hg0
              have a2 := cell_of_row w6 w.heap.size 2 _ _ _ hg0
              have b0 := cell_of_row w6 (w.heap.size + 1) 0 _ _ _ hg1
              have b1 := cell_of_row w6 (w.heap.size + 1) 1 _ _ _ hg1
              have b2 := cell_of_row w6 (w.heap.size + 1) 2 _ _ _ hg1
              have c0 := cell_of_row w6 (w.heap.size + 2) 0 _ _ _ hg2
              have c1 := cell_of_row w6 (w.heap.size + 2) 1 _ _ _ hg2
              have c2 := cell_of_row w6 (w.heap.size + 2) 2 _ _ _ hg2
              clear a0 a1 a2 b0 b1 b2 c0 c1 c2
              go_wp2
              go_ret
              exact ⟨rfl, hBj⟩
        · have hk1b : (k1 == 2) = false := beq_eq_false_iff_ne.2 hk1
          by_cases hy : y ≤ 0
          · have hz := HXX.out (by decide) hy
            have hy2 : ¬ (0 : Int) < y := by omega
            go_wp2_with fail
            clear a0 a1 a2 b0 b1 b2 c0 c1 c2
            refine (HBC.out _).mono ?_
            rintro e w6 ⟨rfl, hb⟩
            replace hg0 := (hb.block w.heap.size (by omega)).trans hg0
            replace hg1 := (hb.block (w.heap.size + 1) (by omega)).trans hg1
            replace hg2 := (hb.block (w.heap.size + 2) (by omega)).trans hg2
            replace hBj := hBj.trans (hb.mono hBj.size)
            replace hszj := Nat.le_trans hszj hb.size
            clear hb
            have a0 := cell_of_row w6 w.heap.size 0 _ _ _ hg0
            have a1 := cell_of_row w6 w.heap.size 1 _ _ _ hg0
            have a2 := cell_of_row w6 w.heap.size 2 _ _ _ hg0
            have b0 := cell_of_row w6 (w.heap.size + 1) 0 _ _ _ hg1
            have b1 := cell_of_row w6 (w.heap.size + 1) 1 _ _ _ hg1
            have b2 := cell_of_row w6 (w.heap.size + 1) 2 _ _ _ hg1
            have c0 := cell_of_row w6 (w.heap.size + 2) 0 _ _ _ hg2
            have c1 := cell_of_row w6 (w.heap.size + 2) 1 _ _ _ hg2
            have c2 := cell_of_row w6 (w.heap.size + 2) 2 _ _ _ hg2
            go_wp2_with fail
            clear a0 a1 a2 b0 b1 b2 c0 c1 c2
            refine (HAC.out _).mono ?_
            rintro e w7 ⟨rfl, hb⟩
            replace hg0 := (hb.block w.heap.size (by omega)).trans hg0
            replace hg1 := (hb.block (w.heap.size + 1) (by omega)).trans hg1
            replace hg2 := (hb.block (w.heap.size + 2) (by omega)).trans hg2
            replace hBj := hBj.trans (hb.mono hBj.size)
            replace hszj := Nat.le_trans hszj hb.size
            clear hb
            have a0 := cell_of_row w7 w.heap.size 0 _ _ _ hg0
            have a1 := cell_of_row w7 w.heap.size 1 _ _ _ hg0
            have a2 := cell_of_row w7 w.heap.size 2 _ _ _ hg0
            have b0 := cell_of_row w7 (w.heap.size + 1) 0 _ _ _ hg1
            have b1 := cell_of_row w7 (w.heap.size + 1) 1 _ _ _ hg1
            have b2 := cell_of_row w7 (w.heap.size + 1) 2 _ _ _ hg1
            have c0 := cell_of_row w7 (w.heap.size + 2) 0 _ _ _ hg2
            have c1 := cell_of_row w7 (w.heap.size + 2) 1 _ _ _ hg2
            have c2 := cell_of_row w7 (w.heap.size + 2) 2 _ _ _ hg2
            clear a0 a1 a2 b0 b1 b2 c0 c1 c2
            go_wp2
            go_ret
            exact ⟨rfl, hBj⟩
          · have hy2 : (0 : Int) < y := by omega
            go_wp2_with fail
            clear a0 a1 a2 b0 b1 b2 c0 c1 c2
            refine (HBC.out _).mono ?_
            rintro e w6 ⟨rfl, hb⟩
            replace hg0 := (hb.block w.heap.size (by omega)).trans hg0
            replace hg1 := (hb.block (w.heap.size + 1) (by omega)).trans hg1
            replace hg2 := (hb.block (w.heap.size + 2) (by omega)).trans hg2
            replace hBj := hBj.trans (hb.mono hBj.size)
            replace hszj := Nat.le_trans hszj hb.size
            clear hb
            have a0 := cell_of_row w6 w.heap.size 0 _ _ _ hg0
            have a1 := cell_of_row w6 w.heap.size 1 _ _ _ hg0
            have a2 := cell_of_row w6 w.heap.size 2 _ _ _ hg0
            have b0 := cell_of_row w6 (w.heap.size + 1) 0 _ _ _ hg1
            have b1 := cell_of_row w6 (w.heap.size + 1) 1 _ _ _ hg1
            have b2 := cell_of_row w6 (w.heap.size + 1) 2 _ _ _ hg1
            have c0 := cell_of_row w6 (w.heap.size + 2) 0 _ _ _ hg2
            have c1 := cell_of_row w6 (w.heap.size + 2) 1 _ _ _ hg2
            have c2 := cell_of_row w6 (w.heap.size + 2) 2 _ _ _ hg2
            clear a0 a1 a2 b0 b1 b2 c0 c1 c2
            go_wp2
            go_ret
            exact ⟨rfl, hBj⟩
      · go_wp2_with fail
        clear a0 a1 a2 b0 b1 b2 c0 c1 c2
        refine (HAB.out _).mono ?_
        rintro e w2 ⟨rfl, hb⟩
        replace hg0 := (hb.block w.heap.size (by omega)).trans hg0
        replace hg1 := (hb.block (w.heap.size + 1) (by omega)).trans hg1
        replace hg2 := (hb.block (w.heap.size + 2) (by omega)).trans hg2
        replace hBj := hBj.trans (hb.mono hBj.size)
        replace hszj := Nat.le_trans hszj hb.size
        clear hb
        have a0 := cell_of_row w2 w.heap.size 0 _ _ _ hg0
        have a1 := cell_of_row w2 w.heap.size 1 _ _ _ hg0
        have a2 := cell_of_row w2 w.heap.size 2 _ _ _ hg0
        have b0 := cell_of_row w2 (w.heap.size + 1) 0 _ _ _ hg1
        have b1 := cell_of_row w2 (w.heap.size + 1) 1 _ _ _ hg1
        have b2 := cell_of_row w2 (w.heap.size + 1) 2 _ _ _ hg1
        have c0 := cell_of_row w2 (w.heap.size + 2) 0 _ _ _ hg2
        have c1 := cell_of_row w2 (w.heap.size + 2) 1 _ _ _ hg2
        have c2 := cell_of_row w2 (w.heap.size + 2) 2 _ _ _ hg2
        go_wp2_with fail
        clear a0 a1 a2 b0 b1 b2 c0 c1 c2
        refine (HRAB.out _).mono ?_
        rintro e w3 ⟨rfl, hb⟩
        replace hg0 := (hb.block w.heap.size (by omega)).trans hg0
        replace hg1 := (hb.block (w.heap.size + 1) (by omega)).trans hg1
        replace hg2 := (hb.block (w.heap.size + 2) (by omega)).trans hg2
        replace hBj := hBj.trans (hb.mono hBj.size)
        replace hszj := Nat.le_trans hszj hb.size
        clear hb
        have a0 := cell_of_row w3 w.heap.size 0 _ _ _ hg0
        have a1 := cell_of_row w3 w.heap.size 1 _ _ _ hg0
        have a2 := cell_of_row w3 w.heap.size 2 _ _ _ hg0
        have b0 := cell_of_row w3 (w.heap.size + 1) 0 _ _ _ hg1
        have b1 := cell_of_row w3 (w.heap.size + 1) 1 _ _ _ hg1
        have b2 := cell_of_row w3 (w.heap.size + 1) 2 _ _ _ hg1
        have c0 := cell_of_row w3 (w.heap.size + 2) 0 _ _ _ hg2
        have c1 := cell_of_row w3 (w.heap.size + 2) 1 _ _ _ hg2
        have c2 := cell_of_row w3 (w.heap.size + 2) 2 _ _ _ hg2
        go_wp2_with fail
        clear a0 a1 a2 b0 b1 b2 c0 c1 c2
        refine (HBA.out _).mono ?_
        rintro e w4 ⟨rfl, hb⟩
        replace hg0 := (hb.block w.heap.size (by omega)).trans hg0
        replace hg1 := (hb.block (w.heap.size + 1) (by omega)).trans hg1
        replace hg2 := (hb.block (w.heap.size + 2) (by omega)).trans hg2
        replace hBj := hBj.trans (hb.mono hBj.size)
        replace hszj := Nat.le_trans hszj hb.size
        clear hb
        have a0 := cell_of_row w4 w.heap.size 0 _ _ _ hg0
        have a1 := cell_of_row w4 w.heap.size 1 _ _ _ hg0
        have a2 := cell_of_row w4 w.heap.size 2 _ _ _ hg0
        have b0 := cell_of_row w4 (w.heap.size + 1) 0 _ _ _ hg1
        have b1 := cell_of_row w4 (w.heap.size + 1) 1 _ _ _ hg1
        have b2 := cell_of_row w4 (w.heap.size + 1) 2 _ _ _ hg1
        have c0 := cell_of_row w4 (w.heap.size + 2) 0 _ _ _ hg2
        have c1 := cell_of_row w4 (w.heap.size + 2) 1 _ _ _ hg2
        have c2 := cell_of_row w4 (w.heap.size + 2) 2 _ _ _ hg2
        go_wp2_with fail
        clear a0 a1 a2 b0 b1 b2 c0 c1 c2
        refine (HSAB.out _).mono ?_
        rintro e w5 ⟨rfl, hb⟩
        replace hg0 := (hb.block w.heap.size (by omega)).trans hg0
        replace hg1 := (hb.block (w.heap.size + 1) (by omega)).trans hg1
        replace hg2 := (hb.block (w.heap.size + 2) (by omega)).trans hg2
        replace hBj := hBj.trans (hb.mono hBj.size)
        replace hszj := Nat.le_trans hszj hb.size
        clear hb
        have a0 := cell_of_row w5 w.heap.size 0 _ _ _ hg0
        have a1 := cell_of_row w5 w.heap.size 1 _ _ _ hg0
        have a2 := cell_of_row w5 w.heap.size 2 _ _ _ hg0
        have b0 := cell_of_row w5 (w.heap.size + 1) 0 _ _ _ hg1
        have b1 := cell_of_row w5 (w.heap.size + 1) 1 _ _ _ hg1
        have b2 := cell_of_row w5 (w.heap.size + 1) 2 _ _ _ hg1
        have c0 := cell_of_row w5 (w.heap.size + 2) 0 _ _ _ hg2
        have c1 := cell_of_row w5 (w.heap.size + 2) 1 _ _ _ hg2
        have c2 := cell_of_row w5 (w.heap.size + 2) 2 _ _ _ hg2
        go_upto_region 12 with fail
        by_cases hk1 : k1 = 2
        · by_cases hk2 : k2 = 2
          · have htx := HTX.out hk1 hk2
            subst hk1 hk2
            have htx2 : Op.bytesLess s1.toList s2.toList = false := by rw [htx]; rfl
            clear htx HTX
            go_wp2
            go_ret
            exact ⟨rfl, hBj⟩
          · have hk2b : (k2 == 2) = false := beq_eq_false_iff_ne.2 hk2
            subst hk1
            go_wp2
            go_ret
            exact ⟨rfl, hBj⟩
        · have hk1b : (k1 == 2) = false := beq_eq_false_iff_ne.2 hk1
          go_wp2
          go_ret
          exact ⟨rfl, hBj⟩
end Go.Proofs.YtinhmchekdolmaaDoor
