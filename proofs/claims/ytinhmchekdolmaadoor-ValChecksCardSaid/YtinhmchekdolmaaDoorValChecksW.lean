/- ValChecks: the walk. -/
import Derived.Test.YtinhmchekdolmaaDoorProg
import Derived.Test.YtinhmchekdolmaaDoorValN
import Derived.Test.YtinhmchekdolmaaDoorValM
import Derived.Test.YtinhmchekdolmaaDoorValBB
import Derived.WalkKit
import Derived.WalkSpells
import Derived.WalkLawsBesides
import Derived.Deep.QuietTactic
import Derived.Deep.RegionHeld3
import Derived.Deep.DeepCutAuto
import Derived.Deep.CutRange
import Derived.BigQuiet
import Derived.KernelRfl
import Derived.Lib.Hide
namespace Go.Proofs.YtinhmchekdolmaaDoor
open Go.RowKit

set_option maxRecDepth 100000 in
set_option maxHeartbeats 4000000 in
theorem valChecks_walk (a : VVal) (w : World) (hf : a.fits) (hT : Tabs w) :
    Calls Tryd.prog 3 #[.agg a.cells] w fun e w' => e = .returned (.bool true) ∧ Below w.heap.size w w' := by
  have h1 := fun W => refCheck_any a W hf
  rw [ckR_eq] at h1
  have h2 := fun W (h : Tabs W) => encode_any a W hf h
  have h3 := fun W (h : Tabs W) => show_any a W hf h
  have h4 := fun W (h : Tabs W) => check_any a W hf h
  have h5 := fun (hg : ckN a = 0) W => refEncode_any a W hf hg
  have h6 := fun (hg : ckN a = 0) W => refShow_any a W hf hg
  have he1 : ckN a = 0 → encR a = encV a := fun h => if_pos h
  have he2 : ckN a ≠ 0 → encR a = [] := fun h => if_neg h
  have hs1 : ckN a = 0 → showR a = showV a := fun h => if_pos h
  have hs2 : ckN a ≠ 0 → showR a = [] := fun h => if_neg h
  obtain ⟨c, hc⟩ : ∃ c, c = ckN a := ⟨_, rfl⟩
  obtain ⟨E, hE⟩ : ∃ c, c = encR a := ⟨_, rfl⟩
  obtain ⟨S, hS⟩ : ∃ c, c = showR a := ⟨_, rfl⟩
  rw [← hc] at h1 h2 h3 h4 h5 h6 he1 he2 hs1 hs2
  rw [← hE] at h2 he1 he2
  rw [← hS] at h3 hs1 hs2
  have h5' : ∀ (hg : c = 0) W, Calls Tryd.prog 16 #[.agg a.cells] W fun e w' => ∃ v', e = .returned v' ∧ OwnB w' W.heap.size 5 v' E ∧ Below W.heap.size W w' := fun hg W => by
    rw [he1 hg]; exact h5 hg W
  have h6' : ∀ (hg : c = 0) W, Calls Tryd.prog 17 #[.agg a.cells] W fun e w' => e = .returned (.string ⟨S.toArray⟩) ∧ Below W.heap.size W w' := fun hg W => by
    rw [hs1 hg]; exact h6 hg W
  clear h5 h6 hc hE hS he1 hs1 hf
  obtain ⟨k, n, s⟩ := a
  simp only [VVal.cells] at h1 h2 h3 h4 h5' h6' ⊢
  have H1 := Lib.hid h1
  have H2 := Lib.hid h2
  have H3 := Lib.hid h3
  have H4 := Lib.hid h4
  have H5 := Lib.hid h5'
  have H6 := Lib.hid h6'
  have HE2 := Lib.hid he2
  have HS2 := Lib.hid hs2
  have hB0 : Below w.heap.size w (w.alloc (.cells #[.int .i64 k, .int .i64 n, .string s] 23)) := (Below.refl _ _).alloc (Nat.le_refl _) _
  have hg0 : (w.alloc (.cells #[.int .i64 k, .int .i64 n, .string s] 23)).heap[w.heap.size]? = some (.cells #[.int .i64 k, .int .i64 n, .string s] 23 (0, 0)) := heap_alloc_new w _
  have hz0 : w.heap.size < (w.alloc (.cells #[.int .i64 k, .int .i64 n, .string s] 23)).heap.size := by simp
  have HT0 := Lib.hid (hT.below hB0)
  have HB0 := Lib.hid hB0
  have HG0 := Lib.hid hg0
  have HZ0 := Lib.hid hz0
  clear h1 h2 h3 h4 h5' h6' he2 hs2 hT hB0 hg0 hz0
  by_cases hlen : 2000 < s.size
  · have hlen' : (2000 : Int) < (s.size : Int) := by omega
    clear hlen
    go_enter Tryd.func3, Tryd.ntmps3
    go_wp2_with fail
    refine (awake_any _ HT0.out).mono ?_
    rintro e w1 ⟨rfl, hb1⟩
    have HT1 := Lib.hid (HT0.out.below hb1)
    have hg1 := (hb1.block w.heap.size HZ0.out).trans HG0.out
    have a2 := cell_of_row w1 w.heap.size 2 _ _ _ hg1
    have hB1 := HB0.out.trans (hb1.mono HB0.out.size)
    clear hb1
    go_wp2_with fail
    refine (awake_any _ HT1.out).mono ?_
    rintro e w2 ⟨rfl, hb2⟩
    clear a2
    go_wp2
    go_ret
    exact ⟨rfl, hB1.trans (hb2.mono hB1.size)⟩
  · have hlen' : ¬ (2000 : Int) < (s.size : Int) := by omega
    clear hlen
    go_enter Tryd.func3, Tryd.ntmps3
    go_wp2_with fail
    refine (awake_any _ HT0.out).mono ?_
    rintro e w1 ⟨rfl, hb1⟩
    have hg := (hb1.block w.heap.size HZ0.out).trans HG0.out
    have hB := HB0.out.trans (hb1.mono HB0.out.size)
    have hz := Nat.lt_of_lt_of_le HZ0.out hb1.size
    have HT := Lib.hid (HT0.out.below hb1)
    clear hb1 HG0 HB0 HZ0 HT0
    have a0 := cell_of_row w1 w.heap.size 0 _ _ _ hg
    have a1 := cell_of_row w1 w.heap.size 1 _ _ _ hg
    have a2 := cell_of_row w1 w.heap.size 2 _ _ _ hg
    go_wp2_with fail
    clear a0 a1 a2
    refine (H1.out _).mono ?_
    rintro e w2 ⟨rfl, hb⟩
    replace hg := (hb.block w.heap.size hz).trans hg
    replace HT := Lib.hid (HT.out.below hb)
    replace hB := hB.trans (hb.mono hB.size)
    replace hz := Nat.lt_of_lt_of_le hz hb.size
    clear hb
    have a0 := cell_of_row w2 w.heap.size 0 _ _ _ hg
    have a1 := cell_of_row w2 w.heap.size 1 _ _ _ hg
    have a2 := cell_of_row w2 w.heap.size 2 _ _ _ hg
    go_wp2_with fail
    clear a0 a1 a2
    refine (H2.out _ HT.out).mono ?_
    rintro e w3 ⟨v3, rfl, hown, hb⟩
    replace hg := (hb.block w.heap.size hz).trans hg
    replace HT := Lib.hid (HT.out.below hb)
    replace hB := hB.trans (hb.mono hB.size)
    replace hz := Nat.lt_of_lt_of_le hz hb.size
    clear hb
    obtain ⟨Ae, ce, rfl, -, -, hr, -⟩ := hown.shape
    clear hown
    have a0 := cell_of_row w3 w.heap.size 0 _ _ _ hg
    have a1 := cell_of_row w3 w.heap.size 1 _ _ _ hg
    have a2 := cell_of_row w3 w.heap.size 2 _ _ _ hg
    go_wp2_with fail
    clear a0 a1 a2
    refine (H3.out _ HT.out).mono ?_
    rintro e w4 ⟨rfl, hb⟩
    replace hg := (hb.block w.heap.size hz).trans hg
    replace HT := Lib.hid (HT.out.below hb)
    replace hB := hB.trans (hb.mono hB.size)
    replace hz := Nat.lt_of_lt_of_le hz hb.size
    replace hr := (hr.below hb (Nat.le_refl _)).more hb.size
    clear hb
    have a0 := cell_of_row w4 w.heap.size 0 _ _ _ hg
    have a1 := cell_of_row w4 w.heap.size 1 _ _ _ hg
    have a2 := cell_of_row w4 w.heap.size 2 _ _ _ hg
    go_wp2_with fail
    clear a0 a1 a2
    refine (H4.out _ HT.out).mono ?_
    rintro e w5 ⟨rfl, hb⟩
    replace hg := (hb.block w.heap.size hz).trans hg
    replace hB := hB.trans (hb.mono hB.size)
    replace hz := Nat.lt_of_lt_of_le hz hb.size
    replace hr := (hr.below hb (Nat.le_refl _)).more hb.size
    clear hb HT H1 H2 H3 H4
    by_cases hc : c = 0
    · have h5 := H5.out hc
      have h6 := H6.out hc
      subst hc
      have H5' := Lib.hid h5
      have H6' := Lib.hid h6
      have hKS : ∀ w', Below w5.heap.size w5 w' → (Below w5.heap.size w5 w' ∧ (convert 26 9 (.slice Ae E.length ce)).run Tryd.prog w' = .ok (.string ⟨E.toArray⟩) w' ∧ w'.cell? ⟨w.heap.size, 0, none⟩ = some (.int .i64 k) ∧ w'.cell? ⟨w.heap.size, 1, none⟩ = some (.int .i64 n) ∧ w'.cell? ⟨w.heap.size, 2, none⟩ = some (.string s)) := fun w' h =>
        ⟨h, strAt0 (hr.below h (Nat.le_refl _)) rfl, cell_of_row w' w.heap.size 0 _ _ _ ((h.block w.heap.size hz).trans hg), cell_of_row w' w.heap.size 1 _ _ _ ((h.block w.heap.size hz).trans hg), cell_of_row w' w.heap.size 2 _ _ _ ((h.block w.heap.size hz).trans hg)⟩
      have KS := Lib.hid hKS
      clear h5 h6 hKS hr hg HE2 HS2 H5 H6
      go_upto_region 10 with fail
      go_region_held (fun w' => Below w5.heap.size w5 w' ∧ (convert 26 9 (.slice Ae E.length ce)).run Tryd.prog w' = .ok (.string ⟨E.toArray⟩) w' ∧ w'.cell? ⟨w.heap.size, 0, none⟩ = some (.int .i64 k) ∧ w'.cell? ⟨w.heap.size, 1, none⟩ = some (.int .i64 n) ∧ w'.cell? ⟨w.heap.size, 2, none⟩ = some (.string s))
        (first
          | exact KS.out _ (Below.refl _ _).drew
          | exact KS.out _ hB7
          | exact KS.out _ hB6
          | assumption)
        (first
          | (go_at_call 16; (with_reducible refine (H5'.out w5.drew).mono ?_); rintro e w6 ⟨v6, rfl, hown6, hb6'⟩; obtain ⟨A6, c6, rfl, hc6, hm6, hr6, _⟩ := hown6.shape; have hB6 : Below w5.heap.size w5 w6 := (Below.refl _ _).drew.trans hb6'; have hcv6 := strAt0 (c := c6) hr6 rfl)
          | (go_at_call 17; (with_reducible refine (H6'.out w6).mono ?_); rintro e w7 ⟨rfl, hb7⟩; have hB7 : Below w5.heap.size w5 w7 := hB6.trans (hb7.mono hB6.size)))
      all_goals
        go_wp2
        go_ret
        exact ⟨rfl, hB.trans (hB7.mono hB.size)⟩
    · have hE := HE2.out hc
      have hS := HS2.out hc
      subst hE hS
      have hc' : ((c : Int) == 0) = false := by rw [beq_eq_false_iff_ne]; omega
      clear H5 H6 HE2 HS2 hc hg hr
      go_wp2
      go_ret
      exact ⟨rfl, hB⟩
end Go.Proofs.YtinhmchekdolmaaDoor
