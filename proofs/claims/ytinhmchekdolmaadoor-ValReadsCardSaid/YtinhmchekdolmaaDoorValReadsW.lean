/- ValReads: the walk. -/
import Derived.Test.YtinhmchekdolmaaDoorProg
import Derived.Test.YtinhmchekdolmaaDoorValN
import Derived.Test.YtinhmchekdolmaaDoorValKK
import Derived.WalkKit
import Derived.WalkSpells
import Derived.WalkLawsBesides
import Derived.Deep.QuietTactic
import Derived.Deep.RegionHeld3
import Derived.Deep.DeepCutAuto
import Derived.Deep.CutRange
import Derived.BigQuiet
import Derived.KernelRfl
import Derived.Lib.Hide
namespace Go.Proofs.YtinhmchekdolmaaDoor
open Go.RowKit

theorem rtV_zero (l : List UInt8) (h : (rtV l).2 = 0) : rtV l = (noV, 0) := by
  unfold rtV at h ⊢
  split at h
  · rename_i h1; rw [if_pos h1]
  · rename_i h1
    rw [if_neg h1]
    split at h
    · exfalso; simp only at h; omega
    · rename_i h2; rw [if_neg h2]
theorem rvV_zero (l : List UInt8) (h : (rvV l).2 = 0) : rvV l = (noV, 0) := by
  unfold rvV at h ⊢
  by_cases h1 : l.length < 2
  · rw [if_pos h1]
  · rw [if_neg h1] at h ⊢
    by_cases h2 : (l.getD 0 0).toNat = 1
    · rw [if_pos h2] at h ⊢
      by_cases h3 : (rdD (l.drop 1)).2 = 0
      · rw [if_pos h3]
      · rw [if_neg h3] at h
        exfalso; simp only at h; omega
    · rw [if_neg h2] at h ⊢
      by_cases h3 : (l.getD 0 0).toNat = 3
      · rw [if_pos h3] at h ⊢
        by_cases h4 : 1 < (l.getD 1 0).toNat
        · rw [if_pos h4]
        · rw [if_neg h4] at h
          exfalso; simp only at h; omega
      · rw [if_neg h3] at h ⊢
        by_cases h4 : (l.getD 0 0).toNat = 2
        · rw [if_pos h4] at h ⊢
          exact rtV_zero l h
        · rw [if_neg h4]
theorem dcV_rv (l : List UInt8) : ∃ xe : Nat, dcV l = ((rvV l).1, (rvV l).2, xe) ∧ ((rvV l).2 = 0 ∧ xe = 6 ∨ 0 < (rvV l).2 ∧ xe = 0) := by
  unfold dcV
  by_cases h : (rvV l).2 = 0
  · refine ⟨6, ?_, .inl ⟨h, rfl⟩⟩
    rw [if_pos h, rvV_zero l h]
  · exact ⟨0, if_neg h, .inr ⟨by omega, rfl⟩⟩

set_option maxRecDepth 100000 in
set_option maxHeartbeats 4000000 in
theorem valReads_walk (A : Option Addr) (l : List UInt8) (c : Nat) (w : World) (hr : Rd w w.heap.size A (u8s l)) (hc : l.length ≤ c) (hcm : c ≤ 140737488351232) (hT : Tabs w) :
    Calls Tryd.prog 5 #[.slice A l.length c] w fun e w' => e = .returned (.bool true) ∧ Below w.heap.size w w' := by
  obtain ⟨i0, hi, hz0, hz1, hz2⟩ := info_parts infoU8
  have hd := fun A' c' W (h : Rd W W.heap.size A' (u8s l)) (h1 : l.length ≤ c') (h2 : c' ≤ 9223372036854775807) (h3 : Tabs W) => decode_any A' l l.length c' W.heap.size W rfl h (Nat.le_refl _) (by omega) h1 h2 h3
  have hrf := fun W (h : Rd W w.heap.size A (u8s l)) (h1 : w.heap.size ≤ W.heap.size) => refDecode_any A l l.length c w.heap.size W rfl h h1 (by omega) hc (by omega)
  obtain ⟨xe, hdc, hxe⟩ := dcV_rv l
  rw [hdc] at hd
  obtain ⟨⟨⟨xk, xn, xs⟩, xz⟩, hX⟩ : ∃ x, x = rvV l := ⟨_, rfl⟩
  rw [← hX] at hd hrf hxe
  simp only [VVal.cells] at hd hrf hxe
  have HD := Lib.hid hd
  have HRF := Lib.hid hrf
  have HXE := Lib.hid hxe
  have HT := Lib.hid hT
  have HR := Lib.hid hr
  clear hd hrf hdc hX hT hr hxe
  by_cases hlen : 2000 < l.length
  · have hlen' : (2000 : Int) < (l.length : Int) := by omega
    clear hlen
    go_enter Tryd.func5, Tryd.ntmps5
    go_wp2_with fail
    refine (awake_any _ HT.out).mono ?_
    rintro e w1 ⟨rfl, hb1⟩
    have HT1 := Lib.hid (HT.out.below hb1)
    go_wp2_with fail
    refine (awake_any _ HT1.out).mono ?_
    rintro e w2 ⟨rfl, hb2⟩
    go_wp2
    go_ret
    exact ⟨rfl, hb1.trans (hb2.mono hb1.size)⟩
  · have hlen' : ¬ (2000 : Int) < (l.length : Int) := by omega
    have hl2 : l.length ≤ 2000 := by omega
    clear hlen
    go_enter Tryd.func5, Tryd.ntmps5
    go_wp2_with fail
    refine (awake_any _ HT.out).mono ?_
    rintro e w1 ⟨rfl, hb1⟩
    have hs1 := hb1.size
    have hr1 := HR.out.below hb1 (Nat.le_refl _)
    have HT1 := Lib.hid (HT.out.below hb1)
    clear HT
    go_wp2_with (at_builtin; refine wpList_appB _ rfl (.tmp 17) (.tmp 18) _ rfl w1.heap.size 5 i0 _ Tryd.underlying26 hi hz0 hz1 hz2 rfl (.slice (some ⟨w1.heap.size, 0, none⟩) 0 0) [] rfl (OwnB.lit0 w1 (Nat.le_refl _)) w.heap.size A l.length c l rfl rfl (hr1.alloc hs1 _) (by simp; omega) (by simp) ?_; intro v2 w2 hown2 hg2 hat2; rw [List.nil_append] at hown2)
    have hb2 : Below w1.heap.size w1 w2 := ((Below.refl _ _).alloc (Nat.le_refl _) _).grown hg2 (by simp) (by intro k hk; simp [Value.ownBlock] at hk; omega)
    have hB2 := hb1.trans (hb2.mono hs1)
    have HT2 := Lib.hid (HT1.out.below hb2)
    have hr2 := hr1.below hb2 hs1
    have hs2 := hb2.size
    clear hg2 hat2 hb2 hb1 hr1 HT1 HR
    obtain ⟨Ai, ci, rfl, hci, hmi, hri, -⟩ := hown2.shape
    clear hown2
    refine (HD.out _ _ _ hri hci hmi HT2.out).mono ?_
    rintro e w3 ⟨rfl, hb⟩
    have hs3 := hb.size
    have hs3' : (w3.alloc (.cells #[.int .i64 xk, .int .i64 xn, .string xs] 23)).heap.size = w3.heap.size + 1 := by simp
    have hx3 := heap_alloc_new w3 (.cells #[.int .i64 xk, .int .i64 xn, .string xs] 23)
    have hri3 := (hri.below hb (Nat.le_refl _)).alloc hs3 (.cells #[.int .i64 xk, .int .i64 xn, .string xs] 23)
    have hr3 := (hr2.below hb (by omega)).alloc (by omega) (.cells #[.int .i64 xk, .int .i64 xn, .string xs] 23)
    have hB3 := hB2.trans (hb.mono hB2.size)
    replace hB3 := hB3.alloc hB3.size (.cells #[.int .i64 xk, .int .i64 xn, .string xs] 23)
    clear hb hri hr2 hB2 HT2 HD
    go_wp2_with fail
    refine (HRF.out _ hr3 (by omega)).mono ?_
    rintro e w4 ⟨rfl, hb⟩
    have hs4 := hb.size
    rw [hs3'] at hs4
    have hx4 := at_old ((hb.block w3.heap.size (by omega)).trans hx3) (.cells #[.int .i64 xk, .int .i64 xn, .string xs] 23) (by omega)
    have hy4 := heap_alloc_new w4 (.cells #[.int .i64 xk, .int .i64 xn, .string xs] 23)
    have hri4 := (hri3.below hb (by omega)).alloc (by omega) (.cells #[.int .i64 xk, .int .i64 xn, .string xs] 23)
    have hr4 := (hr3.below hb (by omega)).alloc (by omega) (.cells #[.int .i64 xk, .int .i64 xn, .string xs] 23)
    have hB4 := hB3.trans (hb.mono hB3.size)
    replace hB4 := hB4.alloc hB4.size (.cells #[.int .i64 xk, .int .i64 xn, .string xs] 23)
    have q1 := strAt0 (n := l.length) (c := ci) hri4 rfl
    have q2 := strAt0 (n := l.length) (c := c) hr4 rfl
    clear hb hx3 hri3 hr3 hB3 HRF hri4 hr4
    have d0 := cell_of_row _ w3.heap.size 0 _ _ _ hx4
    have d1 := cell_of_row _ w3.heap.size 1 _ _ _ hx4
    have d2 := cell_of_row _ w3.heap.size 2 _ _ _ hx4
    have e0 := cell_of_row _ w4.heap.size 0 _ _ _ hy4
    have e1 := cell_of_row _ w4.heap.size 1 _ _ _ hy4
    have e2 := cell_of_row _ w4.heap.size 2 _ _ _ hy4
    clear hx4 hy4
    rcases HXE.out with ⟨h1, h2⟩ | ⟨h1, h2⟩
    · subst h1 h2
      clear HXE
      go_wp2
      go_ret
      exact ⟨rfl, hB4⟩
    · subst h2
      have h1' : (0 : Int) < (xz : Int) := by omega
      clear HXE
      go_wp2
      go_ret
      exact ⟨rfl, hB4⟩
end Go.Proofs.YtinhmchekdolmaaDoor
