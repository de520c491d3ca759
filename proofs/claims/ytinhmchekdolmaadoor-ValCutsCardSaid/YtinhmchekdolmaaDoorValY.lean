/- The reference's Cut. -/
import Derived.Test.YtinhmchekdolmaaDoorProg
import Derived.Test.YtinhmchekdolmaaDoorValX
import Derived.WalkKit
import Derived.WalkSpells
import Derived.WalkLawsBesides
import Derived.Deep.QuietTactic
import Derived.BigQuiet
import Derived.KernelRfl
import Derived.Lib.Hide
namespace Go.Proofs.YtinhmchekdolmaaDoor
open Go.RowKit

set_option maxRecDepth 100000 in
set_option maxHeartbeats 2000000 in
theorem refCut_any (s : ByteArray) (n : Int) (w : World) (hs : s.size ≤ 140737488355328) (hn : n ≤ 9223372036854775807) :
    Calls Tryd.prog 27 #[.string s, .int .i64 n] w fun e w' => e = .returned (.tuple #[.string (cutV s n).1, .int .i64 ((cutV s n).2 : Int)]) ∧ w = w' := by
  have hvs := refUTF8_any s w hs
  rw [utfR_valid] at hvs
  obtain ⟨X, hX⟩ : ∃ X, X = cutV s n := ⟨_, rfl⟩
  rw [← hX]
  unfold cutV at hX
  obtain ⟨b, hb⟩ : ∃ b, b = Lib.validD s.data.toList := ⟨_, rfl⟩
  rw [← hb] at hvs hX
  have HVS := Lib.hid hvs
  have HX := Lib.hid hX
  have HB := Lib.hid hb
  clear hvs hX hb
  rcases b with _ | _
  · have HXX := Lib.hid (HX.out.trans (if_pos rfl))
    clear HX HB
    go_enter Tryd.func27, Tryd.ntmps27
    go_wp2_with (go_at_call 31; (with_reducible refine HVS.out.mono ?_); rintro e w' ⟨rfl, rfl⟩)
    go_ret2
    exact ⟨by rw [HXX.out]; rfl, rfl⟩
  · have HX2 := Lib.hid (HX.out.trans (if_neg (by simp)))
    clear HX
    by_cases hn0 : n < 0
    · have HXX := Lib.hid (HX2.out.trans (if_pos hn0))
      clear HX2
      go_enter Tryd.func27, Tryd.ntmps27
      go_wp2_with (go_at_call 31; (with_reducible refine HVS.out.mono ?_); rintro e w' ⟨rfl, rfl⟩)
      go_ret2
      exact ⟨by rw [HXX.out]; rfl, rfl⟩
    · have HXX := Lib.hid (HX2.out.trans (if_neg hn0))
      clear HX2
      obtain ⟨N, rfl⟩ : ∃ N : Nat, n = N := ⟨n.toNat, by omega⟩
      rw [Int.toNat_natCast] at HXX
      obtain ⟨C, hC⟩ : ∃ C, C = cutL N s.data.toList := ⟨_, rfl⟩
      rw [← hC] at HXX
      have HC := Lib.hid hC
      clear hC
      go_enter Tryd.func27, Tryd.ntmps27
      go_wp2_with (go_at_call 31; (with_reducible refine HVS.out.mono ?_); rintro e w' ⟨rfl, rfl⟩)
      go_loop [6, 7] (fun av kv => ∃ (pos k : Nat), av = .int .i64 (pos : Int) ∧ kv = .int .i64 (k : Int) ∧ k ≤ N ∧ pos ≤ s.size ∧ pos + cutL (N - k) (s.data.toList.drop pos) = C ∧ Lib.validD (s.data.toList.drop pos) = true) (fun _ kv => N - (intOf kv).toNat)
      case atStart => exact ⟨0, 0, rfl, rfl, by omega, by omega, by rw [Nat.zero_add, List.drop_zero]; exact HC.out.symm, by rw [List.drop_zero]; exact HB.out.symm⟩
      case round =>
        clear HB HVS HC
        obtain ⟨pos, k, rfl, rfl, hk, hp, hcut, hval⟩ := hrel
        have HE := Lib.hid (ext0 s pos)
        rcases Nat.lt_or_ge k N with h9 | h9
        · have hk' : (k : Int) < (N : Int) := by omega
          rcases Nat.lt_or_ge pos s.size with h8 | h8
          · have hp' : (pos : Int) < (s.size : Int) := by omega
            have hru := refRune_any s pos w hs
            have hle := runeR_le s pos
            obtain ⟨hv1, hv2⟩ := valid_head (drop_ne s pos h8) hval
            rw [Lib.decodeL_drop] at hv1
            rw [Lib.decodeL_drop, List.drop_drop] at hv2
            have hw := Lib.decodeL_width (s.data.toList.drop pos)
            rw [Lib.decodeL_drop] at hw
            have hstep := cutL_step s pos (N - (k + 1)) h8
            rw [show N - (k + 1) + 1 = N - k by omega] at hstep
            rw [hstep] at hcut
            have hr : runeR s pos = ((Utf8.decode s pos).2, (Utf8.decode s pos).1) := by
              rcases rune_dec s pos h8 with ⟨e1, e2⟩ | ⟨e1, e2⟩
              · exact absurd ⟨by rw [e1], by rw [e1]⟩ hv1
              · exact e1
            rw [hr] at hru hle
            simp only at hru hle
            obtain ⟨d, hd⟩ : ∃ d, d = (Utf8.decode s pos).2 := ⟨_, rfl⟩
            obtain ⟨r, hr2⟩ : ∃ r, r = (Utf8.decode s pos).1 := ⟨_, rfl⟩
            rw [← hd] at hcut hru hle hw hv2
            rw [← hr2] at hru
            have hle2 := hle.2 (by omega)
            have HRU := Lib.hid hru
            have HCUT := Lib.hid hcut
            have HV2 := Lib.hid hv2
            clear hru hcut hv1 hv2 hr hd hr2 hstep hval hle
            go_wp2_with (go_at_call 37; (with_reducible refine HRU.out.mono ?_); rintro e w' ⟨rfl, rfl⟩)
            go_round
            case rel => exact ⟨pos + d, k + 1, by go_num, by go_num, by omega, by omega, by rw [← HCUT.out]; omega, HV2.out⟩
            case measure => simp [intOf]; omega
          · have hp' : ¬ (pos : Int) < (s.size : Int) := by omega
            rw [drop_end s pos h8, cutL_nil, Nat.add_zero] at hcut
            have HC2 := Lib.hid hcut
            have hp2 : (pos : Int) ≤ (s.size : Int) := by omega
            clear hcut hval
            go_wp2
            go_ret2
            exact ⟨by rw [HXX.out, ← HC2.out, ← HE.out]; rfl, rfl⟩
        · have hk' : ¬ (k : Int) < (N : Int) := by omega
          rw [show N - k = 0 by omega] at hcut
          have HC2 := Lib.hid (show pos = C by rw [← hcut]; rfl)
          have hp2 : (pos : Int) ≤ (s.size : Int) := by omega
          clear hcut hval
          go_wp2
          go_ret2
          exact ⟨by rw [HXX.out, ← HC2.out, ← HE.out]; rfl, rfl⟩
end Go.Proofs.YtinhmchekdolmaaDoor
