/- The document's Name. -/
import Derived.Test.YtgjjdmkoamjdpaaJoOp
namespace Go.Proofs.Ytgjjdmkoamjdpaa
open Go.RowKit Go.Maps

set_option maxRecDepth 100000 in
set_option maxHeartbeats 1000000 in
theorem name_ba (s : ByteArray) (w : World) (hz : s.size ≤ maxLen) : Calls Try.prog 13 #[.string s] w fun e w' => e = .returned (.bool (isNm s.data.toList)) ∧ w = w' := by
  have hl : s.data.toList.length = s.size := Array.length_toList
  have hzI : (s.size : Int) ≤ 9223372036854775807 := by simp only [maxLen] at hz; omega
  obtain ⟨R, hR⟩ : ∃ R, R = isNm s.data.toList := ⟨_, rfl⟩
  rw [← hR]
  have HR := Lib.hid (And.intro hl hR)
  clear hR hl hz
  go_enter Try.func13, Try.ntmps13
  go_wp2_with (fail)
  go_loop [3] (fun i => ∃ k : Nat, k ≤ s.size ∧ i = .int .i64 (k : Int) ∧ Hid (s.data.toList.all nmB = (s.data.toList.drop k).all nmB)) (fun i => s.size - (intOf i).toNat)
  case atStart => exact ⟨0, by omega, rfl, Lib.hid rfl⟩
  case round =>
    obtain ⟨k, hk, rfl, hrel⟩ := hrel
    by_cases hlt : k < s.size
    · have hd := List.drop_eq_getElem_cons (l := s.data.toList) (i := k) (by rw [HR.out.1]; exact hlt)
      have hrk := hrel.out
      rw [hd, List.all_cons, ← ba_get s k hlt] at hrk
      have hlI : (k : Int) < (s.size : Int) := by omega
      clear hd hrel
      by_cases ha : (s[k]'hlt).toNat < 97
      · have hf : s.data.toList.all nmB = false := by rw [hrk]; unfold nmB; rw [decide_eq_false (by omega)]; rfl
        have HF := Lib.hid (show R = false from by rw [HR.out.2]; unfold isNm; rw [hf, Bool.and_false])
        clear hf hrk
        have haI : ((s[k]'hlt).toNat : Int) < 97 := by omega
        go_wp2_with (fail)
        go_ret
        exact ⟨by rw [HF.out]; rfl, rfl⟩
      · by_cases hzz : 122 < (s[k]'hlt).toNat
        · have hf : s.data.toList.all nmB = false := by rw [hrk]; unfold nmB; rw [decide_eq_false (show ¬ (s[k]'hlt).toNat ≤ 122 by omega), Bool.and_false]; rfl
          have HF := Lib.hid (show R = false from by rw [HR.out.2]; unfold isNm; rw [hf, Bool.and_false])
          clear hf hrk
          have haI : ¬ ((s[k]'hlt).toNat : Int) < 97 := by omega
          have hzI2 : (122 : Int) < ((s[k]'hlt).toNat : Int) := by omega
          go_wp2_with (fail)
          go_ret
          exact ⟨by rw [HF.out]; rfl, rfl⟩
        · have hf : Hid (s.data.toList.all nmB = (s.data.toList.drop (k + 1)).all nmB) := Lib.hid (by rw [hrk]; unfold nmB; rw [decide_eq_true (show 97 ≤ (s[k]'hlt).toNat by omega), decide_eq_true (show (s[k]'hlt).toNat ≤ 122 by omega)]; rfl)
          clear hrk
          have haI : ¬ ((s[k]'hlt).toNat : Int) < 97 := by omega
          have hzI2 : ¬ (122 : Int) < ((s[k]'hlt).toNat : Int) := by omega
          go_wp2_with (fail)
          go_round
          case rel => exact ⟨k + 1, by omega, by go_num, hf⟩
          case measure => simp [intOf]; omega
    · have g0 : ¬ (k : Int) < (s.size : Int) := by omega
      have hrk := hrel.out
      rw [List.drop_of_length_le (by rw [HR.out.1]; omega), List.all_nil] at hrk
      have hR := HR.out.2
      unfold isNm at hR
      rw [hrk, HR.out.1, Bool.and_true] at hR
      clear hrk hrel
      by_cases h0 : 1 ≤ s.size
      · by_cases h1 : s.size ≤ 16
        · have HF := Lib.hid (show R = true from by rw [hR, decide_eq_true h0, decide_eq_true h1]; rfl)
          have i0 : (0 : Int) < (s.size : Int) := by omega
          have i1 : (s.size : Int) ≤ 16 := by omega
          clear hR
          go_wp2_with (fail)
          go_ret
          exact ⟨by rw [HF.out]; rfl, rfl⟩
        · have HF := Lib.hid (show R = false from by rw [hR, decide_eq_false h1, Bool.and_false])
          have i0 : (0 : Int) < (s.size : Int) := by omega
          have i1 : ¬ (s.size : Int) ≤ 16 := by omega
          clear hR
          go_wp2_with (fail)
          go_ret
          exact ⟨by rw [HF.out]; rfl, rfl⟩
      · have HF := Lib.hid (show R = false from by rw [hR, decide_eq_false h0, Bool.false_and])
        have i0 : ¬ (0 : Int) < (s.size : Int) := by omega
        clear hR
        go_wp2_with (fail)
        go_ret
        exact ⟨by rw [HF.out]; rfl, rfl⟩
theorem name_any (l : Nm) (w : World) (hz : l.length ≤ maxLen) : Calls Try.prog 13 #[.string ⟨l.toArray⟩] w fun e w' => e = .returned (.bool (isNm l)) ∧ w = w' :=
  name_ba ⟨l.toArray⟩ w (by rw [ba_size]; exact hz)
end Go.Proofs.Ytgjjdmkoamjdpaa
