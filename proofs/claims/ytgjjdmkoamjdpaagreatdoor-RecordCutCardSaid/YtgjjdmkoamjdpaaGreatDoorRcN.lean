/- names.Is and the document's Name. -/
import Derived.Test.YtgjjdmkoamjdpaaGreatDoorProg
import Derived.Test.YtgjjdmkoamjdpaaGreatDoorMem
import Derived.WalkKit
import Derived.WalkSpells
import Derived.WalkLawsBesides
import Derived.Deep.QuietTactic
import Derived.BigQuiet
import Derived.Deep.Cut
import Derived.Deep.CutRange
import Derived.Deep.CutBlock
import Derived.KernelRfl
import Derived.IntWalk
import Derived.Lib.Hide
namespace Go.Proofs.YtgjjdmkoamjdpaaGreatDoor
open Go.RowKit Go.Maps

abbrev Nm := List UInt8
theorem ba_size (l : List UInt8) : (⟨l.toArray⟩ : ByteArray).size = l.length := by show l.toArray.size = _; exact List.size_toArray
def nmB (b : UInt8) : Bool := decide (97 ≤ b.toNat) && decide (b.toNat ≤ 122)
/-- Is it a name? -/
def isNm (l : Nm) : Bool := decide (1 ≤ l.length) && decide (l.length ≤ 16) && l.all nmB
theorem isNm_len {l : Nm} (h : isNm l = true) : 1 ≤ l.length ∧ l.length ≤ 16 := by
  unfold isNm at h
  rw [Bool.and_eq_true, Bool.and_eq_true, decide_eq_true_eq, decide_eq_true_eq] at h
  exact h.1
theorem ba_get (s : ByteArray) (k : Nat) (h : k < s.size) : s[k]'h = s.data.toList[k]'(by rw [Array.length_toList]; exact h) := rfl
theorem is_long (s : ByteArray) (w : World) (h : s.size < 1 ∨ 16 < s.size) : Calls Tryz.prog 34 #[.string s] w fun e w' => e = .returned (.bool (isNm s.data.toList)) ∧ w = w' := by
  have hf : isNm s.data.toList = false := by
    have hl : s.data.toList.length = s.size := Array.length_toList
    unfold isNm
    rcases h with h | h
    · rw [decide_eq_false (by omega)]; rfl
    · rw [decide_eq_false (show ¬ s.data.toList.length ≤ 16 by omega), Bool.and_false]; rfl
  rw [hf]
  clear hf
  rcases h with h | h
  · have h1 : (s.size : Int) < 1 := by omega
    go_enter Tryz.func34, Tryz.ntmps34
    go_wp2
    go_ret
    exact ⟨rfl, rfl⟩
  · have h1 : ¬ (s.size : Int) < 1 := by omega
    have h2 : (16 : Int) < (s.size : Int) := by omega
    go_enter Tryz.func34, Tryz.ntmps34
    go_wp2
    go_ret
    exact ⟨rfl, rfl⟩
set_option maxRecDepth 100000 in
theorem is_short (s : ByteArray) (w : World) (h1 : 1 ≤ s.size) (h2 : s.size ≤ 16) : Calls Tryz.prog 34 #[.string s] w fun e w' => e = .returned (.bool (isNm s.data.toList)) ∧ w = w' := by
  have hl : s.data.toList.length = s.size := Array.length_toList
  have hR : isNm s.data.toList = s.data.toList.all nmB := by
    unfold isNm
    rw [decide_eq_true (by omega), decide_eq_true (show s.data.toList.length ≤ 16 by omega)]
    rfl
  rw [hR]
  obtain ⟨R, hR⟩ : ∃ R, R = s.data.toList.all nmB := ⟨_, rfl⟩
  rw [← hR]
  have HR := Lib.hid (And.intro hl hR)
  have g1 : ¬ (s.size : Int) < 1 := by omega
  have g2 : ¬ (16 : Int) < (s.size : Int) := by omega
  clear hR hl
  go_enter Tryz.func34, Tryz.ntmps34
  go_wp2_with (fail)
  go_loop [14] (fun i => ∃ k : Nat, k ≤ s.size ∧ i = .int .i64 (k : Int) ∧ Hid (R = (s.data.toList.drop k).all nmB)) (fun i => s.size - (intOf i).toNat)
  case atStart => exact ⟨0, by omega, rfl, Lib.hid HR.out.2⟩
  case round =>
    obtain ⟨k, hk, rfl, hrel⟩ := hrel
    by_cases hlt : k < s.size
    · have hd := List.drop_eq_getElem_cons (l := s.data.toList) (i := k) (by rw [HR.out.1]; exact hlt)
      have hrk := hrel.out
      rw [hd, List.all_cons, ← ba_get s k hlt] at hrk
      have hlI : (k : Int) < (s.size : Int) := by omega
      clear hd hrel
      by_cases ha : (s[k]'hlt).toNat < 97
      · have hf : R = false := by rw [hrk]; unfold nmB; rw [decide_eq_false (by omega)]; rfl
        have HF := Lib.hid hf
        clear hf hrk
        have haI : ((s[k]'hlt).toNat : Int) < 97 := by omega
        go_wp2_with (fail)
        go_ret
        exact ⟨by rw [HF.out]; rfl, rfl⟩
      · by_cases hz : 122 < (s[k]'hlt).toNat
        · have hf : R = false := by rw [hrk]; unfold nmB; rw [decide_eq_false (show ¬ (s[k]'hlt).toNat ≤ 122 by omega), Bool.and_false]; rfl
          have HF := Lib.hid hf
          clear hf hrk
          have haI : ¬ ((s[k]'hlt).toNat : Int) < 97 := by omega
          have hzI : (122 : Int) < ((s[k]'hlt).toNat : Int) := by omega
          go_wp2_with (fail)
          go_ret
          exact ⟨by rw [HF.out]; rfl, rfl⟩
        · have hf : Hid (R = (s.data.toList.drop (k + 1)).all nmB) := Lib.hid (by rw [hrk]; unfold nmB; rw [decide_eq_true (show 97 ≤ (s[k]'hlt).toNat by omega), decide_eq_true (show (s[k]'hlt).toNat ≤ 122 by omega)]; rfl)
          clear hrk
          have haI : ¬ ((s[k]'hlt).toNat : Int) < 97 := by omega
          have hzI : ¬ (122 : Int) < ((s[k]'hlt).toNat : Int) := by omega
          go_wp2_with (fail)
          go_round
          case rel => exact ⟨k + 1, by omega, by go_num, hf⟩
          case measure => simp [intOf]; omega
    · have g0 : ¬ (k : Int) < (s.size : Int) := by omega
      have hrk := hrel.out
      rw [List.drop_of_length_le (by rw [HR.out.1]; omega), List.all_nil] at hrk
      have HK := Lib.hid hrk
      clear hrk hrel
      go_wp2_with (fail)
      go_ret
      exact ⟨by rw [HK.out]; rfl, rfl⟩
/-- names.Is. -/
theorem is_any (l : Nm) (w : World) : Calls Tryz.prog 34 #[.string ⟨l.toArray⟩] w fun e w' => e = .returned (.bool (isNm l)) ∧ w = w' := by
  have hs := ba_size l
  by_cases h : l.length < 1 ∨ 16 < l.length
  · exact is_long ⟨l.toArray⟩ w (by rw [hs]; exact h)
  · exact is_short ⟨l.toArray⟩ w (by rw [hs]; omega) (by rw [hs]; omega)

set_option maxRecDepth 100000 in
set_option maxHeartbeats 1000000 in
theorem name_ba (s : ByteArray) (w : World) (hz : s.size ≤ maxLen) : Calls Tryz.prog 25 #[.string s] w fun e w' => e = .returned (.bool (isNm s.data.toList)) ∧ w = w' := by
  have hl : s.data.toList.length = s.size := Array.length_toList
  have hzI : (s.size : Int) ≤ 9223372036854775807 := by simp only [maxLen] at hz; omega
  obtain ⟨R, hR⟩ : ∃ R, R = isNm s.data.toList := ⟨_, rfl⟩
  rw [← hR]
  have HR := Lib.hid (And.intro hl hR)
  clear hR hl hz
  go_enter Tryz.func25, Tryz.ntmps25
  go_wp2_with (fail)
  go_loop [3] (fun i => ∃ k : Nat, k ≤ s.size ∧ i = .int .i64 (k : Int) ∧ Hid (s.data.toList.all nmB = (s.data.toList.drop k).all nmB)) (fun i => s.size - (intOf i).toNat)
  case atStart => exact ⟨0, by omega, rfl, Lib.hid rfl⟩
  case round =>
    obtain ⟨k, hk, rfl, hrel⟩ := hrel
    by_cases hlt : k < s.size
    · have hd := List.drop_eq_getElem_cons (l := s.data.toList) (i := k) (by rw [HR.out.1]; exact hlt)
      have hrk := hrel.out
      rw [hd, List.all_cons, ← ba_get s k hlt] at hrk
      have hlI : (k : Int) < (s.size : Int) := by omega
      clear hd hrel
      by_cases ha : (s[k]'hlt).toNat < 97
      · have hf : s.data.toList.all nmB = false := by rw [hrk]; unfold nmB; rw [decide_eq_false (by omega)]; rfl
        have HF := Lib.hid (show R = false from by rw [HR.out.2]; unfold isNm; rw [hf, Bool.and_false])
        clear hf hrk
        have haI : ((s[k]'hlt).toNat : Int) < 97 := by omega
        go_wp2_with (fail)
        go_ret
        exact ⟨by rw [HF.out]; rfl, rfl⟩
      · by_cases hzz : 122 < (s[k]'hlt).toNat
        · have hf : s.data.toList.all nmB = false := by rw [hrk]; unfold nmB; rw [decide_eq_false (show ¬ (s[k]'hlt).toNat ≤ 122 by omega), Bool.and_false]; rfl
          have HF := Lib.hid (show R = false from by rw [HR.out.2]; unfold isNm; rw [hf, Bool.and_false])
          clear hf hrk
          have haI : ¬ ((s[k]'hlt).toNat : Int) < 97 := by omega
          have hzI2 : (122 : Int) < ((s[k]'hlt).toNat : Int) := by omega
          go_wp2_with (fail)
          go_ret
          exact ⟨by rw [HF.out]; rfl, rfl⟩
        · have hf : Hid (s.data.toList.all nmB = (s.data.toList.drop (k + 1)).all nmB) := Lib.hid (by rw [hrk]; unfold nmB; rw [decide_eq_true (show 97 ≤ (s[k]'hlt).toNat by omega), decide_eq_true (show (s[k]'hlt).toNat ≤ 122 by omega)]; rfl)
          clear hrk
          have haI : ¬ ((s[k]'hlt).toNat : Int) < 97 := by omega
          have hzI2 : ¬ (122 : Int) < ((s[k]'hlt).toNat : Int) := by omega
          go_wp2_with (fail)
          go_round
          case rel => exact ⟨k + 1, by omega, by go_num, hf⟩
          case measure => simp [intOf]; omega
    · have g0 : ¬ (k : Int) < (s.size : Int) := by omega
      have hrk := hrel.out
      rw [List.drop_of_length_le (by rw [HR.out.1]; omega), List.all_nil] at hrk
      have hR := HR.out.2
      unfold isNm at hR
      rw [hrk, HR.out.1, Bool.and_true] at hR
      clear hrk hrel
      by_cases h0 : 1 ≤ s.size
      · by_cases h1 : s.size ≤ 16
        · have HF := Lib.hid (show R = true from by rw [hR, decide_eq_true h0, decide_eq_true h1]; rfl)
          have i0 : (0 : Int) < (s.size : Int) := by omega
          have i1 : (s.size : Int) ≤ 16 := by omega
          clear hR
          go_wp2_with (fail)
          go_ret
          exact ⟨by rw [HF.out]; rfl, rfl⟩
        · have HF := Lib.hid (show R = false from by rw [hR, decide_eq_false h1, Bool.and_false])
          have i0 : (0 : Int) < (s.size : Int) := by omega
          have i1 : ¬ (s.size : Int) ≤ 16 := by omega
          clear hR
          go_wp2_with (fail)
          go_ret
          exact ⟨by rw [HF.out]; rfl, rfl⟩
      · have HF := Lib.hid (show R = false from by rw [hR, decide_eq_false h0, Bool.false_and])
        have i0 : ¬ (0 : Int) < (s.size : Int) := by omega
        clear hR
        go_wp2_with (fail)
        go_ret
        exact ⟨by rw [HF.out]; rfl, rfl⟩
theorem name_any (l : Nm) (w : World) (hz : l.length ≤ maxLen) : Calls Tryz.prog 25 #[.string ⟨l.toArray⟩] w fun e w' => e = .returned (.bool (isNm l)) ∧ w = w' :=
  name_ba ⟨l.toArray⟩ w (by rw [ba_size]; exact hz)
end Go.Proofs.YtgjjdmkoamjdpaaGreatDoor
