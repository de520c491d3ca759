/- The law's own hex. -/
import Derived.Test.YtinhmchekdolmaaDoorProg
import Derived.Test.YtinhmchekdolmaaDoorValMM
import Derived.Test.YtinhmchekdolmaaDoorValAA
import Derived.WalkKit
import Derived.WalkSpells
import Derived.WalkLawsBesides
import Derived.Deep.QuietTactic
import Derived.BigQuiet
import Derived.KernelRfl
import Derived.Lib.Hide
namespace Go.Proofs.YtinhmchekdolmaaDoor
open Go.RowKit

/-- A number's digits of sixteen, the highest first. -/
def hexL (f : Nat → UInt8) (n : Nat) : List UInt8 := if h : n < 16 then [f n] else hexL f (n / 16) ++ [f (n % 16)]
termination_by n
decreasing_by omega
theorem hexL_len (f : Nat → UInt8) : ∀ (k n : Nat), n < 16 ^ (k + 1) → (hexL f n).length ≤ k + 1 ∧ 1 ≤ (hexL f n).length
  | 0, n, h => by rw [hexL, dif_pos (by simpa using h)]; simp
  | k + 1, n, h => by
    rw [hexL]
    by_cases h16 : n < 16
    · rw [dif_pos h16]; simp
    · have := hexL_len f k (n / 16) (by rw [Nat.pow_succ] at h; omega)
      rw [dif_neg h16, List.length_append, List.length_cons, List.length_nil]
      omega
theorem bs_app (a b : List UInt8) : (⟨a.toArray⟩ : ByteArray) ++ ⟨b.toArray⟩ = ⟨(a ++ b).toArray⟩ := by
  apply ByteArray.ext
  rw [ByteArray.data_append]
  simp

set_option maxRecDepth 100000 in
set_option maxHeartbeats 2000000 in
theorem lawHex_any (n : Nat) (hn : n ≤ 1114111) (DG : ByteArray) (f : Nat → UInt8) (hs : DG.size = 16) (hf : ∀ k, k < 16 → DG.extract k (k + 1) = ⟨#[f k]⟩) (w : World) :
    Calls Tryd.prog 29 #[.int .i64 (n : Int), .string DG] w fun e w' => e = .returned (.string ⟨(hexL f n).toArray⟩) ∧ w = w' := by
  obtain ⟨R, hR⟩ : ∃ R, R = hexL f n := ⟨_, rfl⟩
  have hRl : R.length ≤ 6 := by rw [hR]; exact (hexL_len f 5 n (by omega)).1
  rw [← hR]
  have hstep : ∀ (x : Nat) (acc : List UInt8), (if x = 0 then acc else hexL f x ++ acc) = R → x ≠ 0 → (if x / 16 = 0 then f (x % 16) :: acc else hexL f (x / 16) ++ (f (x % 16) :: acc)) = R := by
    intro x acc h h0
    rw [if_neg h0, hexL] at h
    by_cases h16 : x < 16
    · rw [if_pos (by omega), Nat.mod_eq_of_lt h16, ← h, dif_pos h16]; rfl
    · rw [if_neg (by omega), ← h, dif_neg h16, List.append_assoc]; rfl
  have h0 : (if n / 16 = 0 then [f (n % 16)] else hexL f (n / 16) ++ [f (n % 16)]) = R := by
    rw [hR]
    conv => rhs; rw [hexL]
    by_cases h16 : n < 16
    · rw [if_pos (by omega), dif_pos h16, Nat.mod_eq_of_lt h16]
    · rw [if_neg (by omega), dif_neg h16]
  have HF := Lib.hid hf
  have HST := Lib.hid hstep
  have H0 := Lib.hid h0
  clear hf hstep h0 hR
  obtain ⟨q, hq⟩ : ∃ q, q = n / 16 := ⟨_, rfl⟩
  obtain ⟨k, hk⟩ : ∃ k, k = n % 16 := ⟨_, rfl⟩
  have hk16 : k < 16 := by omega
  rw [← hq, ← hk] at H0
  have hm : (n : Int) % 16 = (k : Int) := by omega
  have hd : (n : Int) / 16 = (q : Int) := by omega
  have hfk := HF.out k hk16
  have hkk : ((k : Int) + 1).toNat = k + 1 := by omega
  have hqb : q ≤ 1114111 := by omega
  clear hq hk
  go_enter Tryd.func29, Tryd.ntmps29
  go_wp2
  go_loop [0, 5] (fun nv sv => ∃ (x : Nat) (acc : List UInt8), nv = .int .i64 (x : Int) ∧ sv = .string ⟨acc.toArray⟩ ∧ x ≤ 1114111 ∧ (if x = 0 then acc else hexL f x ++ acc) = R) (fun nv _ => (intOf nv).toNat)
  case atStart => exact ⟨q, [f k], rfl, rfl, hqb, H0.out⟩
  case round =>
    clear H0 hm hd hfk hkk hqb hk16
    obtain ⟨x, acc, rfl, rfl, hx, hg⟩ := hrel
    have hal : acc.length ≤ 6 := by
      have := congrArg List.length hg
      split at this
      · omega
      · rw [List.length_append] at this; omega
    have HG := Lib.hid hg
    clear hg
    by_cases hx0 : x = 0
    · subst hx0
      have HXX := Lib.hid ((if_pos rfl).symm.trans HG.out)
      clear HG
      go_wp2
      go_ret
      exact ⟨by rw [HXX.out]; rfl, rfl⟩
    · have HS := Lib.hid (HST.out x acc HG.out hx0)
      obtain ⟨q, hq⟩ : ∃ q, q = x / 16 := ⟨_, rfl⟩
      obtain ⟨k, hk⟩ : ∃ k, k = x % 16 := ⟨_, rfl⟩
      have hk16 : k < 16 := by omega
      rw [← hq, ← hk] at HS
      have hm : (x : Int) % 16 = (k : Int) := by omega
      have hd : (x : Int) / 16 = (q : Int) := by omega
      have hqx : q < x := by omega
      have hfk := HF.out k hk16
      have hkk : ((k : Int) + 1).toNat = k + 1 := by omega
      have hx0' : (0 : Int) < (x : Int) := by omega
      have hcat : ¬ 9223372036854775807 < (⟨#[f k]⟩ : ByteArray).size + (⟨acc.toArray⟩ : ByteArray).size := by
        show ¬ 9223372036854775807 < 1 + acc.toArray.size
        rw [List.size_toArray]; omega
      have HAP := Lib.hid (bs_app [f k] acc)
      clear HG hq hk hx0
      go_wp2
      go_round
      case rel => exact ⟨q, f k :: acc, rfl, by rw [HAP.out]; rfl, by omega, HS.out⟩
      case measure => simp [intOf]; omega
end Go.Proofs.YtinhmchekdolmaaDoor
