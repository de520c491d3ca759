/- Layer 17: bit, has, isSession. -/
import Derived.Test.YtiadphgodhfhjabFr
import Derived.Test.YtiadphgodhfhjabWtB
namespace Go.Proofs.Ytiadphgodhfhjab
open Go.RowKit

/-- A session's bit. -/
def pw (s : Nat) : Nat := 2 ^ s
theorem pw_lt {s : Nat} (hs : s ≤ 16) : pw s < 131072 := by
  unfold pw
  have h : (2 : Nat) ^ s ≤ 2 ^ 16 := Nat.pow_le_pow_right (by omega) hs
  have : (2 : Nat) ^ 16 = 65536 := rfl
  omega
theorem pw16 {s : Nat} (hs : s ≤ 16) : (2 : Int) ^ s % 4294967296 = (pw s : Int) := by
  have h := pw_lt hs
  have e : (pw s : Int) = (2 : Int) ^ s := by unfold pw; simp
  rw [← e]
  omega
theorem wrap_u32 (x : Int) : IntKind.u32.wrap x = x % 4294967296 := rfl
theorem bits_and32 (a b : Nat) (ha : a < 4294967296) (hb : b < 4294967296) : bits .and .u32 (a : Int) (b : Int) = ((a &&& b : Nat) : Int) := by
  have hx : a &&& b < 2 ^ 32 := Nat.and_lt_two_pow _ (by omega)
  have h1 : (BitVec.ofInt 32 (a : Int)).toNat = a := by
    rw [BitVec.ofInt_natCast, BitVec.toNat_ofNat]; exact Nat.mod_eq_of_lt (by omega)
  have h2 : (BitVec.ofInt 32 (b : Int)).toNat = b := by
    rw [BitVec.ofInt_natCast, BitVec.toNat_ofNat]; exact Nat.mod_eq_of_lt (by omega)
  show IntKind.u32.wrap ((BitVec.ofInt 32 (a : Int) &&& BitVec.ofInt 32 (b : Int)).toNat : Int) = _
  rw [BitVec.toNat_and, h1, h2, wrap_u32]
  omega
theorem bits_or32 (a b : Nat) (ha : a < 4294967296) (hb : b < 4294967296) : bits .or .u32 (a : Int) (b : Int) = ((a ||| b : Nat) : Int) := by
  have hx : a ||| b < 2 ^ 32 := Nat.or_lt_two_pow (by omega) (by omega)
  have h1 : (BitVec.ofInt 32 (a : Int)).toNat = a := by
    rw [BitVec.ofInt_natCast, BitVec.toNat_ofNat]; exact Nat.mod_eq_of_lt (by omega)
  have h2 : (BitVec.ofInt 32 (b : Int)).toNat = b := by
    rw [BitVec.ofInt_natCast, BitVec.toNat_ofNat]; exact Nat.mod_eq_of_lt (by omega)
  show IntKind.u32.wrap ((BitVec.ofInt 32 (a : Int) ||| BitVec.ofInt 32 (b : Int)).toNat : Int) = _
  rw [BitVec.toNat_or, h1, h2, wrap_u32]
  omega
theorem has_bits {m s : Nat} (hs : s ≤ 16) (hm : m < 4294967296) : (bits BinOp.and IntKind.u32 (m : Int) (pw s : Int) != 0) = m.testBit s := by
  rw [bits_and32 m (pw s) hm (by have := pw_lt hs; omega)]
  unfold pw
  rw [and2]
  have : (2 : Nat) ^ s ≠ 0 := by have := Nat.two_pow_pos s; omega
  cases m.testBit s
  · rfl
  · simp only [if_true]
    rw [bne_iff_ne]
    omega
theorem or_bits {m s : Nat} (hs : s ≤ 16) (hm : m < 131072) : bits BinOp.or IntKind.u32 (m : Int) (pw s : Int) = ((m ||| 2 ^ s : Nat) : Int) := bits_or32 m (pw s) (by omega) (by have := pw_lt hs; omega)
theorem or_lt {m s : Nat} (hs : s ≤ 16) (hm : m < 131072) : m ||| 2 ^ s < 131072 := Nat.or_lt_two_pow (n := 17) hm (pw_lt hs)
set_option maxHeartbeats 4000000 in
theorem bit_any (s : Nat) (w : World) (hs : s ≤ 16) :
    Calls Try.prog 30 #[.int .i64 (s : Int)] w fun e w' => e = .returned (.int .u32 (pw s : Int)) ∧ w' = w := by
  have h := pw16 hs
  have H := Lib.hid h
  clear h
  go_enter Try.func30, Try.ntmps30
  go_wp2
  go_ret
  exact ⟨ret_int H.out, rfl⟩
set_option maxHeartbeats 4000000 in
theorem isSession_any (s : Int) (w : World) :
    Calls Try.prog 25 #[.int .i64 s] w fun e w' => e = .returned (.bool (decide (1 ≤ s ∧ s ≤ 16))) ∧ w' = w := by
  by_cases h1 : 1 ≤ s
  · by_cases h2 : s ≤ 16
    · have e : decide (1 ≤ s ∧ s ≤ 16) = true := by simp [h1, h2]
      rw [e]
      go_enter Try.func25, Try.ntmps25
      go_wp2
      go_ret
      exact ⟨rfl, rfl⟩
    · have e : decide (1 ≤ s ∧ s ≤ 16) = false := by simp [h2]
      rw [e]
      have h3 : 16 < s := by omega
      go_enter Try.func25, Try.ntmps25
      go_wp2
      go_ret
      exact ⟨rfl, rfl⟩
  · have e : decide (1 ≤ s ∧ s ≤ 16) = false := by simp [h1]
    rw [e]
    have h3 : s < 1 := by omega
    go_enter Try.func25, Try.ntmps25
    go_wp2
    go_ret
    exact ⟨rfl, rfl⟩
set_option maxHeartbeats 4000000 in
theorem has_any (m s : Nat) (w : World) (hs : s ≤ 16) (hm : m < 4294967296) (b : Bool) (hb : m.testBit s = b) :
    Calls Try.prog 31 #[.int .u32 (m : Int), .int .i64 (s : Int)] w fun e w' => e = .returned (.bool b) ∧ w' = w := by
  subst hb
  have HB := Lib.hid (fun w => bit_any s w hs)
  have hmI : (m : Int) < 4294967296 := by omega
  go_enter Try.func31, Try.ntmps31
  go_wp2_with (go_at_call 30; (with_reducible refine (HB.out _).mono ?_); rintro e w2 ⟨rfl, rfl⟩)
  go_ret
  exact ⟨by rw [has_bits hs hm]; rfl, rfl⟩
end Go.Proofs.Ytiadphgodhfhjab
