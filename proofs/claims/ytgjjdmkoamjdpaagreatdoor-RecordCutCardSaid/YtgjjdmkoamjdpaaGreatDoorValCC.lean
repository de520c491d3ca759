/- ValCC, what this seat can fill of it. -/
import Derived.Test.YtgjjdmkoamjdpaaGreatDoorProg
import Derived.Test.YtgjjdmkoamjdpaaGreatDoorValA
import Derived.WalkKit
import Derived.WalkSpells
import Derived.WalkLawsBesides
import Derived.Deep.QuietTactic
import Derived.BigQuiet
import Derived.KernelRfl
import Derived.Lib.Hide
namespace Go.Proofs.YtgjjdmkoamjdpaaGreatDoor
/- val.unfold, val.readDigits. -/
open Go.RowKit

/-- The number that a folded one stands for. -/
def unfN (u : Nat) : Int := if u % 2 = 1 then -1 - ((u / 2 : Nat) : Int) else ((u / 2 : Nat) : Int)
theorem unfN_foldN (n : Int) : unfN (foldN n) = n := by
  unfold unfN foldN
  split
  · rw [if_pos (by omega)]; omega
  · rw [if_neg (by omega)]; omega
theorem foldN_unfN (u : Nat) : foldN (unfN u) = u := by
  unfold unfN
  split
  · unfold foldN; rw [if_pos (by omega)]; omega
  · unfold foldN; rw [if_neg (by omega)]; omega
theorem and_one (u : Nat) (h : u ≤ 18446744073709551615) : bits .and .u64 (u : Int) 1 = ((u % 2 : Nat) : Int) := by
  have := bits_and_u64_nat u 1 (by omega) (by omega)
  rw [show (1 : Int) = ((1 : Nat) : Int) from rfl, this, Nat.and_one_is_mod]
theorem i64_notp (n : Int) (h0 : 0 ≤ n) (h1 : n ≤ 9223372036854775807) : bits .xor .i64 (-1) n = -1 - n := by
  show IntKind.i64.wrap ((BitVec.ofInt 64 (-1) ^^^ BitVec.ofInt 64 n).toNat : Int) = _
  have e1 : BitVec.ofInt 64 (-1) = BitVec.allOnes 64 := by decide
  rw [e1, BitVec.allOnes_xor, BitVec.toNat_not, BitVec.toNat_ofInt]
  rw [IntKind.wrap_i64]
  omega

set_option maxRecDepth 100000 in
set_option maxHeartbeats 1000000 in
theorem unfold_any (u : Nat) (w : World) (hu : u ≤ 18446744073709551615) :
    Calls Tryz.prog 115 #[.int .u64 (u : Int)] w fun e w' => e = .returned (.int .i64 (unfN u)) ∧ w = w' := by
  have ha := and_one u hu
  have hx := i64_notp ((u / 2 : Nat) : Int) (by omega) (by omega)
  have hd : (u : Int) / 2 = ((u / 2 : Nat) : Int) := by omega
  by_cases h : u % 2 = 1
  · have hU : unfN u = -1 - ((u / 2 : Nat) : Int) := if_pos h
    rw [hU, ← hx]
    rw [h] at ha
    obtain ⟨q, hq⟩ : ∃ q, q = u / 2 := ⟨_, rfl⟩
    rw [← hq] at hd ⊢
    have hq2 : (q : Int) ≤ 9223372036854775807 := by omega
    clear hU hx hq
    go_enter Tryz.func115, Tryz.ntmps115
    go_wp2
    go_ret
    exact ⟨rfl, rfl⟩
  · have hU : unfN u = ((u / 2 : Nat) : Int) := if_neg h
    rw [hU]
    rw [show u % 2 = 0 by omega] at ha
    obtain ⟨q, hq⟩ : ∃ q, q = u / 2 := ⟨_, rfl⟩
    rw [← hq] at hd ⊢
    have hq2 : (q : Int) ≤ 9223372036854775807 := by omega
    clear hU hx hq
    go_enter Tryz.func115, Tryz.ntmps115
    go_wp2
    go_ret
    exact ⟨rfl, rfl⟩

theorem or_digit (i u d : Nat) (hi : i ≤ 9) (hu : u < 128 ^ i) (h9 : i = 9 → d ≤ 1) :
    bits .or .u64 (u : Int) (IntKind.u64.wrap ((d : Int) % 128 * 2 ^ (7 * i))) = ((u + d % 128 * 128 ^ i : Nat) : Int) ∧ u + d % 128 * 128 ^ i < 128 ^ (i + 1) := by
  obtain ⟨m, hm⟩ : ∃ m, m = d % 128 := ⟨_, rfl⟩
  have hm1 : m < 128 := by omega
  have hm9 : i = 9 → m ≤ 1 := fun h => by have := h9 h; omega
  rw [← hm]
  have hp : 128 ^ i = 2 ^ (7 * i) := by rw [Nat.pow_mul]
  have hle : 128 ^ i ≤ 128 ^ 9 := Nat.pow_le_pow_right (by omega) hi
  have h99 : (128 : Nat) ^ 9 = 9223372036854775808 := by decide
  have hs : m * 128 ^ i < 18446744073709551616 := by
    by_cases h : i = 9
    · have := hm9 h
      have : m * 128 ^ i ≤ 1 * 128 ^ i := Nat.mul_le_mul_right _ this
      omega
    · have h8 : 128 ^ i ≤ 128 ^ 8 := Nat.pow_le_pow_right (by omega) (by omega)
      have h88 : (128 : Nat) ^ 8 = 72057594037927936 := by decide
      have : m * 128 ^ i ≤ 127 * 128 ^ 8 := Nat.mul_le_mul (by omega) h8
      omega
  have hlt : u + m * 128 ^ i < 128 ^ (i + 1) := by
    have : m * 128 ^ i ≤ 127 * 128 ^ i := Nat.mul_le_mul_right _ (by omega)
    rw [Nat.pow_succ]
    omega
  refine ⟨?_, hlt⟩
  have e1 : (d : Int) % 128 * 2 ^ (7 * i) = ((m * 128 ^ i : Nat) : Int) := by
    have e2 : (d : Int) % 128 = (m : Int) := by omega
    rw [e2, hp, Int.natCast_mul, Int.natCast_pow]
    rfl
  rw [e1, IntWalk.u64_in _ (by omega), bits_or_u64_nat _ _ (by omega) hs, Nat.or_comm]
  have := Nat.shiftLeft_add_eq_or_of_lt (i := 7 * i) (b := u) (by rw [← hp]; exact hu) m
  rw [Nat.shiftLeft_eq, ← hp] at this
  rw [← this, Nat.add_comm]

theorem Rd.byte {w : World} {B : Nat} {A : Option Addr} {l : List UInt8} (h : Rd w B A (u8s l)) {k : Nat} (hk : k < l.length) : ∃ b o, A = some ⟨b, o, none⟩ ∧ b < B ∧ w.cell? ⟨b, o + k, none⟩ = some (.int .u8 (l[k].toNat : Int)) := by
  obtain ⟨b, o, e, hb, hc⟩ := h.get (k := k) (by rw [u8s_length]; exact hk)
  exact ⟨b, o, e, hb, by rw [hc]; simp [u8s]⟩

/-- The number that bytes begin with, from a place on, and how many bytes it has in all; (0, 0): none. -/
def rdG : Nat → Nat → List UInt8 → Nat × Nat
  | _, _, [] => (0, 0)
  | i, u, c :: t => if i = 9 ∧ 1 < c.toNat then (0, 0) else if 128 ≤ c.toNat then rdG (i + 1) (u + c.toNat % 128 * 128 ^ i) t else if c.toNat = 0 ∧ 0 < i then (0, 0) else (u + c.toNat % 128 * 128 ^ i, i + 1)
def rdD (l : List UInt8) : Nat × Nat := rdG 0 0 l

set_option maxRecDepth 100000 in
set_option maxHeartbeats 2000000 in
theorem readDigits_any (A : Option Addr) (l : List UInt8) (n c B : Nat) (w : World) (hn : n = l.length) (hr : Rd w B A (u8s l)) (hl : l.length ≤ 140737488355328) :
    Calls Tryz.prog 114 #[.slice A n c] w fun e w' => e = .returned (.tuple #[.int .u64 ((rdD l).1 : Int), .int .i64 ((rdD l).2 : Int)]) ∧ w = w' := by
  subst hn
  obtain ⟨X, hX⟩ : ∃ X, X = rdD l := ⟨_, rfl⟩
  rw [← hX]
  have HX := Lib.hid (show rdG 0 0 l = X from hX.symm)
  clear hX
  go_enter Tryz.func114, Tryz.ntmps114
  go_wp2
  go_loop [4, 9] (fun uv iv => ∃ (i u : Nat), uv = .int .u64 (u : Int) ∧ iv = .int .i64 (i : Int) ∧ i ≤ l.length ∧ i ≤ 9 ∧ u < 128 ^ i ∧ rdG i u (l.drop i) = X) (fun _ iv => l.length - (intOf iv).toNat)
  case atStart => exact ⟨0, 0, rfl, rfl, by omega, by omega, by simp, HX.out⟩
  case round =>
    clear HX
    obtain ⟨i, u, rfl, rfl, hi, hi9, hu, hg⟩ := hrel
    have HG := Lib.hid hg
    have HU := Lib.hid hu
    clear hg hu
    rcases Nat.lt_or_ge i l.length with h8 | h8
    · obtain ⟨b, o, rfl, hb, hc⟩ := hr.byte h8
      obtain ⟨x, hx⟩ : ∃ x, x = l[i] := ⟨_, rfl⟩
      have hst : rdG i u (l.drop i) = if i = 9 ∧ 1 < x.toNat then (0, 0) else if 128 ≤ x.toNat then rdG (i + 1) (u + x.toNat % 128 * 128 ^ i) (l.drop (i + 1)) else if x.toNat = 0 ∧ 0 < i then (0, 0) else (u + x.toNat % 128 * 128 ^ i, i + 1) := by
        rw [List.drop_eq_getElem_cons h8, ← hx, rdG]
      rw [HG.out] at hst
      rw [← hx] at hc
      obtain ⟨d, hd⟩ : ∃ d, d = x.toNat := ⟨_, rfl⟩
      have hd256 : d < 256 := by rw [hd]; exact UInt8.toNat_lt _
      rw [← hd] at hst hc
      have HST := Lib.hid hst
      clear hst hx hd
      by_cases h1 : i = 9 ∧ 1 < d
      · have HXX := Lib.hid (HST.out.trans (if_pos h1))
        obtain ⟨rfl, h1d⟩ := h1
        have h1d' : (1 : Int) < (d : Int) := by omega
        clear HST
        go_wp2
        go_ret2
        exact ⟨by rw [HXX.out]; rfl, rfl⟩
      · have HS2 := Lib.hid (HST.out.trans (if_neg h1))
        clear HST
        have hno : ¬ ((i : Int) = 9 ∧ (1 : Int) < (d : Int)) := by omega
        by_cases h2 : 128 ≤ d
        · have HS3 := Lib.hid (HS2.out.trans (if_pos h2))
          have h2' : (128 : Int) ≤ (d : Int) := by omega
          have hi9' : ((i : Int) == 9) = false := by rw [beq_eq_false_iff_ne]; omega
          clear HS2
          have hod := or_digit i u d hi9 HU.out (by omega)
          have HOD := Lib.hid hod
          clear hod
          go_wp2
          go_round
          case rel => exact ⟨i + 1, u + d % 128 * 128 ^ i, congrArg (Value.int .u64) HOD.out.1, by go_num, by omega, by omega, HOD.out.2, HS3.out.symm⟩
          case measure => simp [intOf]; omega
        · have HS3 := Lib.hid (HS2.out.trans (if_neg h2))
          have h2' : ¬ (128 : Int) ≤ (d : Int) := by omega
          clear HS2
          have hod := or_digit i u d hi9 HU.out (by omega)
          have HOD := Lib.hid hod
          clear hod
          by_cases h3 : d = 0 ∧ 0 < i
          · have HXX := Lib.hid (HS3.out.trans (if_pos h3))
            obtain ⟨rfl, hi0⟩ := h3
            have hi0' : (0 : Int) < (i : Int) := by omega
            by_cases hi9' : i = 9
            · subst hi9'
              go_wp2
              go_ret2
              exact ⟨by rw [HXX.out]; rfl, rfl⟩
            · have hi9b : ((i : Int) == 9) = false := by rw [beq_eq_false_iff_ne]; omega
              go_wp2
              go_ret2
              exact ⟨by rw [HXX.out]; rfl, rfl⟩
          · have HXX := Lib.hid (HS3.out.trans (if_neg h3))
            have hfin : (Ending.returned (.tuple #[.int .u64 (bits .or .u64 (u : Int) (IntKind.u64.wrap ((d : Int) % 128 * 2 ^ (7 * i)))), .int .i64 ((i : Int) + 1)])) = Ending.returned (.tuple #[.int .u64 (X.1 : Int), .int .i64 (X.2 : Int)]) := by
              rw [HXX.out, HOD.out.1]
              rfl
            have HFIN := Lib.hid hfin
            clear hfin
            by_cases hd0 : d = 0
            · have hd0' : ((d : Int) == 0) = true := by rw [beq_iff_eq]; omega
              have hi0' : ¬ (0 : Int) < (i : Int) := by omega
              have hi9b : ((i : Int) == 9) = false := by rw [beq_eq_false_iff_ne]; omega
              clear hd0
              go_wp2
              go_ret2
              exact ⟨HFIN.out, rfl⟩
            · have hd0' : ((d : Int) == 0) = false := by rw [beq_eq_false_iff_ne]; omega
              by_cases hi9' : i = 9
              · have hd1 : ¬ (1 : Int) < (d : Int) := by omega
                have hi9b : ((i : Int) == 9) = true := by rw [beq_iff_eq]; omega
                clear hi9'
                go_wp2
                go_ret2
                exact ⟨HFIN.out, rfl⟩
              · have hi9b : ((i : Int) == 9) = false := by rw [beq_eq_false_iff_ne]; omega
                go_wp2
                go_ret2
                exact ⟨HFIN.out, rfl⟩
    · obtain rfl : i = l.length := by omega
      have hend : X = (0, 0) := by rw [← HG.out, List.drop_eq_nil_of_le (Nat.le_refl _)]; rfl
      have HXX := Lib.hid hend
      clear hend HG
      go_wp2
      go_ret2
      exact ⟨by rw [HXX.out]; rfl, rfl⟩
end Go.Proofs.YtgjjdmkoamjdpaaGreatDoor
