/- The reference's Digits. -/
import Derived.Test.YtinhmchekdolmaaDoorProg
import Derived.Test.YtinhmchekdolmaaDoorValD
import Derived.Lib.ItoaMem
import Derived.Lib.ItoaLen
import Derived.WalkKit
import Derived.WalkSpells
import Derived.WalkLawsBesides
import Derived.Deep.QuietTactic
import Derived.BigQuiet
import Derived.KernelRfl
import Derived.Lib.Hide
namespace Go.Proofs.YtinhmchekdolmaaDoor
open Go.RowKit

def dg (x : Nat) : List UInt8 := if x = 0 then [] else Lib.decDigits x
theorem dg_step (x : Nat) (h : 0 < x) : dg x = dg (x / 10) ++ [UInt8.ofNat (48 + x % 10)] := by
  unfold dg
  rw [if_neg (by omega)]
  by_cases h10 : x < 10
  · rw [if_pos (by omega), Lib.decDigits, dif_pos h10, Nat.mod_eq_of_lt h10]; rfl
  · rw [if_neg (by omega)]
    conv => lhs; rw [Lib.decDigits]
    rw [dif_neg h10]

theorem app_one (c : Nat) (t : List UInt8) : (⟨#[48 + UInt8.ofNat c]⟩ : ByteArray) ++ ⟨t.toArray⟩ = ⟨(UInt8.ofNat (48 + c) :: t).toArray⟩ := by
  rw [UInt8.ofNat_add]
  apply ByteArray.ext
  rw [ByteArray.data_append]
  simp

set_option maxRecDepth 100000 in
set_option maxHeartbeats 2000000 in
theorem digits_pos (u : Nat) (w : World) (h0 : 0 < u) (h1 : u ≤ 9223372036854775807) :
    Calls Tryd.prog 30 #[.int .i64 (u : Int)] w fun e w' => e = .returned (.string ⟨(Lib.itoa u).toArray⟩) ∧ Below w.heap.size w w' := by
  have hit : Lib.itoa (u : Int) = dg u := by rw [Lib.itoa_nonneg]; unfold dg; rw [if_neg (by omega)]
  rw [hit]
  have hb0 : ((u : Int) == 0) = false := by rw [beq_eq_false_iff_ne]; omega
  have hneg : ¬ (u : Int) < 0 := by omega
  obtain ⟨D, hD⟩ : ∃ D, D = dg u := ⟨_, rfl⟩
  rw [← hD]
  have HD := Lib.hid hD
  have hdl : D.length ≤ 21 := by
    rw [hD]
    have := Lib.itoa_length_le (u : Int) (by omega) (by omega)
    rw [hit] at this
    exact this
  have HL := Lib.hid hdl
  clear hD hdl hit
  go_enter Tryd.func30, Tryd.ntmps30
  go_wp2
  go_loopw [3, 4] (fun sv kv wr => ∃ (x : Nat) (t : List UInt8), sv = .string ⟨t.toArray⟩ ∧ kv = .int .i64 (x : Int) ∧ x ≤ u ∧ dg x ++ t = D ∧ Below w.heap.size w wr) (fun _ kv _ => (intOf kv).toNat)
  case atStart => exact ⟨u, [], rfl, rfl, by omega, by rw [List.append_nil]; exact HD.out.symm, Below.refl _ _⟩
  case round =>
    clear HD
    obtain ⟨x, t, rfl, rfl, hx, hcat, hbw⟩ := hrel
    by_cases hx0 : x = 0
    · subst hx0
      have HC := Lib.hid (show t = D from hcat)
      clear hcat hb0
      go_wp2
      go_ret
      exact ⟨by rw [← HC.out]; rfl, hbw⟩
    · have hx1 : ((x : Int) == 0) = false := by rw [beq_eq_false_iff_ne]; omega
      have r1 : (x : Int).tmod 10 = ((x % 10 : Nat) : Int) := rfl
      have r2 : (x : Int).tdiv 10 = ((x / 10 : Nat) : Int) := rfl
      rw [dg_step x (by omega), List.append_assoc] at hcat
      have HC := Lib.hid hcat
      obtain ⟨c, hc⟩ : ∃ c, c = x % 10 := ⟨_, rfl⟩
      rw [← hc] at r1 HC
      have hc10 : c < 10 := by omega
      have hsz := hbw.size
      clear hcat hc
      have hrd : Rd (wr.alloc (.cells #[.int .u8 (48 + (c : Int))] 5)) (wr.heap.size + 1) (some ⟨wr.heap.size, 0, none⟩) (u8s [UInt8.ofNat (48 + c)]) := by
        have hcc : (UInt8.ofNat (48 + c)).toNat = 48 + c := by rw [UInt8.toNat_ofNat']; omega
        have e : u8s [UInt8.ofNat (48 + c)] = [.int .u8 (48 + (c : Int))] := by simp only [u8s, List.map_cons, List.map_nil, hcc]; rfl
        rw [e]
        exact Rd.new wr _ _ _
      have q := strAt0 (n := 1) (c := 1) hrd rfl
      clear hrd
      have hfit : ¬ 9223372036854775807 < 1 + t.length := by
        have := congrArg List.length HC.out
        simp only [List.length_append, List.length_cons, List.length_nil] at this
        have := HL.out
        omega
      go_wp2
      go_roundw
      case rel => exact ⟨x / 10, UInt8.ofNat (48 + c) :: t, congrArg Value.string (app_one c t), rfl, by omega, HC.out, hbw.alloc hsz _⟩
      case measure => simp [intOf]; omega

theorem app_zero (t : List UInt8) : (⟨#[48]⟩ : ByteArray) ++ ⟨t.toArray⟩ = ⟨(UInt8.ofNat (48 + 0) :: t).toArray⟩ := by
  apply ByteArray.ext
  rw [ByteArray.data_append]
  simp
theorem app_dash (t : List UInt8) : (⟨#[45]⟩ : ByteArray) ++ ⟨t.toArray⟩ = ⟨(45 :: t).toArray⟩ := by
  apply ByteArray.ext
  rw [ByteArray.data_append]
  simp

set_option maxRecDepth 100000 in
set_option maxHeartbeats 2000000 in
theorem digits_neg (u : Nat) (w : World) (h0 : 0 < u) (h1 : u ≤ 9223372036854775808) :
    Calls Tryd.prog 30 #[.int .i64 (-(u : Int))] w fun e w' => e = .returned (.string ⟨(Lib.itoa (-(u : Int))).toArray⟩) ∧ Below w.heap.size w w' := by
  have hit : Lib.itoa (-(u : Int)) = 45 :: dg u := by rw [Lib.itoa_neg u (by omega)]; unfold dg; rw [if_neg (by omega)]
  have hdl := Lib.itoa_length_le (-(u : Int)) (by omega) (by omega)
  rw [hit] at hdl ⊢
  have hb0 : ((-(u : Int)) == 0) = false := by rw [beq_eq_false_iff_ne]; omega
  have hneg : -(u : Int) < 0 := by omega
  clear hit
  obtain ⟨D, hD⟩ : ∃ D, D = dg u := ⟨_, rfl⟩
  rw [← hD] at hdl ⊢
  have HD := Lib.hid hD
  have HL := Lib.hid hdl
  clear hD hdl
  go_enter Tryd.func30, Tryd.ntmps30
  go_wp2
  go_loopw [3, 4] (fun sv kv wr => ∃ (x : Nat) (t : List UInt8), sv = .string ⟨t.toArray⟩ ∧ kv = .int .i64 (-(x : Int)) ∧ x ≤ u ∧ dg x ++ t = D ∧ Below w.heap.size w wr) (fun _ kv _ => (-(intOf kv)).toNat)
  case atStart => exact ⟨u, [], rfl, rfl, by omega, by rw [List.append_nil]; exact HD.out.symm, Below.refl _ _⟩
  case round =>
    clear HD
    obtain ⟨x, t, rfl, rfl, hx, hcat, hbw⟩ := hrel
    by_cases hx0 : x = 0
    · subst hx0
      have HC := Lib.hid (show t = D from hcat)
      have hfit : ¬ 9223372036854775807 < 1 + t.length := by
        have := HL.out
        rw [HC.out]
        simp only [List.length_cons] at this
        omega
      clear hcat hb0
      go_wp2
      go_ret
      exact ⟨by rw [← HC.out, ← app_dash]; rfl, hbw⟩
    · have hx1 : ((-(x : Int)) == 0) = false := by rw [beq_eq_false_iff_ne]; omega
      have r1 : (-(x : Int)).tmod 10 = -((x % 10 : Nat) : Int) := by rw [Int.neg_tmod]; rfl
      have r2 : (-(x : Int)).tdiv 10 = -((x / 10 : Nat) : Int) := by rw [Int.neg_tdiv]; rfl
      rw [dg_step x (by omega), List.append_assoc] at hcat
      have HC := Lib.hid hcat
      obtain ⟨c, hc⟩ : ∃ c, c = x % 10 := ⟨_, rfl⟩
      rw [← hc] at r1 HC
      have hc10 : c < 10 := by omega
      have hsz := hbw.size
      have hrd : Rd (wr.alloc (.cells #[.int .u8 (48 + (c : Int))] 5)) (wr.heap.size + 1) (some ⟨wr.heap.size, 0, none⟩) (u8s [UInt8.ofNat (48 + c)]) := by
        have hcc : (UInt8.ofNat (48 + c)).toNat = 48 + c := by rw [UInt8.toNat_ofNat']; omega
        have e : u8s [UInt8.ofNat (48 + c)] = [.int .u8 (48 + (c : Int))] := by simp only [u8s, List.map_cons, List.map_nil, hcc]; rfl
        rw [e]
        exact Rd.new wr _ _ _
      have q := strAt0 (n := 1) (c := 1) hrd rfl
      have hfit : ¬ 9223372036854775807 < 1 + t.length := by
        have := congrArg List.length HC.out
        simp only [List.length_append, List.length_cons, List.length_nil] at this
        have := HL.out
        simp only [List.length_cons] at this
        omega
      clear hrd hcat hc
      by_cases hc0 : c = 0
      · subst hc0
        have r1' : (-(x : Int)).tmod 10 = 0 := r1
        have q0 : (convert 26 9 (.slice (some ⟨wr.heap.size, 0, none⟩) 1 1)).run Tryd.prog (wr.alloc (.cells #[.int .u8 48] 5)) = .ok (.string ⟨#[48]⟩) (wr.alloc (.cells #[.int .u8 48] 5)) := q
        clear r1 q
        go_wp2
        go_roundw
        case rel => exact ⟨x / 10, UInt8.ofNat (48 + 0) :: t, congrArg Value.string (app_zero t), by go_num, by omega, HC.out, hbw.alloc hsz _⟩
        case measure => simp [intOf]; omega
      · have hcn : -(c : Int) < 0 := by omega
        go_wp2
        go_roundw
        case rel => exact ⟨x / 10, UInt8.ofNat (48 + c) :: t, congrArg Value.string (app_one c t), by go_num, by omega, HC.out, hbw.alloc hsz _⟩
        case measure => simp [intOf]; omega

set_option maxRecDepth 100000 in
theorem digits_any (n : Int) (w : World) (h0 : -9223372036854775808 ≤ n) (h1 : n ≤ 9223372036854775807) :
    Calls Tryd.prog 30 #[.int .i64 n] w fun e w' => e = .returned (.string ⟨(Lib.itoa n).toArray⟩) ∧ Below w.heap.size w w' := by
  rcases Int.lt_trichotomy n 0 with h | h | h
  · obtain ⟨u, rfl⟩ : ∃ u : Nat, n = -(u : Int) := ⟨n.natAbs, by omega⟩
    exact digits_neg u w (by omega) (by omega)
  · subst h
    have HE : Hid (Lib.itoa 0 = [48]) := Lib.hid (by decide +kernel)
    go_enter Tryd.func30, Tryd.ntmps30
    go_wp2
    go_ret
    exact ⟨by rw [HE.out]; rfl, Below.refl _ _⟩
  · obtain ⟨u, rfl⟩ : ∃ u : Nat, n = (u : Int) := ⟨n.toNat, by omega⟩
    exact digits_pos u w (by omega) (by omega)
end Go.Proofs.YtinhmchekdolmaaDoor
