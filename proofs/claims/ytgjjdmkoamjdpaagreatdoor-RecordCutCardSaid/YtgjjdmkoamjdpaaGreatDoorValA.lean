/- ValA, what this seat can fill of it. -/
import Derived.Test.YtgjjdmkoamjdpaaGreatDoorProg
import Derived.Test.YtgjjdmkoamjdpaaGreatDoorMem
import Derived.WalkKit
import Derived.WalkSpells
import Derived.WalkLawsBesides
import Derived.IntWalk
import Derived.Laws.DeepNot64
import Derived.Laws.Bits64b
import Derived.Deep.QuietTactic
import Derived.BigQuiet
import Derived.KernelRfl
import Derived.Lib.Hide
namespace Go.Proofs.YtgjjdmkoamjdpaaGreatDoor
/- val.fold, val.appendDigits. -/
open Go.RowKit

theorem infoU8 : (Tryz.prog.info? 5).map (fun i => (i.zero, i.size, i.bytes)) = some (some (.int .u8 0), 1, 1) := by kernel_rfl

def foldN (n : Int) : Nat := if n < 0 then (-2 * n - 1).toNat else (2 * n).toNat
theorem foldN_lt (n : Int) (h0 : -9223372036854775808 ≤ n) (h1 : n ≤ 9223372036854775807) : foldN n ≤ 18446744073709551615 := by
  unfold foldN; split <;> omega

theorem i64_notn (n : Int) (h0 : -9223372036854775808 ≤ n) (h1 : n < 0) : bits .xor .i64 (-1) n = -1 - n := by
  show IntKind.i64.wrap ((BitVec.ofInt 64 (-1) ^^^ BitVec.ofInt 64 n).toNat : Int) = _
  have e1 : BitVec.ofInt 64 (-1) = BitVec.allOnes 64 := by decide
  rw [e1, BitVec.allOnes_xor, BitVec.toNat_not, BitVec.toNat_ofInt]
  rw [IntKind.wrap_i64]
  omega
theorem or_one (m : Nat) (h : m ≤ 9223372036854775807) : bits .or .u64 ((m : Int) * 2) 1 = ((2 * m + 1 : Nat) : Int) := by
  have e : ((m : Int) * 2) = ((m * 2 : Nat) : Int) := by omega
  have e1 : (1 : Int) = ((1 : Nat) : Int) := rfl
  rw [e, e1, bits_or_u64_nat _ _ (by omega) (by omega)]
  have := Nat.shiftLeft_add_eq_or_of_lt (show 1 < 2 ^ 1 by omega) m
  rw [Nat.shiftLeft_eq] at this
  rw [show m * 2 = m * 2 ^ 1 from rfl, ← this]
  omega

set_option maxRecDepth 100000 in
set_option maxHeartbeats 1000000 in
theorem fold_any (n : Int) (w : World) (h0 : -9223372036854775808 ≤ n) (h1 : n ≤ 9223372036854775807) :
    Calls Tryz.prog 88 #[.int .i64 n] w fun e w' => e = .returned (.int .u64 (foldN n : Int)) ∧ w = w' := by
  by_cases h : n < 0
  · obtain ⟨m, hm⟩ : ∃ m : Nat, (m : Int) = -1 - n := ⟨(-1 - n).toNat, by omega⟩
    have hx : bits .xor .i64 (-1) n = (m : Int) := by rw [i64_notn n h0 h, hm]
    have hm1 : m ≤ 9223372036854775807 := by omega
    have hf : foldN n = 2 * m + 1 := by unfold foldN; rw [if_pos h]; omega
    have HO := Lib.hid (or_one m hm1)
    have HF := Lib.hid hf
    clear hm hf
    go_enter Tryz.func88, Tryz.ntmps88
    go_wp2
    go_ret
    have w1 : IntKind.u64.wrap (m : Int) = (m : Int) := IntWalk.u64_in _ (by omega)
    have w2 : IntKind.u64.wrap ((m : Int) * 2) = (m : Int) * 2 := IntWalk.u64_in _ (by omega)
    refine ⟨?_, rfl⟩
    show Ending.returned (.int .u64 (bits .or .u64 (IntKind.u64.wrap (IntKind.u64.wrap (m : Int) * 2)) 1)) = _
    rw [w1, w2, HO.out, HF.out]
  · have hf : (foldN n : Int) = n * 2 := by unfold foldN; rw [if_neg h]; omega
    have HF := Lib.hid hf
    clear hf
    go_enter Tryz.func88, Tryz.ntmps88
    go_wp2
    go_ret
    exact ⟨by rw [HF.out]; rfl, rfl⟩

/-- A number's digits of 128, the lowest first. -/
def digs (u : Nat) : List UInt8 := if h : u < 128 then [UInt8.ofNat u] else UInt8.ofNat (u % 128 + 128) :: digs (u / 128)
termination_by u
decreasing_by omega

theorem digs_length : ∀ (k u : Nat), u < 128 ^ k → (digs u).length ≤ k + 1
  | k, u, h => by
    rw [digs]
    split
    · simp
    · rename_i h1
      rcases k with _ | k
      · simp at h; omega
      · have := digs_length k (u / 128) (by rw [Nat.pow_succ] at h; omega)
        simp
        omega

set_option maxRecDepth 100000 in
set_option maxHeartbeats 1000000 in
theorem appendDigits_any (base : Nat) (v : Value) (l : List UInt8) (u : Nat) (w : World) (hown : OwnB w base 5 v l) (hbase : base ≤ w.heap.size) (hl : l.length ≤ 1000) (hu : u ≤ 18446744073709551615) :
    Calls Tryz.prog 87 #[v, .int .u64 (u : Int)] w fun e w' => ∃ v', e = .returned v' ∧ OwnB w' base 5 v' (l ++ digs u) ∧ Below base w w' := by
  obtain ⟨i0, hi, hz0, hz1, hz2⟩ := info_parts infoU8
  have hdl := digs_length 10 u (by omega)
  obtain ⟨D, hD⟩ : ∃ D, D = l ++ digs u := ⟨_, rfl⟩
  have hDl : D.length ≤ 1100 := by rw [hD, List.length_append]; omega
  rw [← hD]
  have HD := Lib.hid hD
  clear hD hdl
  go_enter Tryz.func87, Tryz.ntmps87
  go_wp2
  go_loopw [0, 1] (fun v z wr => ∃ (m : List UInt8) (x : Nat), z = .int .u64 (x : Int) ∧ x ≤ 18446744073709551615 ∧ OwnB wr base 5 v m ∧ Below base w wr ∧ m ++ digs x = D) (fun _ z _ => (intOf z).toNat)
  case atStart => exact ⟨l, u, rfl, hu, hown, Below.refl _ _, HD.out.symm⟩
  case round =>
    obtain ⟨m, x, rfl, hx, hownm, hb, heq⟩ := hrel
    have hsz := hb.size
    have hml : m.length + 1 ≤ 140737488355328 := by
      have := congrArg List.length heq
      rw [List.length_append] at this
      omega
    have HEQ := Lib.hid heq
    clear heq
    by_cases h8 : x < 128
    · have h8' : (x : Int) < 128 := by omega
      have hb1 : (UInt8.ofNat x).toNat = x := by rw [UInt8.toNat_ofNat']; omega
      have hdg : digs x = [UInt8.ofNat x] := by rw [digs, dif_pos h8]
      have hrd : Rd (wr.alloc (.cells #[.int .u8 (x : Int)] 5)) (wr.heap.size + 1) (some ⟨wr.heap.size, 0, none⟩) (u8s [UInt8.ofNat x]) := by
        have e : u8s [UInt8.ofNat x] = [.int .u8 (x : Int)] := by simp only [u8s, List.map_cons, List.map_nil, hb1]
        rw [e]
        exact Rd.new wr _ _ _
      have HDG := Lib.hid hdg
      clear hdg hb1 h8
      go_wp2_with (at_builtin; refine wpList_appB _ rfl (.tmp 16) (.tmp 19) _ rfl base 5 i0 _ Tryz.underlying32 hi hz0 hz1 hz2 rfl u0 _ rfl (hownm.alloc _) (wr.heap.size + 1) (some ⟨wr.heap.size, 0, none⟩) 1 1 [UInt8.ofNat x] rfl rfl hrd hml (by simp; omega) ?_; intro v2 w2 hown2 hg2 hat2)
      go_ret
      exact ⟨_, rfl, by rw [← HEQ.out, HDG.out]; exact hown2, hb.trans (((Below.refl _ _).alloc (by omega) _).grown hg2 (by simp; omega) (fun k hk => (World.ownsRow.lt hownm k hk).1))⟩
    · have h8' : (128 : Int) ≤ (x : Int) := by omega
      have hb1 : (UInt8.ofNat (x % 128 + 128)).toNat = x % 128 + 128 := by rw [UInt8.toNat_ofNat']; omega
      have hdg : digs x = UInt8.ofNat (x % 128 + 128) :: digs (x / 128) := by rw [digs, dif_neg h8]
      have hrd : Rd (wr.alloc (.cells #[.int .u8 ((x : Int) % 128 + 128)] 5)) (wr.heap.size + 1) (some ⟨wr.heap.size, 0, none⟩) (u8s [UInt8.ofNat (x % 128 + 128)]) := by
        have e : u8s [UInt8.ofNat (x % 128 + 128)] = [.int .u8 ((x : Int) % 128 + 128)] := by simp only [u8s, List.map_cons, List.map_nil, hb1]; simp
        rw [e]
        exact Rd.new wr _ _ _
      have HDG := Lib.hid hdg
      clear hdg hb1
      go_wp2_with (at_builtin; refine wpList_appB _ rfl (.tmp 7) (.tmp 12) _ rfl base 5 i0 _ Tryz.underlying32 hi hz0 hz1 hz2 rfl u0 _ rfl (hownm.alloc _) (wr.heap.size + 1) (some ⟨wr.heap.size, 0, none⟩) 1 1 [UInt8.ofNat (x % 128 + 128)] rfl rfl hrd hml (by simp; omega) ?_; intro v2 w2 hown2 hg2 hat2)
      go_roundw
      case rel => exact ⟨m ++ [UInt8.ofNat (x % 128 + 128)], x / 128, by go_num, by omega, hown2, hb.trans (((Below.refl _ _).alloc (by omega) _).grown hg2 (by simp; omega) (fun k hk => (World.ownsRow.lt hownm k hk).1)), by rw [← HEQ.out, HDG.out]; simp⟩
      case measure => simp [intOf]; omega
end Go.Proofs.YtgjjdmkoamjdpaaGreatDoor
