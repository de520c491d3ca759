/- KeyB, what this seat can fill of it. -/
import Derived.Test.YtgjjdmkoamjdpaaGreatDoorProg
import Derived.Test.YtgjjdmkoamjdpaaGreatDoorMem
import Derived.Test.YtgjjdmkoamjdpaaGreatDoorKeyA
import Derived.WalkKit
import Derived.WalkSpells
import Derived.WalkLawsBesides
import Derived.Lib.Bytealg
import Derived.Deep.QuietTactic
import Derived.BigQuiet
import Derived.KernelRfl
import Derived.Lib.Hide
namespace Go.Proofs.YtgjjdmkoamjdpaaGreatDoor
set_option maxRecDepth 100000
/- The contracts of key.Encode and of what it calls. -/
open Go.RowKit

/-- strings.Count at one byte. -/
theorem count_any (s : ByteArray) (c : UInt8) (w : World) :
    Calls Tryz.prog 105 #[.string s, .string ⟨#[c]⟩] w fun e w' => e = .returned (.int .i64 (Lib.countByte s.data.toList c)) ∧ w' = w := by
  go_enter Tryz.func105, Tryz.ntmps105
  go_wp2
  rw [run_callFunc_extern Tryz.func131 (by kernel_rfl) (by kernel_rfl) (by kernel_rfl) (e := Extern.BytealgCount.count) (by kernel_rfl), Lib.run_countString]
  simp only [Result.andThen]
  rw [Oper.upon_value]
  go_wp2
  go_ret
  exact ⟨rfl, rfl⟩

/-- A part, as the program holds it. -/
structure KPart where
  text : Bool
  s : ByteArray
  n : Int
def KPart.cells (p : KPart) : Array Value := #[.bool p.text, .string p.s, .int .i64 p.n]
def partSz (p : KPart) : Nat := if p.text then p.s.size + Lib.countByte p.s.data.toList 0 + 3 else 9

set_option maxRecDepth 100000 in
/-- partSize. -/
theorem partSize_any (p : KPart) (w : World) (hs : p.s.size ≤ 140737488355328) :
    Calls Tryz.prog 83 #[.agg p.cells] w fun e w' => e = .returned (.int .i64 (partSz p)) ∧ Below w.heap.size w w' := by
  obtain ⟨tx, s, n⟩ := p
  have hcl : Lib.countByte s.data.toList 0 ≤ s.size := List.count_le_length
  simp only [KPart.cells] at *
  cases tx
  · go_enter Tryz.func83, Tryz.ntmps83
    go_wp2
    go_ret
    exact ⟨rfl, (Below.refl _ _).alloc (Nat.le_refl _) _⟩
  · have hc := count_any s 0
    go_enter Tryz.func83, Tryz.ntmps83
    go_wp2_with fail
    go_quiet ((go_at_call 105; exact Calls.quiet_of_same (count_any s 0 _)))
    go_wp2
    go_ret
    refine ⟨?_, below_draws ((Below.refl _ _).alloc (Nat.le_refl _) _) _⟩
    have e : (1 + (s.size : Int) + (Lib.countByte s.data.toList 0 : Int) + 2) = ((partSz ⟨true, s, n⟩ : Nat) : Int) := by simp [partSz]; omega
    rw [← e]
    rfl

theorem getSnoc (l : List UInt8) (k : Nat) (h : k < l.length) : l.take (k + 1) = l.take k ++ [l[k]] := by
  rw [List.take_succ_eq_append_getElem h]

/-- The number plus 2^63, the highest byte first. -/
def numU (n : Int) : Nat := (n + 9223372036854775808).toNat
def numB (n : Int) : List UInt8 := (List.range 8).map fun k => UInt8.ofNat (numU n / 2 ^ (56 - 8 * k))
theorem numB_length (n : Int) : (numB n).length = 8 := by simp [numB]

theorem numU_wrap (n : Int) (h0 : -9223372036854775808 ≤ n) (h1 : n ≤ 9223372036854775807) : IntKind.u64.wrap (IntKind.u64.wrap n + 9223372036854775808) = (numU n : Int) := by
  unfold numU
  rw [IntKind.wrap_u64, IntKind.wrap_u64]
  omega
theorem numU_lt (n : Int) (h1 : n ≤ 9223372036854775807) : numU n ≤ 18446744073709551615 := by unfold numU; omega

set_option maxRecDepth 100000 in
/-- appendNum. -/
theorem appendNum_any (base : Nat) (v : Value) (l : List UInt8) (n : Int) (w : World) (hown : OwnB w base 5 v l) (hbase : base ≤ w.heap.size) (hl : l.length ≤ 1000)
    (h0 : -9223372036854775808 ≤ n) (h1 : n ≤ 9223372036854775807) :
    Calls Tryz.prog 107 #[v, .int .i64 n] w fun e w' => ∃ v', e = .returned v' ∧ OwnB w' base 5 v' (l ++ 1 :: numB n) ∧ Below base w w' := by
  obtain ⟨i0, hi, hz0, hz1, hz2⟩ := info_parts kinfoU8
  go_enter Tryz.func107, Tryz.ntmps107
  go_wp2_with (at_builtin; refine wpList_appB _ rfl (.tmp 7) (.tmp 8) _ rfl base 5 i0 _ Tryz.underlying32 hi hz0 hz1 hz2 rfl v l rfl (hown.alloc _) (w.heap.size + 1) (some ⟨w.heap.size, 0, none⟩) 1 1 [1] rfl rfl (Rd.new w _ _ _) (by simp; omega) (by simp; omega) ?_; intro v1 w1 hown1 hg1 hat1)
  rw [numU_wrap n h0 h1]
  obtain ⟨U, hU⟩ : ∃ U, U = numU n := ⟨_, rfl⟩
  rw [← hU]
  have HU := Lib.hid hU
  have hb1 : Below base w w1 := ((Below.refl _ _).alloc hbase _).grown hg1 (by simp; omega) (fun k hk => (World.ownsRow.lt hown k hk).1)
  have hU1 : U ≤ 18446744073709551615 := by rw [hU]; exact numU_lt n h1
  clear hU hg1 hat1 hown
  obtain ⟨bs, hbs⟩ : ∃ bs, bs = numB n := ⟨_, rfl⟩
  have hbl : bs.length = 8 := by rw [hbs]; exact numB_length n
  have hbk : ∀ k (h : k < bs.length), (bs[k].toNat : Int) = (U : Int) / 2 ^ (56 - 8 * k) % 256 := by
    intro k h
    have e : bs[k] = UInt8.ofNat (U / 2 ^ (56 - 8 * k)) := by rw [HU.out]; simp [hbs, numB]
    rw [e, UInt8.toNat_ofNat']
    simp
  have HBS := Lib.hid hbs
  have HBK := Lib.hid hbk
  have HBL := Lib.hid hbl
  clear hbs hbk hbl
  go_loopw [0, 6] (fun v i wr => ∃ k : Nat, k ≤ 8 ∧ i = .int .i64 (56 - 8 * (k : Int)) ∧ OwnB wr base 5 v (l ++ 1 :: bs.take k) ∧ Below base w wr ∧ base ≤ wr.heap.size) (fun _ i _ => (intOf i + 8).toNat)
  case atStart => exact ⟨0, by omega, rfl, hown1, hb1, by have := hb1.size; omega⟩
  case round =>
    obtain ⟨k, hk, rfl, hownk, hbk, hsz⟩ := hrel
    rcases Nat.lt_or_ge k 8 with h8 | h8
    · have h8' : 8 * (k : Int) ≤ 56 := by omega
      obtain ⟨b, hb⟩ : ∃ b, b = bs[k]'(by rw [HBL.out]; exact h8) := ⟨_, rfl⟩
      have hrd : Rd (wr.alloc (.cells #[.int .u8 ((U : Int) / 2 ^ (56 - 8 * k) % 256)] 5)) (wr.heap.size + 1) (some ⟨wr.heap.size, 0, none⟩) (u8s [b]) := by
        have e : u8s [b] = [.int .u8 ((U : Int) / 2 ^ (56 - 8 * k) % 256)] := by rw [hb]; simp only [u8s, List.map_cons, List.map_nil]; rw [HBK.out]
        rw [e]
        exact Rd.new wr _ _ _
      have hsn : bs.take (k + 1) = bs.take k ++ [b] := by rw [hb]; exact getSnoc _ _ _
      have hlen : (l ++ 1 :: bs.take k).length + [b].length ≤ 140737488355328 := by simp; omega
      have HS := Lib.hid hsn
      clear hb hsn
      go_wp2_with (at_builtin; refine wpList_appB _ rfl (.tmp 17) (.tmp 22) _ rfl base 5 i0 _ Tryz.underlying32 hi hz0 hz1 hz2 rfl u0 _ rfl (hownk.alloc _) (wr.heap.size + 1) (some ⟨wr.heap.size, 0, none⟩) 1 1 [b] rfl rfl hrd hlen (by simp; omega) ?_; intro v2 w2 hown2 hg2 hat2)
      go_roundw
      case rel =>
        have hb2 : Below base wr w2 := ((Below.refl _ _).alloc hsz _).grown hg2 (by simp; omega) (fun k hk => (World.ownsRow.lt hownk k hk).1)
        exact ⟨k + 1, by omega, by go_num, by rw [HS.out]; simpa using hown2, hbk.trans hb2, by have := hb2.size; omega⟩
      case measure => simp [intOf]; omega
    · obtain rfl : k = 8 := by omega
      go_wp2
      go_ret
      exact ⟨_, rfl, by rw [← HBS.out]; rw [List.take_of_length_le (by rw [HBL.out]; omega)] at hownk; exact hownk, hbk⟩

def escB (l : List UInt8) : List UInt8 := l.flatMap fun b => if b = 0 then [0, 255] else [b]
theorem escB_append (l k : List UInt8) : escB (l ++ k) = escB l ++ escB k := List.flatMap_append
theorem escB_length (l : List UInt8) : (escB l).length = l.length + l.count 0 := by
  induction l with
  | nil => rfl
  | cons b l ih =>
    rw [show b :: l = [b] ++ l from rfl, escB_append, List.length_append, ih, List.count_append]
    by_cases hb : b = 0
    · subst hb; simp [escB]; omega
    · simp [escB, hb]; omega
theorem strTake (s : ByteArray) (k : Nat) (h : k < s.size) : s.data.toList.take (k + 1) = s.data.toList.take k ++ [s[k]] := by
  rw [List.take_succ_eq_append_getElem (by simpa using h)]
  rfl

set_option maxRecDepth 100000 in
/-- appendText. -/
theorem appendText_any (base : Nat) (v : Value) (l : List UInt8) (s : ByteArray) (w : World) (hown : OwnB w base 5 v l) (hbase : base ≤ w.heap.size) (hl : l.length ≤ 1000) (hs : s.size ≤ 1000) :
    Calls Tryz.prog 106 #[v, .string s] w fun e w' => ∃ v', e = .returned v' ∧ OwnB w' base 5 v' (l ++ 2 :: (escB s.data.toList ++ [0, 1])) ∧ Below base w w' := by
  obtain ⟨i0, hi, hz0, hz1, hz2⟩ := info_parts kinfoU8
  go_enter Tryz.func106, Tryz.ntmps106
  go_wp2_with (at_builtin; refine wpList_appB _ rfl (.tmp 6) (.tmp 7) _ rfl base 5 i0 _ Tryz.underlying32 hi hz0 hz1 hz2 rfl v l rfl (hown.alloc _) (w.heap.size + 1) (some ⟨w.heap.size, 0, none⟩) 1 1 [2] rfl rfl (Rd.new w _ _ _) (by simp; omega) (by simp; omega) ?_; intro v1 w1 hown1 hg1 hat1)
  have hb1 : Below base w w1 := ((Below.refl _ _).alloc hbase _).grown hg1 (by simp; omega) (fun k hk => (World.ownsRow.lt hown k hk).1)
  clear hg1 hat1 hown
  go_loopw [0, 11] (fun v i wr => ∃ k : Nat, k ≤ s.size ∧ i = .int .i64 (k : Int) ∧ OwnB wr base 5 v (l ++ 2 :: escB (s.data.toList.take k)) ∧ Below base w wr ∧ base ≤ wr.heap.size) (fun _ i _ => s.size - (intOf i).toNat)
  case atStart => exact ⟨0, by omega, rfl, hown1, hb1, by have := hb1.size; omega⟩
  case round =>
    obtain ⟨k, hk, rfl, hownk, hbk, hsz⟩ := hrel
    have hel : (escB (s.data.toList.take k)).length ≤ 2000 := by
      rw [escB_length]
      have h0 : s.data.toList.length = s.size := by simp
      have h1 : (s.data.toList.take k).length ≤ 1000 := by rw [List.length_take]; omega
      have := List.count_le_length (a := (0 : UInt8)) (l := s.data.toList.take k)
      omega
    rcases Nat.lt_or_ge k s.size with h8 | h8
    · have hsn := strTake s k h8
      have hrd : Rd (wr.alloc (.cells #[.int .u8 (s[k].toNat : Int)] 5)) (wr.heap.size + 1) (some ⟨wr.heap.size, 0, none⟩) (u8s [s[k]]) := Rd.new wr _ _ _
      have hlen : (l ++ 2 :: escB (s.data.toList.take k)).length + [s[k]].length ≤ 140737488355328 := by simp; omega
      have HS := Lib.hid hsn
      clear hsn
      by_cases hz : ((s[k].toNat : Int) == 0) = true
      · have hs0 : s[k] = 0 := by simp at hz; exact UInt8.toNat_inj.1 (by simpa using hz)
        have HZ := Lib.hid hs0
        clear hs0
        go_wp2_with (first
          | (at_builtin; refine wpList_appB _ rfl (.tmp 14) (.tmp 18) _ rfl base 5 i0 _ Tryz.underlying32 hi hz0 hz1 hz2 rfl u0 _ rfl (hownk.alloc _) (wr.heap.size + 1) (some ⟨wr.heap.size, 0, none⟩) 1 1 [s[k]] rfl rfl hrd hlen (by simp; omega) ?_; intro v2 w2 hown2 hg2 hat2; have hb2 : Below base wr w2 := ((Below.refl _ _).alloc hsz _).grown hg2 (by simp; omega) (fun k hk => (World.ownsRow.lt hownk k hk).1); clear hg2 hat2)
          | (at_builtin; refine wpList_appB _ rfl (.tmp 24) (.tmp 25) _ rfl base 5 i0 _ Tryz.underlying32 hi hz0 hz1 hz2 rfl v2 _ rfl (hown2.alloc _) (w2.heap.size + 1) (some ⟨w2.heap.size, 0, none⟩) 1 1 [255] rfl rfl (Rd.new w2 _ _ _) (by simp; omega) (by have := hb2.size; simp; omega) ?_; intro v3 w3 hown3 hg3 hat3; have hb3 : Below base w2 w3 := ((Below.refl _ _).alloc (by have := hb2.size; omega) _).grown hg3 (by have := hb2.size; simp; omega) (fun k hk => (World.ownsRow.lt hown2 k hk).1); clear hg3 hat3))
        go_roundw
        case rel =>
          exact ⟨k + 1, by omega, by go_num, by rw [HS.out, escB_append, HZ.out] ; rw [HZ.out] at hown3; simpa [escB] using hown3, (hbk.trans hb2).trans hb3, by have := hb2.size; have := hb3.size; omega⟩
        case measure => simp [intOf]; omega
      · have hz' : ((s[k].toNat : Int) == 0) = false := by simpa using hz
        have hs0 : ¬ s[k] = 0 := by intro h; rw [h] at hz; simp at hz
        have HZ := Lib.hid hs0
        clear hs0 hz
        go_wp2_with (first
          | (at_builtin; refine wpList_appB _ rfl (.tmp 14) (.tmp 18) _ rfl base 5 i0 _ Tryz.underlying32 hi hz0 hz1 hz2 rfl u0 _ rfl (hownk.alloc _) (wr.heap.size + 1) (some ⟨wr.heap.size, 0, none⟩) 1 1 [s[k]] rfl rfl hrd hlen (by simp; omega) ?_; intro v2 w2 hown2 hg2 hat2; have hb2 : Below base wr w2 := ((Below.refl _ _).alloc hsz _).grown hg2 (by simp; omega) (fun k hk => (World.ownsRow.lt hownk k hk).1); clear hg2 hat2))
        go_roundw
        case rel =>
          exact ⟨k + 1, by omega, by go_num, by rw [HS.out, escB_append]; simpa [escB, HZ.out] using hown2, hbk.trans hb2, by have := hb2.size; omega⟩
        case measure => simp [intOf]; omega
    · obtain rfl : k = s.size := by omega
      go_wp2_with (at_builtin; refine wpList_appB _ rfl (.tmp 28) (.tmp 29) _ rfl base 5 i0 _ Tryz.underlying32 hi hz0 hz1 hz2 rfl u0 _ rfl (hownk.alloc _) (wr.heap.size + 1) (some ⟨wr.heap.size, 0, none⟩) 2 2 [0, 1] rfl rfl (Rd.new wr _ _ _) (by simp; omega) (by simp; omega) ?_; intro v2 w2 hown2 hg2 hat2; have hb2 : Below base wr w2 := ((Below.refl _ _).alloc hsz _).grown hg2 (by simp; omega) (fun k hk => (World.ownsRow.lt hownk k hk).1); clear hg2 hat2)
      go_ret
      exact ⟨_, rfl, by rw [List.take_of_length_le (by simp)] at hown2; simpa using hown2, hbk.trans hb2⟩
end Go.Proofs.YtgjjdmkoamjdpaaGreatDoor
