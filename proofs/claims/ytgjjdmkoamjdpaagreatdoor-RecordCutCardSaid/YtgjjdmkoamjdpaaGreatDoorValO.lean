/- ValO, what this seat can fill of it. -/
import Derived.Test.YtgjjdmkoamjdpaaGreatDoorProg
import Derived.Test.YtgjjdmkoamjdpaaGreatDoorValB
import Derived.WalkKit
import Derived.WalkSpells
import Derived.WalkLawsBesides
import Derived.Deep.QuietTactic
import Derived.BigQuiet
import Derived.KernelRfl
import Derived.Lib.Hide
namespace Go.Proofs.YtgjjdmkoamjdpaaGreatDoor
/- The reference's Rune, UTF8, Check. -/
open Go.RowKit

/-- The byte at a place. -/
def bt (s : ByteArray) (i : Nat) : Nat := (s.data.toList.getD i 0).toNat
theorem bt_eq (s : ByteArray) (i : Nat) (h : i < s.size) : bt s i = (s[i]'h).toNat := by
  obtain ⟨⟨l⟩⟩ := s
  have hl : i < l.length := h
  unfold bt
  simp only [List.getD, List.getElem?_eq_getElem hl, Option.getD_some]
  rfl
theorem bt_lt (s : ByteArray) (i : Nat) : bt s i < 256 := UInt8.toNat_lt _

/-- The bytes behind a rune's first one. -/
def contN (s : ByteArray) : Nat → Nat → Nat → Option Nat
  | 0, _, n => some n
  | m + 1, j, n => if bt s j < 128 ∨ 191 < bt s j then none else contN s m (j + 1) (n * 64 + bt s j - 128)
def headR (b : Nat) : Nat × Nat × Nat := if 194 ≤ b ∧ b < 224 then (2, b - 192, 128) else if 224 ≤ b ∧ b < 240 then (3, b - 224, 2048) else if 240 ≤ b ∧ b < 245 then (4, b - 240, 65536) else (0, 0, 0)
def badR (least v : Nat) : Prop := v < least ∨ 1114111 < v ∨ (55296 ≤ v ∧ v ≤ 57343)
instance (l v : Nat) : Decidable (badR l v) := by unfold badR; infer_instance
def tailR (s : ByteArray) (i size n least : Nat) : Nat × Nat :=
  if s.size < i + size then (0, 0) else match contN s (size - 1) (i + 1) n with
    | none => (0, 0)
    | some v => if badR least v then (0, 0) else (size, v)
/-- The rune at a place: how many bytes, its number; (0, 0): none. -/
def runeR (s : ByteArray) (i : Nat) : Nat × Nat :=
  if s.size ≤ i then (0, 0) else if bt s i < 128 then (1, bt s i) else tailR s i (headR (bt s i)).1 (headR (bt s i)).2.1 (headR (bt s i)).2.2

set_option maxRecDepth 100000 in
theorem refRune_none (s : ByteArray) (i : Nat) (w : World) (h : s.size ≤ i) :
    Calls Tryz.prog 66 #[.string s, .int .i64 (i : Int)] w fun e w' => e = .returned (.tuple #[.int .i64 0, .int .i64 0]) ∧ w = w' := by
  have h' : (s.size : Int) ≤ (i : Int) := by omega
  clear h
  go_enter Tryz.func66, Tryz.ntmps66
  go_wp2
  go_ret2
  exact ⟨rfl, rfl⟩
set_option maxRecDepth 100000 in
theorem refRune_one (s : ByteArray) (i : Nat) (w : World) (h : i < s.size) (h1 : bt s i < 128) :
    Calls Tryz.prog 66 #[.string s, .int .i64 (i : Int)] w fun e w' => e = .returned (.tuple #[.int .i64 1, .int .i64 (bt s i : Int)]) ∧ w = w' := by
  rw [bt_eq s i h] at h1 ⊢
  have h1' : ((s[i].toNat : Nat) : Int) < 128 := by omega
  go_enter Tryz.func66, Tryz.ntmps66
  go_wp2
  go_ret2
  exact ⟨rfl, rfl⟩

set_option maxRecDepth 100000 in
set_option maxHeartbeats 1000000 in
theorem refRune_bad (s : ByteArray) (i : Nat) (w : World) (h : i < s.size) (h1 : 128 ≤ bt s i) (h2 : bt s i < 194 ∨ 245 ≤ bt s i) :
    Calls Tryz.prog 66 #[.string s, .int .i64 (i : Int)] w fun e w' => e = .returned (.tuple #[.int .i64 0, .int .i64 0]) ∧ w = w' := by
  rw [bt_eq s i h] at h1 h2
  have h0' : ¬ ((s[i].toNat : Nat) : Int) < 128 := by omega
  have hu : ((s[i].toNat : Nat) : Int) < 256 := by have := UInt8.toNat_lt s[i]; omega
  rcases h2 with h2 | h2
  · have a : ¬ (194 : Int) ≤ ((s[i].toNat : Nat) : Int) := by omega
    have b : ¬ (224 : Int) ≤ ((s[i].toNat : Nat) : Int) := by omega
    have c : ¬ (240 : Int) ≤ ((s[i].toNat : Nat) : Int) := by omega
    clear h1 h2
    go_enter Tryz.func66, Tryz.ntmps66
    go_wp2
    go_ret2
    exact ⟨rfl, rfl⟩
  · have a : (194 : Int) ≤ ((s[i].toNat : Nat) : Int) := by omega
    have a2 : ¬ ((s[i].toNat : Nat) : Int) < 224 := by omega
    have b : (224 : Int) ≤ ((s[i].toNat : Nat) : Int) := by omega
    have b2 : ¬ ((s[i].toNat : Nat) : Int) < 240 := by omega
    have c : (240 : Int) ≤ ((s[i].toNat : Nat) : Int) := by omega
    have c2 : ¬ ((s[i].toNat : Nat) : Int) < 245 := by omega
    clear h1 h2
    go_enter Tryz.func66, Tryz.ntmps66
    go_wp2
    go_ret2
    exact ⟨rfl, rfl⟩

theorem pow64 (k : Nat) (h : k ≤ 4) : 64 ^ k ≤ 16777216 := Nat.le_trans (Nat.pow_le_pow_right (by omega) h) (by decide)

set_option maxRecDepth 100000 in
set_option maxHeartbeats 4000000 in
theorem refRune_two (s : ByteArray) (i : Nat) (w : World) (h : i < s.size) (hs : s.size ≤ 140737488355328) (h1 : 194 ≤ bt s i) (h2 : bt s i < 224) :
    Calls Tryz.prog 66 #[.string s, .int .i64 (i : Int)] w fun e w' => e = .returned (.tuple #[.int .i64 ((tailR s i 2 (bt s i - 192) 128).1 : Int), .int .i64 ((tailR s i 2 (bt s i - 192) 128).2 : Int)]) ∧ w = w' := by
  obtain ⟨X, hX⟩ : ∃ X, X = tailR s i 2 (bt s i - 192) 128 := ⟨_, rfl⟩
  rw [← hX]
  unfold tailR at hX
  obtain ⟨n0, hn0⟩ : ∃ n0, n0 = bt s i - 192 := ⟨_, rfl⟩
  rw [← hn0] at hX
  rw [bt_eq s i h] at h1 h2 hn0
  have b0 : ¬ ((s[i].toNat : Nat) : Int) < 128 := by omega
  have b1 : (194 : Int) ≤ ((s[i].toNat : Nat) : Int) := by omega
  have b2 : ((s[i].toNat : Nat) : Int) < 224 := by omega
  have hn1 : ((s[i].toNat : Nat) : Int) - 192 = (n0 : Int) := by omega
  have hn2 : n0 < 64 := by omega
  have HX := Lib.hid hX
  clear hX hn0 h1 h2
  by_cases hsz : s.size < i + 2
  · have hsz' : (s.size : Int) < (i : Int) + 2 := by omega
    have HXX := Lib.hid (HX.out.trans (if_pos hsz))
    clear HX hsz
    go_enter Tryz.func66, Tryz.ntmps66
    go_wp2
    go_ret2
    exact ⟨by rw [HXX.out]; rfl, rfl⟩
  · have hsz' : ¬ (s.size : Int) < (i : Int) + 2 := by omega
    rw [if_neg hsz] at HX
    have hsz2 : i + 2 ≤ s.size := by omega
    clear hsz
    go_enter Tryz.func66, Tryz.ntmps66
    go_wp2
    go_loop [8, 10] (fun nv kv => ∃ (k m : Nat), 1 ≤ k ∧ k ≤ 2 ∧ kv = .int .i64 (k : Int) ∧ nv = .int .i64 (m : Int) ∧ m < 64 ^ k ∧ contN s (2 - k) (i + k) m = contN s (2 - 1) (i + 1) n0) (fun _ kv => 2 - (intOf kv).toNat)
    case atStart => exact ⟨1, n0, by omega, by omega, rfl, rfl, by omega, rfl⟩
    case round =>
      obtain ⟨k, m, hk1, hk2, rfl, rfl, hm, hc⟩ := hrel
      have hm2 : m < 16777216 := Nat.lt_of_lt_of_le hm (pow64 k (by omega))
      have HC := Lib.hid hc
      have HM := Lib.hid hm
      clear hc hm
      rcases Nat.lt_or_ge k 2 with h9 | h9
      · have hik : i + k < s.size := by omega
        have hk' : (k : Int) < 2 := by omega
        have hst : contN s (2 - k) (i + k) m = if bt s (i + k) < 128 ∨ 191 < bt s (i + k) then none else contN s (2 - (k + 1)) (i + (k + 1)) (m * 64 + bt s (i + k) - 128) := by
          rw [show 2 - k = (2 - (k + 1)) + 1 by omega, contN]
          rfl
        rw [bt_eq s (i + k) hik, HC.out] at hst
        have hcu : ((s[i + k].toNat : Nat) : Int) < 256 := by have := UInt8.toNat_lt s[i + k]; omega
        obtain ⟨c, hcc⟩ : ∃ c, c = s[i + k].toNat := ⟨_, rfl⟩
        have HST := Lib.hid hst
        clear hst
        by_cases hbad : s[i + k].toNat < 128 ∨ 191 < s[i + k].toNat
        · have HXX : Hid (X = (0, 0)) := Lib.hid (by rw [HX.out, HST.out, if_pos hbad])
          clear HX HST
          rcases hbad with hb | hb
          · have hb' : ((s[i + k].toNat : Nat) : Int) < 128 := by omega
            go_wp2
            go_ret2
            exact ⟨by rw [HXX.out]; rfl, rfl⟩
          · have hb' : ¬ ((s[i + k].toNat : Nat) : Int) < 128 := by omega
            have hb2 : (191 : Int) < ((s[i + k].toNat : Nat) : Int) := by omega
            go_wp2
            go_ret2
            exact ⟨by rw [HXX.out]; rfl, rfl⟩
        · have HS2 := Lib.hid (HST.out.trans (if_neg hbad))
          have hb' : ¬ ((s[i + k].toNat : Nat) : Int) < 128 := by omega
          have hb2 : ¬ (191 : Int) < ((s[i + k].toNat : Nat) : Int) := by omega
          clear HST
          go_wp2
          go_round
          case rel => exact ⟨k + 1, m * 64 + s[i + k].toNat - 128, by omega, by omega, by go_num, by congr 1; omega, by have := HM.out; rw [Nat.pow_succ]; omega, HS2.out.symm⟩
          case measure => simp [intOf]; omega
      · obtain rfl : k = 2 := by omega
        have hend : X = if badR 128 m then (0, 0) else (2, m) := by
          rw [HX.out, ← HC.out]
          rfl
        clear HX HC
        have HE := Lib.hid hend
        clear hend
        have kill : ((2 : Nat) : Int) = 2 := rfl
        by_cases e1 : m < 128
        · have HXX := Lib.hid (HE.out.trans (if_pos (.inl e1)))
          have e1' : (m : Int) < 128 := by omega
          go_wp2
          go_ret2
          exact ⟨by rw [HXX.out]; rfl, rfl⟩
        · have e1' : ¬ (m : Int) < 128 := by omega
          by_cases e2 : 1114111 < m
          · have HXX := Lib.hid (HE.out.trans (if_pos (.inr (.inl e2))))
            have e2' : (1114111 : Int) < (m : Int) := by omega
            go_wp2
            go_ret2
            exact ⟨by rw [HXX.out]; rfl, rfl⟩
          · have e2' : ¬ (1114111 : Int) < (m : Int) := by omega
            by_cases e3 : 55296 ≤ m
            · have e3' : (55296 : Int) ≤ (m : Int) := by omega
              by_cases e4 : m ≤ 57343
              · have HXX := Lib.hid (HE.out.trans (if_pos (.inr (.inr ⟨e3, e4⟩))))
                have e4' : (m : Int) ≤ 57343 := by omega
                go_wp2
                go_ret2
                exact ⟨by rw [HXX.out]; rfl, rfl⟩
              · have HXX := Lib.hid (HE.out.trans (if_neg (fun h => by unfold badR at h; omega)))
                have e4' : ¬ (m : Int) ≤ 57343 := by omega
                go_wp2
                go_ret2
                exact ⟨by rw [HXX.out]; rfl, rfl⟩
            · have HXX := Lib.hid (HE.out.trans (if_neg (fun h => by unfold badR at h; omega)))
              have e3' : ¬ (55296 : Int) ≤ (m : Int) := by omega
              go_wp2
              go_ret2
              exact ⟨by rw [HXX.out]; rfl, rfl⟩

set_option maxRecDepth 100000 in
set_option maxHeartbeats 4000000 in
theorem refRune_three (s : ByteArray) (i : Nat) (w : World) (h : i < s.size) (hs : s.size ≤ 140737488355328) (h1 : 224 ≤ bt s i) (h2 : bt s i < 240) :
    Calls Tryz.prog 66 #[.string s, .int .i64 (i : Int)] w fun e w' => e = .returned (.tuple #[.int .i64 ((tailR s i 3 (bt s i - 224) 2048).1 : Int), .int .i64 ((tailR s i 3 (bt s i - 224) 2048).2 : Int)]) ∧ w = w' := by
  obtain ⟨X, hX⟩ : ∃ X, X = tailR s i 3 (bt s i - 224) 2048 := ⟨_, rfl⟩
  rw [← hX]
  unfold tailR at hX
  obtain ⟨n0, hn0⟩ : ∃ n0, n0 = bt s i - 224 := ⟨_, rfl⟩
  rw [← hn0] at hX
  rw [bt_eq s i h] at h1 h2 hn0
  have b0 : ¬ ((s[i].toNat : Nat) : Int) < 128 := by omega
  have b1 : (224 : Int) ≤ ((s[i].toNat : Nat) : Int) := by omega
  have b2 : ((s[i].toNat : Nat) : Int) < 240 := by omega
  have c194 : (194 : Int) ≤ ((s[i].toNat : Nat) : Int) := by omega
  have d224 : ¬ ((s[i].toNat : Nat) : Int) < 224 := by omega
  have hn1 : ((s[i].toNat : Nat) : Int) - 224 = (n0 : Int) := by omega
  have hn2 : n0 < 64 := by omega
  have HX := Lib.hid hX
  clear hX hn0 h1 h2
  by_cases hsz : s.size < i + 3
  · have hsz' : (s.size : Int) < (i : Int) + 3 := by omega
    have HXX := Lib.hid (HX.out.trans (if_pos hsz))
    clear HX hsz
    go_enter Tryz.func66, Tryz.ntmps66
    go_wp2
    go_ret2
    exact ⟨by rw [HXX.out]; rfl, rfl⟩
  · have hsz' : ¬ (s.size : Int) < (i : Int) + 3 := by omega
    rw [if_neg hsz] at HX
    have hsz2 : i + 3 ≤ s.size := by omega
    clear hsz
    go_enter Tryz.func66, Tryz.ntmps66
    go_wp2
    go_loop [8, 10] (fun nv kv => ∃ (k m : Nat), 1 ≤ k ∧ k ≤ 3 ∧ kv = .int .i64 (k : Int) ∧ nv = .int .i64 (m : Int) ∧ m < 64 ^ k ∧ contN s (3 - k) (i + k) m = contN s (3 - 1) (i + 1) n0) (fun _ kv => 3 - (intOf kv).toNat)
    case atStart => exact ⟨1, n0, by omega, by omega, rfl, rfl, by omega, rfl⟩
    case round =>
      obtain ⟨k, m, hk1, hk2, rfl, rfl, hm, hc⟩ := hrel
      have hm2 : m < 16777216 := Nat.lt_of_lt_of_le hm (pow64 k (by omega))
      have HC := Lib.hid hc
      have HM := Lib.hid hm
      clear hc hm
      rcases Nat.lt_or_ge k 3 with h9 | h9
      · have hik : i + k < s.size := by omega
        have hk' : (k : Int) < 3 := by omega
        have hst : contN s (3 - k) (i + k) m = if bt s (i + k) < 128 ∨ 191 < bt s (i + k) then none else contN s (3 - (k + 1)) (i + (k + 1)) (m * 64 + bt s (i + k) - 128) := by
          rw [show 3 - k = (3 - (k + 1)) + 1 by omega, contN]
          rfl
        rw [bt_eq s (i + k) hik, HC.out] at hst
        have hcu : ((s[i + k].toNat : Nat) : Int) < 256 := by have := UInt8.toNat_lt s[i + k]; omega
        obtain ⟨c, hcc⟩ : ∃ c, c = s[i + k].toNat := ⟨_, rfl⟩
        have HST := Lib.hid hst
        clear hst
        by_cases hbad : s[i + k].toNat < 128 ∨ 191 < s[i + k].toNat
        · have HXX : Hid (X = (0, 0)) := Lib.hid (by rw [HX.out, HST.out, if_pos hbad])
          clear HX HST
          rcases hbad with hb | hb
          · have hb' : ((s[i + k].toNat : Nat) : Int) < 128 := by omega
            go_wp2
            go_ret2
            exact ⟨by rw [HXX.out]; rfl, rfl⟩
          · have hb' : ¬ ((s[i + k].toNat : Nat) : Int) < 128 := by omega
            have hb2 : (191 : Int) < ((s[i + k].toNat : Nat) : Int) := by omega
            go_wp2
            go_ret2
            exact ⟨by rw [HXX.out]; rfl, rfl⟩
        · have HS2 := Lib.hid (HST.out.trans (if_neg hbad))
          have hb' : ¬ ((s[i + k].toNat : Nat) : Int) < 128 := by omega
          have hb2 : ¬ (191 : Int) < ((s[i + k].toNat : Nat) : Int) := by omega
          clear HST
          go_wp2
          go_round
          case rel => exact ⟨k + 1, m * 64 + s[i + k].toNat - 128, by omega, by omega, by go_num, by congr 1; omega, by have := HM.out; rw [Nat.pow_succ]; omega, HS2.out.symm⟩
          case measure => simp [intOf]; omega
      · obtain rfl : k = 3 := by omega
        have hend : X = if badR 2048 m then (0, 0) else (3, m) := by
          rw [HX.out, ← HC.out]
          rfl
        clear HX HC
        have HE := Lib.hid hend
        clear hend
        have kill : ((3 : Nat) : Int) = 3 := rfl
        by_cases e1 : m < 2048
        · have HXX := Lib.hid (HE.out.trans (if_pos (.inl e1)))
          have e1' : (m : Int) < 2048 := by omega
          go_wp2
          go_ret2
          exact ⟨by rw [HXX.out]; rfl, rfl⟩
        · have e1' : ¬ (m : Int) < 2048 := by omega
          by_cases e2 : 1114111 < m
          · have HXX := Lib.hid (HE.out.trans (if_pos (.inr (.inl e2))))
            have e2' : (1114111 : Int) < (m : Int) := by omega
            go_wp2
            go_ret2
            exact ⟨by rw [HXX.out]; rfl, rfl⟩
          · have e2' : ¬ (1114111 : Int) < (m : Int) := by omega
            by_cases e3 : 55296 ≤ m
            · have e3' : (55296 : Int) ≤ (m : Int) := by omega
              by_cases e4 : m ≤ 57343
              · have HXX := Lib.hid (HE.out.trans (if_pos (.inr (.inr ⟨e3, e4⟩))))
                have e4' : (m : Int) ≤ 57343 := by omega
                go_wp2
                go_ret2
                exact ⟨by rw [HXX.out]; rfl, rfl⟩
              · have HXX := Lib.hid (HE.out.trans (if_neg (fun h => by unfold badR at h; omega)))
                have e4' : ¬ (m : Int) ≤ 57343 := by omega
                go_wp2
                go_ret2
                exact ⟨by rw [HXX.out]; rfl, rfl⟩
            · have HXX := Lib.hid (HE.out.trans (if_neg (fun h => by unfold badR at h; omega)))
              have e3' : ¬ (55296 : Int) ≤ (m : Int) := by omega
              go_wp2
              go_ret2
              exact ⟨by rw [HXX.out]; rfl, rfl⟩

set_option maxRecDepth 100000 in
set_option maxHeartbeats 4000000 in
theorem refRune_four (s : ByteArray) (i : Nat) (w : World) (h : i < s.size) (hs : s.size ≤ 140737488355328) (h1 : 240 ≤ bt s i) (h2 : bt s i < 245) :
    Calls Tryz.prog 66 #[.string s, .int .i64 (i : Int)] w fun e w' => e = .returned (.tuple #[.int .i64 ((tailR s i 4 (bt s i - 240) 65536).1 : Int), .int .i64 ((tailR s i 4 (bt s i - 240) 65536).2 : Int)]) ∧ w = w' := by
  obtain ⟨X, hX⟩ : ∃ X, X = tailR s i 4 (bt s i - 240) 65536 := ⟨_, rfl⟩
  rw [← hX]
  unfold tailR at hX
  obtain ⟨n0, hn0⟩ : ∃ n0, n0 = bt s i - 240 := ⟨_, rfl⟩
  rw [← hn0] at hX
  rw [bt_eq s i h] at h1 h2 hn0
  have b0 : ¬ ((s[i].toNat : Nat) : Int) < 128 := by omega
  have b1 : (240 : Int) ≤ ((s[i].toNat : Nat) : Int) := by omega
  have b2 : ((s[i].toNat : Nat) : Int) < 245 := by omega
  have c194 : (194 : Int) ≤ ((s[i].toNat : Nat) : Int) := by omega
  have d224 : ¬ ((s[i].toNat : Nat) : Int) < 224 := by omega
  have c224 : (224 : Int) ≤ ((s[i].toNat : Nat) : Int) := by omega
  have d240 : ¬ ((s[i].toNat : Nat) : Int) < 240 := by omega
  have hn1 : ((s[i].toNat : Nat) : Int) - 240 = (n0 : Int) := by omega
  have hn2 : n0 < 64 := by omega
  have HX := Lib.hid hX
  clear hX hn0 h1 h2
  by_cases hsz : s.size < i + 4
  · have hsz' : (s.size : Int) < (i : Int) + 4 := by omega
    have HXX := Lib.hid (HX.out.trans (if_pos hsz))
    clear HX hsz
    go_enter Tryz.func66, Tryz.ntmps66
    go_wp2
    go_ret2
    exact ⟨by rw [HXX.out]; rfl, rfl⟩
  · have hsz' : ¬ (s.size : Int) < (i : Int) + 4 := by omega
    rw [if_neg hsz] at HX
    have hsz2 : i + 4 ≤ s.size := by omega
    clear hsz
    go_enter Tryz.func66, Tryz.ntmps66
    go_wp2
    go_loop [8, 10] (fun nv kv => ∃ (k m : Nat), 1 ≤ k ∧ k ≤ 4 ∧ kv = .int .i64 (k : Int) ∧ nv = .int .i64 (m : Int) ∧ m < 64 ^ k ∧ contN s (4 - k) (i + k) m = contN s (4 - 1) (i + 1) n0) (fun _ kv => 4 - (intOf kv).toNat)
    case atStart => exact ⟨1, n0, by omega, by omega, rfl, rfl, by omega, rfl⟩
    case round =>
      obtain ⟨k, m, hk1, hk2, rfl, rfl, hm, hc⟩ := hrel
      have hm2 : m < 16777216 := Nat.lt_of_lt_of_le hm (pow64 k (by omega))
      have HC := Lib.hid hc
      have HM := Lib.hid hm
      clear hc hm
      rcases Nat.lt_or_ge k 4 with h9 | h9
      · have hik : i + k < s.size := by omega
        have hk' : (k : Int) < 4 := by omega
        have hst : contN s (4 - k) (i + k) m = if bt s (i + k) < 128 ∨ 191 < bt s (i + k) then none else contN s (4 - (k + 1)) (i + (k + 1)) (m * 64 + bt s (i + k) - 128) := by
          rw [show 4 - k = (4 - (k + 1)) + 1 by omega, contN]
          rfl
        rw [bt_eq s (i + k) hik, HC.out] at hst
        have hcu : ((s[i + k].toNat : Nat) : Int) < 256 := by have := UInt8.toNat_lt s[i + k]; omega
        obtain ⟨c, hcc⟩ : ∃ c, c = s[i + k].toNat := ⟨_, rfl⟩
        have HST := Lib.hid hst
        clear hst
        by_cases hbad : s[i + k].toNat < 128 ∨ 191 < s[i + k].toNat
        · have HXX : Hid (X = (0, 0)) := Lib.hid (by rw [HX.out, HST.out, if_pos hbad])
          clear HX HST
          rcases hbad with hb | hb
          · have hb' : ((s[i + k].toNat : Nat) : Int) < 128 := by omega
            go_wp2
            go_ret2
            exact ⟨by rw [HXX.out]; rfl, rfl⟩
          · have hb' : ¬ ((s[i + k].toNat : Nat) : Int) < 128 := by omega
            have hb2 : (191 : Int) < ((s[i + k].toNat : Nat) : Int) := by omega
            go_wp2
            go_ret2
            exact ⟨by rw [HXX.out]; rfl, rfl⟩
        · have HS2 := Lib.hid (HST.out.trans (if_neg hbad))
          have hb' : ¬ ((s[i + k].toNat : Nat) : Int) < 128 := by omega
          have hb2 : ¬ (191 : Int) < ((s[i + k].toNat : Nat) : Int) := by omega
          clear HST
          go_wp2
          go_round
          case rel => exact ⟨k + 1, m * 64 + s[i + k].toNat - 128, by omega, by omega, by go_num, by congr 1; omega, by have := HM.out; rw [Nat.pow_succ]; omega, HS2.out.symm⟩
          case measure => simp [intOf]; omega
      · obtain rfl : k = 4 := by omega
        have hend : X = if badR 65536 m then (0, 0) else (4, m) := by
          rw [HX.out, ← HC.out]
          rfl
        clear HX HC
        have HE := Lib.hid hend
        clear hend
        have kill : ((4 : Nat) : Int) = 4 := rfl
        by_cases e1 : m < 65536
        · have HXX := Lib.hid (HE.out.trans (if_pos (.inl e1)))
          have e1' : (m : Int) < 65536 := by omega
          go_wp2
          go_ret2
          exact ⟨by rw [HXX.out]; rfl, rfl⟩
        · have e1' : ¬ (m : Int) < 65536 := by omega
          by_cases e2 : 1114111 < m
          · have HXX := Lib.hid (HE.out.trans (if_pos (.inr (.inl e2))))
            have e2' : (1114111 : Int) < (m : Int) := by omega
            go_wp2
            go_ret2
            exact ⟨by rw [HXX.out]; rfl, rfl⟩
          · have e2' : ¬ (1114111 : Int) < (m : Int) := by omega
            by_cases e3 : 55296 ≤ m
            · have e3' : (55296 : Int) ≤ (m : Int) := by omega
              by_cases e4 : m ≤ 57343
              · have HXX := Lib.hid (HE.out.trans (if_pos (.inr (.inr ⟨e3, e4⟩))))
                have e4' : (m : Int) ≤ 57343 := by omega
                go_wp2
                go_ret2
                exact ⟨by rw [HXX.out]; rfl, rfl⟩
              · have HXX := Lib.hid (HE.out.trans (if_neg (fun h => by unfold badR at h; omega)))
                have e4' : ¬ (m : Int) ≤ 57343 := by omega
                go_wp2
                go_ret2
                exact ⟨by rw [HXX.out]; rfl, rfl⟩
            · have HXX := Lib.hid (HE.out.trans (if_neg (fun h => by unfold badR at h; omega)))
              have e3' : ¬ (55296 : Int) ≤ (m : Int) := by omega
              go_wp2
              go_ret2
              exact ⟨by rw [HXX.out]; rfl, rfl⟩

set_option maxRecDepth 100000 in
theorem refRune_any (s : ByteArray) (i : Nat) (w : World) (hs : s.size ≤ 140737488355328) :
    Calls Tryz.prog 66 #[.string s, .int .i64 (i : Int)] w fun e w' => e = .returned (.tuple #[.int .i64 ((runeR s i).1 : Int), .int .i64 ((runeR s i).2 : Int)]) ∧ w = w' := by
  unfold runeR
  by_cases h : s.size ≤ i
  · rw [if_pos h]
    exact refRune_none s i w h
  · rw [if_neg h]
    have h' : i < s.size := by omega
    by_cases h1 : bt s i < 128
    · rw [if_pos h1]
      exact refRune_one s i w h' h1
    · rw [if_neg h1]
      unfold headR
      by_cases c1 : 194 ≤ bt s i ∧ bt s i < 224
      · rw [if_pos c1]
        exact refRune_two s i w h' hs c1.1 c1.2
      · rw [if_neg c1]
        by_cases c2 : 224 ≤ bt s i ∧ bt s i < 240
        · rw [if_pos c2]
          exact refRune_three s i w h' hs c2.1 c2.2
        · rw [if_neg c2]
          by_cases c3 : 240 ≤ bt s i ∧ bt s i < 245
          · rw [if_pos c3]
            exact refRune_four s i w h' hs c3.1 c3.2
          · rw [if_neg c3]
            have e : tailR s i 0 0 0 = (0, 0) := by
              unfold tailR
              split
              · rfl
              · simp only [Nat.zero_sub, contN]
                split <;> rfl
            rw [e]
            exact refRune_bad s i w h' (by omega) (by omega)

theorem tailR_le (s : ByteArray) (i size n least : Nat) (h4 : size ≤ 4) : (tailR s i size n least).1 ≤ 4 ∧ ((tailR s i size n least).1 ≠ 0 → i + (tailR s i size n least).1 ≤ s.size) := by
  unfold tailR
  split
  · exact ⟨by simp, by simp⟩
  · split
    · exact ⟨by simp, by simp⟩
    · split
      · exact ⟨by simp, by simp⟩
      · exact ⟨h4, fun _ => by show i + size ≤ _; omega⟩
theorem runeR_le (s : ByteArray) (i : Nat) : (runeR s i).1 ≤ 4 ∧ ((runeR s i).1 ≠ 0 → i + (runeR s i).1 ≤ s.size) := by
  unfold runeR
  split
  · exact ⟨by simp, by simp⟩
  · split
    · exact ⟨by simp, fun _ => by show i + 1 ≤ _; omega⟩
    · refine tailR_le _ _ _ _ _ ?_
      unfold headR
      split
      · simp
      · split
        · simp
        · split <;> simp
end Go.Proofs.YtgjjdmkoamjdpaaGreatDoor
