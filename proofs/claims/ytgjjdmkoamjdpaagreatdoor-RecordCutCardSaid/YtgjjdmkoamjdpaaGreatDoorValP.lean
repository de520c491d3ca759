/- ValP, what this seat can fill of it. -/
import Derived.Test.YtgjjdmkoamjdpaaGreatDoorProg
import Derived.Test.YtgjjdmkoamjdpaaGreatDoorValO
import Derived.WalkKit
import Derived.WalkSpells
import Derived.WalkLawsBesides
import Derived.Deep.QuietTactic
import Derived.BigQuiet
import Derived.KernelRfl
import Derived.Lib.Hide
namespace Go.Proofs.YtgjjdmkoamjdpaaGreatDoor
/- The reference's UTF8, Check. -/
open Go.RowKit

def utfG (s : ByteArray) : Nat → Nat → Bool
  | 0, _ => true
  | f + 1, i => if s.size ≤ i then true else if (runeR s i).1 = 0 then false else utfG s f (i + (runeR s i).1)
/-- Is it a text? -/
def utfR (s : ByteArray) : Bool := utfG s (s.size + 1) 0

set_option maxRecDepth 100000 in
set_option maxHeartbeats 1000000 in
theorem refUTF8_any (s : ByteArray) (w : World) (hs : s.size ≤ 140737488355328) :
    Calls Tryz.prog 60 #[.string s] w fun e w' => e = .returned (.bool (utfR s)) ∧ w = w' := by
  obtain ⟨X, hX⟩ : ∃ X, X = utfR s := ⟨_, rfl⟩
  rw [← hX]
  unfold utfR at hX
  have HX := Lib.hid hX.symm
  have hru := fun i => refRune_any s i w hs
  have HR := Lib.hid hru
  clear hX hru
  go_enter Tryz.func60, Tryz.ntmps60
  go_wp2
  go_loop [3] (fun iv => ∃ (i f : Nat), i ≤ s.size ∧ s.size < i + f ∧ iv = .int .i64 (i : Int) ∧ utfG s f i = X) (fun iv => s.size - (intOf iv).toNat)
  case atStart => exact ⟨0, s.size + 1, by omega, by omega, rfl, HX.out⟩
  case round =>
    obtain ⟨i, f, hi, hf, rfl, hg⟩ := hrel
    obtain ⟨f, rfl⟩ : ∃ g, f = g + 1 := ⟨f - 1, by omega⟩
    have HR1 := Lib.hid (HR.out i)
    have hle := runeR_le s i
    rw [utfG] at hg
    obtain ⟨⟨z, n⟩, hzn⟩ : ∃ p, p = runeR s i := ⟨_, rfl⟩
    rw [← hzn] at HR1 hle hg
    simp only at HR1 hle hg
    have HG := Lib.hid hg
    clear HR HX hg hzn
    rcases Nat.lt_or_ge i s.size with h9 | h9
    · have HG2 := Lib.hid ((if_neg (show ¬ s.size ≤ i by omega)).symm.trans HG.out)
      clear HG
      by_cases hz : z = 0
      · subst hz
        have HXX : Hid (X = false) := Lib.hid ((if_pos rfl).symm.trans HG2.out).symm
        clear HG2
        go_wp2_with (go_at_call 66; (with_reducible refine HR1.out.mono ?_); rintro e w' ⟨rfl, rfl⟩)
        go_ret
        exact ⟨by rw [HXX.out]; rfl, rfl⟩
      · have HG3 := Lib.hid ((if_neg hz).symm.trans HG2.out)
        have hz2 := hle.2 hz
        have hz' : ((z : Int) == 0) = false := by rw [beq_eq_false_iff_ne]; omega
        clear HG2
        go_wp2_with (go_at_call 66; (with_reducible refine HR1.out.mono ?_); rintro e w' ⟨rfl, rfl⟩)
        go_round
        case rel => exact ⟨i + z, f, by omega, by omega, by go_num, HG3.out⟩
        case measure => simp [intOf]; omega
    · have HXX : Hid (X = true) := Lib.hid ((if_pos h9).symm.trans HG.out).symm
      obtain rfl : i = s.size := by omega
      clear HG HR1
      go_wp2
      go_ret
      exact ⟨by rw [HXX.out]; rfl, rfl⟩

/-- What is wrong with a value, as the document says it. -/
def ckR (v : VVal) : Nat := if v.kind = 1 ∨ (v.kind = 3 ∧ (v.n = 0 ∨ v.n = 1)) then 0 else if v.kind ≠ 2 then 1 else if 64 < v.s.size then 3 else if utfR v.s then 0 else 7

set_option maxRecDepth 100000 in
set_option maxHeartbeats 1000000 in
theorem refCheck_any (v : VVal) (w : World) (hf : v.fits) :
    Calls Tryz.prog 36 #[.agg v.cells] w fun e w' => e = .returned (.int .i64 (ckR v)) ∧ Below w.heap.size w w' := by
  obtain ⟨k, n, s⟩ := v
  obtain ⟨f0, f1, f2⟩ := hf
  simp only at f0 f1 f2
  simp only [VVal.cells]
  have hB : Below w.heap.size w (w.alloc (.cells #[.int .i64 k, .int .i64 n, .string s] 51)) := (Below.refl _ _).alloc (Nat.le_refl _) _
  have hct := refUTF8_any s (w.alloc (.cells #[.int .i64 k, .int .i64 n, .string s] 51)) (by omega)
  obtain ⟨x, hx⟩ : ∃ x, x = utfR s := ⟨_, rfl⟩
  have hc : ckR ⟨k, n, s⟩ = if k = 1 ∨ (k = 3 ∧ (n = 0 ∨ n = 1)) then 0 else if k ≠ 2 then 1 else if 64 < s.size then 3 else if x then 0 else 7 := by rw [hx]; rfl
  rw [← hx] at hct
  obtain ⟨X, hX⟩ : ∃ X, X = ckR ⟨k, n, s⟩ := ⟨_, rfl⟩
  rw [← hX] at hc ⊢
  have HC := Lib.hid hct
  have HH := Lib.hid hc
  clear hct hx hX hc
  by_cases h1 : k = 1
  · have HX := Lib.hid (HH.out.trans (if_pos (.inl h1)))
    clear HH HC
    subst h1
    go_enter Tryz.func36, Tryz.ntmps36
    go_wp2
    go_ret
    exact ⟨by rw [HX.out]; rfl, hB⟩
  · have b1 : (k == 1) = false := beq_eq_false_iff_ne.2 h1
    by_cases h3 : k = 3
    · by_cases hn : n = 0 ∨ n = 1
      · have HX := Lib.hid (HH.out.trans (if_pos (.inr ⟨h3, hn⟩)))
        clear HH HC b1 h1
        subst h3
        rcases hn with rfl | rfl
        all_goals
          go_enter Tryz.func36, Tryz.ntmps36
          go_wp2
          go_ret
          exact ⟨by rw [HX.out]; rfl, hB⟩
      · have hno : ¬ (k = 1 ∨ (k = 3 ∧ (n = 0 ∨ n = 1))) := fun h => h.elim h1 (fun h => hn h.2)
        have HX := Lib.hid ((HH.out.trans (if_neg hno)).trans (if_pos (show k ≠ 2 by omega)))
        have n0 : (n == 0) = false := by rw [beq_eq_false_iff_ne]; omega
        have n1 : (n == 1) = false := by rw [beq_eq_false_iff_ne]; omega
        clear HH HC b1 h1 hn hno
        subst h3
        go_enter Tryz.func36, Tryz.ntmps36
        go_wp2
        go_ret
        exact ⟨by rw [HX.out]; rfl, hB⟩
    · have b3 : (k == 3) = false := beq_eq_false_iff_ne.2 h3
      have hno : ¬ (k = 1 ∨ (k = 3 ∧ (n = 0 ∨ n = 1))) := fun h => h.elim h1 (fun h => h3 h.1)
      have HY := Lib.hid (HH.out.trans (if_neg hno))
      clear HH
      by_cases h2 : k = 2
      · have HZ := Lib.hid (HY.out.trans (if_neg (show ¬ k ≠ 2 by omega)))
        clear HY b1 b3 h1 h3 hno
        subst h2
        by_cases hl : 64 < s.size
        · have HX := Lib.hid (HZ.out.trans (if_pos hl))
          have hl' : (64 : Int) < (s.size : Int) := by omega
          clear HZ HC hl
          go_enter Tryz.func36, Tryz.ntmps36
          go_wp2
          go_ret
          exact ⟨by rw [HX.out]; rfl, hB⟩
        · have HX := Lib.hid (HZ.out.trans (if_neg hl))
          have hl' : ¬ (64 : Int) < (s.size : Int) := by omega
          clear HZ hl
          rcases x with _ | _
          all_goals
            go_enter Tryz.func36, Tryz.ntmps36
            go_wp2_with (go_at_call 60; (with_reducible refine HC.out.mono ?_); rintro e w' ⟨rfl, rfl⟩)
            go_ret
            exact ⟨by rw [HX.out]; rfl, hB⟩
      · have HX := Lib.hid (HY.out.trans (if_pos h2))
        have b2 : (k == 2) = false := beq_eq_false_iff_ne.2 h2
        clear HY HC hno h1 h2 h3
        go_enter Tryz.func36, Tryz.ntmps36
        go_wp2
        go_ret
        exact ⟨by rw [HX.out]; rfl, hB⟩
end Go.Proofs.YtgjjdmkoamjdpaaGreatDoor
