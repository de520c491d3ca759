/- ValB, what this seat can fill of it. -/
import Derived.Test.YtgjjdmkoamjdpaaGreatDoorProg
import Derived.Test.YtgjjdmkoamjdpaaGreatDoorMem
import Derived.Test.YtgjjdmkoamjdpaaGreatDoorValA
import Derived.Test.YtgjjdmkoamjdpaaGreatDoorShelf
import Derived.WalkKit
import Derived.WalkSpells
import Derived.WalkLawsBesides
import Derived.Deep.QuietTactic
import Derived.BigQuiet
import Derived.KernelRfl
import Derived.Lib.Hide
namespace Go.Proofs.YtgjjdmkoamjdpaaGreatDoor
/- The library's tables; val.Check, val.Encode. -/
open Go.RowKit

/-- What the library's variables hold: two tables of UTF-8. -/
structure Tabs (w : World) : Prop where
  u8 : Lib.Utf8Tabs 0 1 w
theorem Tabs.below {w w' : World} (h : Tabs w) (hb : Below w.heap.size w w') : Tabs w' := ⟨Utf8Tabs_below h.u8 hb⟩
theorem Tabs.alloc {w : World} (h : Tabs w) (o : Obj) : Tabs (w.alloc o) := h.below ((Below.refl _ _).alloc (Nat.le_refl _) _)

theorem validString_any (s : ByteArray) (w : World) (hs : s.size ≤ 9223372036854775807) (hT : Tabs w) :
    Calls Tryz.prog 96 #[.string s] w fun e w' => e = .returned (.bool (Lib.validD s.data.toList)) ∧ Below w.heap.size w w' := Tryz.utf8_ValidString s w hs hT.u8

/-- A value, as the program holds it. -/
structure VVal where
  kind : Int
  n : Int
  s : ByteArray
def VVal.cells (v : VVal) : Array Value := #[.int .i64 v.kind, .int .i64 v.n, .string v.s]
def VVal.fits (v : VVal) : Prop := v.s.size ≤ 140737488355328 ∧ -9223372036854775808 ≤ v.n ∧ v.n ≤ 9223372036854775807

/-- What is wrong with a text. -/
def ctN (s : ByteArray) : Nat := if 64 < s.size then 3 else if Lib.validD s.data.toList then 0 else 7
def ckN (v : VVal) : Nat := if v.kind = 1 then 0 else if v.kind = 3 then (if v.n = 0 ∨ v.n = 1 then 0 else 1) else if v.kind = 2 then ctN v.s else 1

set_option maxRecDepth 100000 in
theorem checkText_any (s : ByteArray) (w : World) (hs : s.size ≤ 9223372036854775807) (hT : Tabs w) :
    Calls Tryz.prog 82 #[.string s] w fun e w' => e = .returned (.int .i64 (ctN s)) ∧ Below w.heap.size w w' := by
  have hv := validString_any s w hs hT
  obtain ⟨b, hb⟩ : ∃ b, b = Lib.validD s.data.toList := ⟨_, rfl⟩
  have hc : ctN s = if 64 < s.size then 3 else if b then 0 else 7 := by rw [hb]; rfl
  rw [← hb] at hv
  have HV := Lib.hid hv
  clear hv hb
  by_cases h : 64 < s.size
  · rw [hc, if_pos h]
    have h' : (64 : Int) < (s.size : Int) := by omega
    clear hc h
    go_enter Tryz.func82, Tryz.ntmps82
    go_wp2
    go_ret
    exact ⟨rfl, Below.refl _ _⟩
  · rw [hc, if_neg h]
    have h' : ¬ (64 : Int) < (s.size : Int) := by omega
    clear hc h
    rcases b with _ | _
    all_goals
      go_enter Tryz.func82, Tryz.ntmps82
      go_wp2_with (go_at_call 96; (with_reducible refine HV.out.mono ?_); rintro e w' ⟨rfl, hb⟩)
      go_ret
      exact ⟨rfl, hb⟩

set_option maxRecDepth 100000 in
set_option maxHeartbeats 1000000 in
theorem check_any (v : VVal) (w : World) (hf : v.fits) (hT : Tabs w) :
    Calls Tryz.prog 68 #[.agg v.cells] w fun e w' => e = .returned (.int .i64 (ckN v)) ∧ Below w.heap.size w w' := by
  obtain ⟨k, n, s⟩ := v
  obtain ⟨f0, f1, f2⟩ := hf
  simp only at f0 f1 f2
  simp only [VVal.cells]
  have hB : Below w.heap.size w (w.alloc (.cells #[.int .i64 k, .int .i64 n, .string s] 51)) := (Below.refl _ _).alloc (Nat.le_refl _) _
  have hct := checkText_any s (w.alloc (.cells #[.int .i64 k, .int .i64 n, .string s] 51)) (by omega) (hT.alloc _)
  obtain ⟨x, hx⟩ : ∃ x, x = ctN s := ⟨_, rfl⟩
  have hc : ckN ⟨k, n, s⟩ = if k = 1 then 0 else if k = 3 then (if n = 0 ∨ n = 1 then 0 else 1) else if k = 2 then x else 1 := by rw [hx]; rfl
  rw [← hx] at hct
  have HC := Lib.hid hct
  clear hct hx hT
  by_cases h1 : k = 1
  · have e1 : ckN ⟨k, n, s⟩ = 0 := by rw [hc, if_pos h1]
    rw [e1]
    clear hc e1
    subst h1
    go_enter Tryz.func68, Tryz.ntmps68
    go_wp2
    go_ret
    exact ⟨rfl, hB⟩
  · have b1 : (k == 1) = false := beq_eq_false_iff_ne.2 h1
    by_cases h3 : k = 3
    · by_cases hn : n = 0 ∨ n = 1
      · have e1 : ckN ⟨k, n, s⟩ = 0 := by rw [hc, if_neg h1, if_pos h3, if_pos hn]
        rw [e1]
        clear hc e1 b1
        subst h3
        rcases hn with rfl | rfl
        all_goals
          go_enter Tryz.func68, Tryz.ntmps68
          go_wp2
          go_ret
          exact ⟨rfl, hB⟩
      · have e1 : ckN ⟨k, n, s⟩ = 1 := by rw [hc, if_neg h1, if_pos h3, if_neg hn]
        rw [e1]
        have n0 : (n != 0) = true := by simp; omega
        have n1 : (n != 1) = true := by simp; omega
        clear hc e1 b1 hn
        subst h3
        go_enter Tryz.func68, Tryz.ntmps68
        go_wp2
        go_ret
        exact ⟨rfl, hB⟩
    · have b3 : (k == 3) = false := beq_eq_false_iff_ne.2 h3
      by_cases h2 : k = 2
      · have e1 : ckN ⟨k, n, s⟩ = x := by rw [hc, if_neg h1, if_neg h3, if_pos h2]
        rw [e1]
        clear hc e1 b1 b3
        subst h2
        go_enter Tryz.func68, Tryz.ntmps68
        go_wp2_with (go_at_call 82; (with_reducible refine HC.out.mono ?_); rintro e w' ⟨rfl, hb⟩)
        go_ret
        exact ⟨rfl, hB.trans (hb.mono hB.size)⟩
      · have b2 : (k == 2) = false := beq_eq_false_iff_ne.2 h2
        have e1 : ckN ⟨k, n, s⟩ = 1 := by rw [hc, if_neg h1, if_neg h3, if_neg h2]
        rw [e1]
        clear hc e1 h1 h2 h3
        go_enter Tryz.func68, Tryz.ntmps68
        go_wp2
        go_ret
        exact ⟨rfl, hB⟩
end Go.Proofs.YtgjjdmkoamjdpaaGreatDoor
