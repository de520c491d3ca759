/- val.parseText. -/
import Derived.Test.YtinhmchekdolmaaDoorProg
import Derived.Test.YtinhmchekdolmaaDoorValG
import Derived.WalkKit
import Derived.WalkSpells
import Derived.WalkLawsBesides
import Derived.Laws.IdiomStrings
import Derived.Deep.QuietTactic
import Derived.Deep.CutRange
import Derived.Deep.DeepCutAuto
import Derived.BigQuiet
import Derived.KernelRfl
import Derived.Lib.Hide
namespace Go.Proofs.YtinhmchekdolmaaDoor
open Go.RowKit

/-- A string's runes. -/
def runesG (s : ByteArray) : Nat → Nat → List Nat
  | 0, _ => []
  | f + 1, pos => if pos < s.size then (Utf8.decode s pos).1 :: runesG s f (pos + (Utf8.decode s pos).2) else []
def runesL (s : ByteArray) : List Nat := runesG s s.size 0

theorem runesFrom_eq (s : ByteArray) : ∀ (f pos : Nat) (acc : Array Value), Conv.runesFrom s f pos acc = acc ++ (r32s (runesG s f pos)).toArray
  | 0, pos, acc => by simp [Conv.runesFrom, runesG, r32s]
  | f + 1, pos, acc => by
    rw [Conv.runesFrom, runesG]
    split
    · simp only
      rw [runesFrom_eq s f _ _]
      simp [r32s]
    · simp [r32s]
theorem runesG_len (s : ByteArray) : ∀ (f pos : Nat), (runesG s f pos).length ≤ f
  | 0, _ => by simp [runesG]
  | f + 1, pos => by
    rw [runesG]
    split
    · simp; exact runesG_len s f _
    · simp
theorem runesG_le (s : ByteArray) : ∀ (f pos : Nat), ∀ r ∈ runesG s f pos, r ≤ 1114111
  | 0, _, r, h => by simp [runesG] at h
  | f + 1, pos, r, h => by
    rw [runesG] at h
    split at h
    · rcases List.mem_cons.1 h with rfl | h
      · exact Lib.rune_le _ _
      · exact runesG_le s f _ r h
    · cases h

theorem numGo_rune : ∀ (i n : Nat) (rs : List Nat), (numGo i n rs).1 ≤ 1114111
  | _, _, [] => by simp [numGo]
  | i, n, r :: rs => by
    rw [numGo]
    split
    · split
      · simp
      · rename_i h
        have hv : Lib.validRune (n : Int) = true := by
          cases hx : Lib.validRune (n : Int)
          · exact absurd (.inr hx) h
          · rfl
        simp only
        simp [Lib.validRune] at hv
        omega
    · split
      · simp
      · exact numGo_rune _ _ _
theorem numP_rune (rs : List Nat) : (numP rs).1 ≤ 1114111 := by
  rcases rs with _ | ⟨r, rs⟩
  · simp [numP]
  · rw [numP]
    split
    · exact numGo_rune _ _ _
    · simp
theorem rrP_rune (rs : List Nat) (h : ∀ r ∈ rs, r ≤ 1114111) : (rrP rs).1 ≤ 1114111 := by
  rcases rs with _ | ⟨r, rs⟩
  · simp [rrP]
  · rw [rrP]
    split
    · rcases rs with _ | ⟨x, rest⟩
      · simp [escP]
      · have := numP_rune rest
        have hx := h x (by simp)
        rw [escP]
        split
        · exact hx
        · split
          · simp
          · split
            · simp
            · split
              · split
                · simp
                · exact this
              · simp
    · split
      · simp
      · exact h r (by simp)

/-- The text whose runes are so written: none, if one isn't. -/
def pGo : Nat → List Nat → List UInt8 → Option (List UInt8)
  | _, [], acc => some acc
  | 0, _ :: _, _ => none
  | f + 1, r :: rs, acc => if (rrP (r :: rs)).2 = 0 then none else pGo f ((r :: rs).drop (rrP (r :: rs)).2) (acc ++ Lib.encodeRune (rrP (r :: rs)).1)
theorem pGo_nil (f : Nat) (acc : List UInt8) : pGo f [] acc = some acc := by cases f <;> rfl
def pFin (o : Option (List UInt8)) : List UInt8 × Bool := match o with
  | none => ([], false)
  | some t => (t, decide (ctN ⟨t.toArray⟩ = 0))
def pText (s : ByteArray) : List UInt8 × Bool :=
  if s.size < 2 ∨ 642 < s.size ∨ Lib.validD s.data.toList = false then ([], false)
  else if (runesL s).getLastD 0 = 34 then pFin (pGo (runesL s).length ((runesL s).dropLast.drop 1) []) else ([], false)
end Go.Proofs.YtinhmchekdolmaaDoor
