/- Plain facts: how many digits the numbers of ValEnds have. Nothing of the program's run is stated here. -/
import Derived.Test.YtinhmchekdolmaaDoorValA
import Derived.WalkKit
namespace Go.Proofs.YtinhmchekdolmaaDoor
open Go.RowKit

def lenF : Nat → Nat → Nat
  | 0, _ => 0
  | f + 1, u => if u < 128 then 1 else lenF f (u / 128) + 1
theorem digs_lenF : ∀ (f u : Nat), u < 128 ^ (f + 1) → (digs u).length = lenF (f + 1) u
  | 0, u, h => by
    rw [digs, dif_pos (by simpa using h), lenF, if_pos (by simpa using h)]
    rfl
  | f + 1, u, h => by
    rw [digs, lenF]
    by_cases h8 : u < 128
    · rw [dif_pos h8, if_pos h8]; rfl
    · rw [dif_neg h8, if_neg h8, List.length_cons, digs_lenF f (u / 128) (by rw [Nat.pow_succ] at h; omega)]
def endN (b : Nat) (s : Bool) : Int := if s then -((2 ^ b : Nat) : Int) else ((2 ^ b : Nat) : Int)
theorem end_fin : ∀ (b : Fin 63) (s : Bool) (d : Fin 3), 1 + lenF 10 (foldN (endN b.val s + ((d.val : Int) - 1))) ≤ b.val / 7 + 4 ∧ (b.val + 1) / 7 ≤ 1 + lenF 10 (foldN (endN b.val s + ((d.val : Int) - 1))) ∧ -4611686018427387905 ≤ endN b.val s + ((d.val : Int) - 1) ∧ endN b.val s + ((d.val : Int) - 1) ≤ 4611686018427387905 := by decide +kernel
theorem end_len (b : Nat) (s : Bool) (d : Int) (hb : b < 63) (hd : -1 ≤ d ∧ d ≤ 1) :
    1 + (digs (foldN (endN b s + d))).length ≤ b / 7 + 4 ∧ (b + 1) / 7 ≤ 1 + (digs (foldN (endN b s + d))).length ∧ -4611686018427387905 ≤ endN b s + d ∧ endN b s + d ≤ 4611686018427387905 := by
  obtain ⟨k, hk, hk3⟩ : ∃ k : Nat, d = (k : Int) - 1 ∧ k < 3 := ⟨(d + 1).toNat, by omega, by omega⟩
  subst hk
  have h := end_fin ⟨b, hb⟩ s ⟨k, hk3⟩
  simp only at h
  have hf := foldN_lt (endN b s + ((k : Int) - 1)) (by omega) (by omega)
  rw [digs_lenF 9 _ (by omega)]
  exact h

/-- A shift's count, as the program makes it. -/
theorem count63 (n : Int) : ∃ b : Nat, wrap64 ((IntKind.u64.wrap n).tmod 63) = (b : Int) ∧ b < 63 := by
  have hu0 : 0 ≤ IntKind.u64.wrap n := by rw [IntKind.wrap_u64]; omega
  obtain ⟨u, hu⟩ : ∃ u : Nat, IntKind.u64.wrap n = (u : Int) := ⟨(IntKind.u64.wrap n).toNat, by omega⟩
  refine ⟨u % 63, ?_, by omega⟩
  rw [hu, show ((u : Int).tmod 63) = ((u % 63 : Nat) : Int) from rfl]
  unfold wrap64
  omega
end Go.Proofs.YtinhmchekdolmaaDoor
