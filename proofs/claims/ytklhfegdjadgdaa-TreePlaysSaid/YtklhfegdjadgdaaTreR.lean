/- A tree's list: ranks, values, ranges (plain); strings' order. -/
import Derived.Test.YtklhfegdjadgdaaTreM
import Derived.Test.YtklhfegdjadgdaaTreQ
namespace Go.Proofs.Ytklhfegdjadgdaa

theorem at_mid {L : List Pr} {i : Nat} (hi : i < L.length) : L = L.take i ++ (L[i].1, L[i].2) :: L.drop (i + 1) := by
  rw [show (L[i].1, L[i].2) = L[i] from rfl, ← List.drop_eq_getElem_cons hi, List.take_append_drop]
theorem rankL_at {L : List Pr} (hr : Rises L) {i : Nat} (hi : i < L.length) : rankL L[i].1 L = i := by
  have e := at_mid hi
  have h2 : Rises (L.take i ++ (L[i].1, L[i].2) :: L.drop (i + 1)) := by rw [← e]; exact hr
  have h3 := rankL_left (key := L[i].1) h2 (by rw [cmp_refl]; omega)
  obtain ⟨_, _, h5, _, _⟩ := rises_mid h2
  have h4 : rankL L[i].1 L = rankL L[i].1 (L.take i) := (congrArg (rankL L[i].1) e).trans h3
  rw [h4, rankL_all (fun p hp => h5 p hp), List.length_take]
  omega
theorem getL_at {L : List Pr} (hr : Rises L) {i : Nat} (hi : i < L.length) : getL L[i].1 L = some L[i].2 := by
  have e := at_mid hi
  have h2 : Rises (L.take i ++ (L[i].1, L[i].2) :: L.drop (i + 1)) := by rw [← e]; exact hr
  exact (congrArg (getL L[i].1) e).trans (getL_same h2 (cmp_refl _))
theorem rises_at {L : List Pr} (hr : Rises L) {i j : Nat} (hij : i < j) (hj : j < L.length) : cmpB (L[i]'(by omega)).1 L[j].1 < 0 :=
  List.pairwise_iff_getElem.1 hr i j (by omega) hj hij
theorem rng_len (lo to : List UInt8) (L : List Pr) (h : L.length ≤ 1000) : (rngL lo to 1000 L).length = endL to L - rankL lo L := by
  have h1 := endL_le to L
  unfold rngL
  split
  · rename_i h2
    simp
    omega
  · rename_i h2
    unfold cutI
    rw [List.length_drop, List.length_take]
    omega
theorem rng_at (lo to : List UInt8) (L : List Pr) (h : L.length ≤ 1000) {j : Nat} (hj : j < endL to L - rankL lo L) : (rngL lo to 1000 L)[j]? = L[rankL lo L + j]? := by
  have h1 := endL_le to L
  unfold rngL
  rw [if_neg (by omega)]
  unfold cutI
  rw [List.getElem?_drop, List.getElem?_take]
  rw [if_pos (by omega)]
  congr 1
/-- Strings' order is bytes' order. -/
theorem less_cmp : ∀ a b : List UInt8, Op.bytesLess a b = decide (cmpB a b < 0)
  | [], [] => rfl
  | _ :: _, [] => rfl
  | [], _ :: _ => rfl
  | a :: x, b :: y => by
    have ih := less_cmp x y
    have e : cmpB (a :: x) (b :: y) = if a < b then -1 else if b < a then 1 else cmpB x y := by
      show Lib.compareBytes _ _ = _
      rw [Lib.compareBytes]
    rw [Op.bytesLess, e, ih]
    by_cases h1 : a < b
    · simp [h1]
    · by_cases h2 : b < a
      · have : a ≠ b := by rintro rfl; exact h1 h2
        simp [h1, h2, this]
      · have : a = b := UInt8.le_antisymm (UInt8.not_lt.1 h2) (UInt8.not_lt.1 h1)
        subst this
        simp
theorem not_le {a b : List UInt8} (h : cmpB b a < 0) : (Op.bytesLess a b || a == b) = false := by
  have h1 : a ≠ b := (cmp_ne h).symm
  rw [less_cmp, decide_eq_false (by have := cmp_swap a b; omega), beq_eq_false_iff_ne.2 h1]
  rfl
end Go.Proofs.Ytklhfegdjadgdaa
