/- Plain facts: the reference's reading of a number. Nothing of the program's run is stated here. -/
import Derived.Test.YtinhmchekdolmaaDoorValHH
namespace Go.Proofs.YtinhmchekdolmaaDoor
open Go.RowKit (wrap64)

theorem w64_in (n : Int) (h0 : -9223372036854775808 ≤ n) (h1 : n ≤ 9223372036854775807) : wrap64 n = n := by
  unfold wrap64; omega
/-- How low a number may stand ahead of a digit. -/
def lowQ (d : Nat) : Int := (-(9223372036854775807 - (d : Int))).tdiv 10 - 1
theorem lowQ_eq (d : Nat) (h : d ≤ 9) : lowQ d = if d ≤ 7 then -922337203685477581 else -922337203685477580 := by
  unfold lowQ
  rw [Int.neg_tdiv, Int.tdiv_eq_ediv_of_nonneg (by omega)]
  split <;> omega
/-- The number below 0 that digits say, by the reference's steps. -/
def numF : Int → List UInt8 → Option Int
  | n, [] => some n
  | n, c :: t => if c.toNat < 48 ∨ 57 < c.toNat then none else if n < lowQ (c.toNat - 48) then none else numF (wrap64 (wrap64 (n * 10) - ((c.toNat - 48 : Nat) : Int))) t
def digsOf (l : List UInt8) : List UInt8 := if l.headD 0 = 45 then l.drop 1 else l
/-- The reference's number. -/
def numR (l : List UInt8) : Option Int :=
  if (digsOf l).length = 0 ∨ 19 < (digsOf l).length then none
  else match numF 0 (digsOf l) with
    | none => none
    | some n => if Lib.itoa (if (digsOf l).length = l.length then wrap64 (-n) else n) = l then some (if (digsOf l).length = l.length then wrap64 (-n) else n) else none

theorem numF_dec (r : List UInt8) : ∀ (f u : Nat), u < f → u ≤ 9223372036854775808 → numF 0 (Lib.decDigits u ++ r) = numF (-(u : Int)) r
  | 0, _, h, _ => absurd h (by omega)
  | f + 1, u, hf, hu => by
    rw [Lib.decDigits]
    by_cases h : u < 10
    · have hb : (UInt8.ofNat (48 + u)).toNat = 48 + u := by rw [UInt8.toNat_ofNat']; omega
      rw [dif_pos h, List.singleton_append, numF, hb, if_neg (by omega), show 48 + u - 48 = u by omega, lowQ_eq u (by omega), if_neg (by split <;> omega)]
      congr 1
      rw [w64_in (0 * 10) (by omega) (by omega), w64_in _ (by omega) (by omega)]
      omega
    · have hb : (UInt8.ofNat (48 + u % 10)).toNat = 48 + u % 10 := by rw [UInt8.toNat_ofNat']; omega
      rw [dif_neg h, List.append_assoc, numF_dec _ f (u / 10) (by omega) (by omega), List.singleton_append, numF, hb, if_neg (by omega), show 48 + u % 10 - 48 = u % 10 by omega, lowQ_eq _ (by omega), if_neg (by split <;> omega)]
      congr 1
      rw [w64_in (-((u / 10 : Nat) : Int) * 10) (by omega) (by omega), w64_in _ (by omega) (by omega)]
      omega
theorem dec_len : ∀ (k u : Nat), u < 10 ^ (k + 1) → (Lib.decDigits u).length ≤ k + 1 ∧ 1 ≤ (Lib.decDigits u).length
  | 0, u, h => by rw [Lib.decDigits, dif_pos (by simpa using h)]; simp
  | k + 1, u, h => by
    rw [Lib.decDigits]
    by_cases h10 : u < 10
    · rw [dif_pos h10]; simp
    · have := dec_len k (u / 10) (by rw [Nat.pow_succ] at h; omega)
      rw [dif_neg h10, List.length_append, List.length_cons, List.length_nil]
      omega

/-- A number's text is read as it. -/
theorem numR_itoa (n : Int) (h0 : -9223372036854775808 ≤ n) (h1 : n ≤ 9223372036854775807) : numR (Lib.itoa n) = some n := by
  have h19 : (9223372036854775808 : Nat) < 10 ^ (18 + 1) := by decide
  rcases Int.lt_or_le n 0 with h | h
  · obtain ⟨u, rfl⟩ : ∃ u : Nat, n = -(u : Int) := ⟨n.natAbs, by omega⟩
    rw [Lib.itoa_neg u (by omega)]
    have hl := dec_len 18 u (by omega)
    have hd : digsOf (45 :: Lib.decDigits u) = Lib.decDigits u := if_pos rfl
    have hf := numF_dec [] (u + 1) u (by omega) (by omega)
    rw [List.append_nil] at hf
    unfold numR
    rw [hd, if_neg (by omega), hf]
    have hne : ¬ (Lib.decDigits u).length = (45 :: Lib.decDigits u).length := by rw [List.length_cons]; omega
    simp only [numF, hne, if_false]
    rw [if_pos (Lib.itoa_neg u (by omega))]
  · obtain ⟨u, rfl⟩ : ∃ u : Nat, n = (u : Int) := ⟨n.toNat, by omega⟩
    have hi : Lib.itoa (u : Int) = Lib.decDigits u := Lib.itoa_nonneg u
    rw [hi]
    obtain ⟨c, r, e, h2, h3⟩ := dec_head (u + 1) u (by omega)
    have hl := dec_len 18 u (by omega)
    have hd : digsOf (Lib.decDigits u) = Lib.decDigits u := by
      refine if_neg ?_
      rw [e]
      intro h
      have hc : c = 45 := h
      rw [hc] at h2
      revert h2; decide
    have hf := numF_dec [] (u + 1) u (by omega) (by omega)
    rw [List.append_nil] at hf
    unfold numR
    rw [hd, if_neg (by omega), hf]
    simp only [numF, if_true]
    rw [show (-(-(u : Int))) = (u : Int) by omega, w64_in _ (by omega) (by omega), if_pos hi]

theorem numF_range : ∀ (l : List UInt8) (n m : Int), -9223372036854775808 ≤ n → n ≤ 9223372036854775807 → numF n l = some m → -9223372036854775808 ≤ m ∧ m ≤ 9223372036854775807
  | [], n, m, h0, h1, h => by
    injection h with h
    omega
  | c :: t, n, m, h0, h1, h => by
    rw [numF] at h
    split at h
    · cases h
    · split at h
      · cases h
      · exact numF_range t _ m (by unfold wrap64; omega) (by unfold wrap64; omega) h
theorem numR_some (l : List UInt8) (n : Int) (h : numR l = some n) : Lib.itoa n = l ∧ -9223372036854775808 ≤ n ∧ n ≤ 9223372036854775807 := by
  unfold numR at h
  split at h
  · cases h
  · split at h
    · cases h
    · rename_i m hm
      have hr := numF_range _ 0 m (by omega) (by omega) hm
      obtain ⟨x, hx⟩ : ∃ x, x = (if (digsOf l).length = l.length then wrap64 (-m) else m) := ⟨_, rfl⟩
      rw [← hx] at h
      by_cases hi : Lib.itoa x = l
      · rw [if_pos hi] at h
        injection h with h
        subst h
        refine ⟨hi, ?_⟩
        rw [hx]
        split
        · unfold wrap64; omega
        · exact hr
      · rw [if_neg hi] at h
        cases h

/-- The reference and the program read the same numbers. -/
theorem numR_numV (l : List UInt8) : (∀ n, numR l = some n → numV l = (⟨1, n, ⟨#[]⟩⟩, true)) ∧ (numR l = none → (numV l).2 = false) := by
  refine ⟨fun n h => ?_, fun h => ?_⟩
  · obtain ⟨h1, h2, h3⟩ := numR_some l n h
    unfold numV
    rw [← h1, atoi_itoa n h2 h3]
    simp
  · unfold numV
    split
    · rename_i v hv
      have hb := Lib.atoiAll_bounds hv
      simp only [decide_eq_false_iff_not]
      intro he
      have := numR_itoa v hb.1 hb.2
      rw [he, h] at this
      cases this
    · rfl
    · rfl
end Go.Proofs.YtinhmchekdolmaaDoor
