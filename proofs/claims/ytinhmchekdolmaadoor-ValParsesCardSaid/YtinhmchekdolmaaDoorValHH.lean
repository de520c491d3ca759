/- Plain facts: a number's text is its own. Nothing of the program's run is stated here. -/
import Derived.Test.YtinhmchekdolmaaDoorValGG
import Derived.Test.YtinhmchekdolmaaDoorValL
import Derived.Lib.AtoiAllCases
import Derived.Lib.ItoaMem
namespace Go.Proofs.YtinhmchekdolmaaDoor

theorem parse_dec (r : List UInt8) : ∀ (f u : Nat), u < f → u < 18446744073709551616 → Lib.parseUint10 0 (Lib.decDigits u ++ r) = Lib.parseUint10 u r
  | 0, _, h, _ => absurd h (by omega)
  | f + 1, u, hf, hu => by
    rw [Lib.decDigits]
    by_cases h : u < 10
    · have hb : (UInt8.ofNat (48 + u)).toNat = 48 + u := by rw [UInt8.toNat_ofNat']; omega
      rw [dif_pos h, List.singleton_append, Lib.parseUint10, hb, if_pos (by omega), if_neg (by omega), if_neg (by omega)]
      congr 1
      omega
    · have hb : (UInt8.ofNat (48 + u % 10)).toNat = 48 + u % 10 := by rw [UInt8.toNat_ofNat']; omega
      rw [dif_neg h, List.append_assoc, parse_dec _ f (u / 10) (by omega) (by omega), List.singleton_append, Lib.parseUint10, hb, if_pos (by omega), if_neg (by omega), if_neg (by omega)]
      congr 1
      omega
theorem dec_head : ∀ (f u : Nat), u < f → ∃ c r, Lib.decDigits u = c :: r ∧ 48 ≤ c.toNat ∧ c.toNat ≤ 57
  | 0, _, h => absurd h (by omega)
  | f + 1, u, hf => by
    rw [Lib.decDigits]
    by_cases h : u < 10
    · have hb : (UInt8.ofNat (48 + u)).toNat = 48 + u := by rw [UInt8.toNat_ofNat']; omega
      rw [dif_pos h]
      exact ⟨_, _, rfl, by omega, by omega⟩
    · rw [dif_neg h]
      obtain ⟨c, r, e, h1, h2⟩ := dec_head f (u / 10) (by omega)
      rw [e]
      exact ⟨c, _, rfl, h1, h2⟩
theorem mag_dec (u : Nat) (hu : u < 18446744073709551616) : Lib.parseMag (Lib.decDigits u) = .ok u := by
  obtain ⟨c, r, e, -, -⟩ := dec_head (u + 1) u (by omega)
  have := parse_dec [] (u + 1) u (by omega) hu
  rw [List.append_nil] at this
  unfold Lib.parseMag
  rw [this, if_neg (by rw [e]; simp)]
  rfl
theorem atoi_itoa (n : Int) (h0 : -9223372036854775808 ≤ n) (h1 : n ≤ 9223372036854775807) : Lib.atoiAll (Lib.itoa n) = .ok n := by
  rcases Int.lt_or_le n 0 with h | h
  · obtain ⟨u, rfl⟩ : ∃ u : Nat, n = -(u : Int) := ⟨n.natAbs, by omega⟩
    rw [Lib.itoa_neg u (by omega), Lib.atoiAll_minus, mag_dec u (by omega)]
    show (if 9223372036854775808 < u then _ else _) = _
    rw [if_neg (by omega)]
  · obtain ⟨u, rfl⟩ : ∃ u : Nat, n = (u : Int) := ⟨n.toNat, by omega⟩
    rw [Lib.itoa_nonneg]
    obtain ⟨c, r, e, h2, h3⟩ := dec_head (u + 1) u (by omega)
    have hm := mag_dec u (by omega)
    rw [e] at hm ⊢
    rw [Lib.atoiAll_plain c r (by omega) (by omega), hm]
    show (if 9223372036854775808 ≤ u then _ else _) = _
    rw [if_neg (by omega)]

/-- How a number's text begins. -/
theorem itoa_head (n : Int) (h0 : -9223372036854775808 ≤ n) (h1 : n ≤ 9223372036854775807) : ∃ c r, Lib.itoa n = c :: r ∧ c.toNat ≤ 57 ∧ c.toNat ≠ 34 := by
  rcases Int.lt_or_le n 0 with h | h
  · obtain ⟨u, rfl⟩ : ∃ u : Nat, n = -(u : Int) := ⟨n.natAbs, by omega⟩
    rw [Lib.itoa_neg u (by omega)]
    exact ⟨45, _, rfl, by decide, by decide⟩
  · obtain ⟨u, rfl⟩ : ∃ u : Nat, n = (u : Int) := ⟨n.toNat, by omega⟩
    rw [Lib.itoa_nonneg]
    obtain ⟨c, r, e, h2, h3⟩ := dec_head (u + 1) u (by omega)
    exact ⟨c, r, e, by omega, by omega⟩
theorem parV_itoa (n : Int) (h0 : -9223372036854775808 ≤ n) (h1 : n ≤ 9223372036854775807) : parV ⟨(Lib.itoa n).toArray⟩ = (⟨1, n, ⟨#[]⟩⟩, 0) := by
  obtain ⟨c, r, e, h2, h3⟩ := itoa_head n h0 h1
  have hp : prsV ⟨(Lib.itoa n).toArray⟩ = (⟨1, n, ⟨#[]⟩⟩, true) := by
    unfold prsV
    show (if Lib.itoa n = txtFalse then _ else if Lib.itoa n = txtTrue then _ else if Lib.hasPrefix (Lib.itoa n) [34] = true then _ else numV (Lib.itoa n)) = _
    have q1 : ¬ Lib.itoa n = txtFalse := by
      rw [e]; intro h; injection h with h _; subst h; revert h2; decide
    have q2 : ¬ Lib.itoa n = txtTrue := by
      rw [e]; intro h; injection h with h _; subst h; revert h2; decide
    have q3 : ¬ Lib.hasPrefix (Lib.itoa n) [34] = true := by
      rw [e]
      intro h
      have hc : c = 34 := (by simpa [Lib.hasPrefix] using h : (34 : UInt8) = c).symm
      subst hc
      exact h3 rfl
    rw [if_neg q1, if_neg q2, if_neg q3]
    unfold numV
    rw [atoi_itoa n h0 h1]
    simp
  unfold parV
  rw [hp]
  rfl
end Go.Proofs.YtinhmchekdolmaaDoor
