/- ValGG, what this seat can fill of it. -/
import Derived.Test.YtgjjdmkoamjdpaaGreatDoorValFF
import Derived.Test.YtgjjdmkoamjdpaaGreatDoorValC
namespace Go.Proofs.YtgjjdmkoamjdpaaGreatDoor
/- Plain facts: what is written is read. Nothing of the program's run is stated here. -/
theorem rdG_digs (y : List UInt8) : ∀ (f x i u : Nat), x < f → i ≤ 9 → u < 128 ^ i → u + x * 128 ^ i ≤ 18446744073709551615 → (x = 0 → i = 0) → rdG i u (digs x ++ y) = (u + x * 128 ^ i, i + (digs x).length)
  | 0, x, _, _, h, _, _, _, _ => absurd h (by omega)
  | f + 1, x, i, u, hx, hi, hu, hb, h0 => by
    have h99 : (128 : Nat) ^ 9 = 9223372036854775808 := by decide
    by_cases h8 : x < 128
    · have hdg : digs x = [UInt8.ofNat x] := by rw [digs, dif_pos h8]
      have hb1 : (UInt8.ofNat x).toNat = x := by rw [UInt8.toNat_ofNat']; omega
      rw [hdg, List.singleton_append, rdG, hb1, if_neg (by
        rintro ⟨rfl, h1⟩
        have := Nat.mul_le_mul_right (128 ^ 9) (show 2 ≤ x by omega)
        omega), if_neg (by omega), if_neg (by omega), Nat.mod_eq_of_lt h8]
      rfl
    · have hdg : digs x = UInt8.ofNat (x % 128 + 128) :: digs (x / 128) := by rw [digs, dif_neg h8]
      have hb1 : (UInt8.ofNat (x % 128 + 128)).toNat = x % 128 + 128 := by rw [UInt8.toNat_ofNat']; omega
      have hi8 : i ≤ 8 := by
        rcases Nat.lt_or_ge i 9 with h | h
        · omega
        · have : i = 9 := by omega
          subst this
          have := Nat.mul_le_mul_right (128 ^ 9) (show 128 ≤ x by omega)
          omega
      have hm : (x % 128 + 128) % 128 = x % 128 := by omega
      have hsum : u + x % 128 * 128 ^ i + x / 128 * 128 ^ (i + 1) = u + x * 128 ^ i := by
        have e : x * 128 ^ i = x / 128 * 128 ^ (i + 1) + x % 128 * 128 ^ i := by
          rw [Nat.pow_succ, Nat.mul_comm (128 ^ i) 128, ← Nat.mul_assoc, ← Nat.add_mul]
          congr 1
          omega
        omega
      have hlt : u + x % 128 * 128 ^ i < 128 ^ (i + 1) := by
        have : x % 128 * 128 ^ i ≤ 127 * 128 ^ i := Nat.mul_le_mul_right _ (by omega)
        rw [Nat.pow_succ]
        omega
      rw [hdg, List.cons_append, rdG, hb1, if_neg (by omega), if_pos (by omega), hm, rdG_digs y f (x / 128) (i + 1) _ (by omega) (by omega) hlt (by rw [hsum]; exact hb) (by omega), hsum, List.length_cons]
      congr 1
      omega
theorem rdD_digs (x : Nat) (y : List UInt8) (h : x ≤ 18446744073709551615) : rdD (digs x ++ y) = (x, (digs x).length) := by
  have := rdG_digs y (x + 1) x 0 0 (by omega) (by omega) (by simp) (by simpa using h) (fun _ => rfl)
  unfold rdD
  rw [this]
  simp

theorem digs_pos (x : Nat) : 0 < (digs x).length := by
  rw [digs]
  split <;> simp

/-- What is written is read, whatever stands behind. -/
theorem rvV_enc (v : VVal) (y : List UInt8) (hf : v.fits) (hg : ckN v = 0) : rvV (encV v ++ y) = (plainV v, (encV v).length) := by
  have hz := ckN_zero hg
  obtain ⟨k, n, s⟩ := v
  obtain ⟨f0, f1, f2⟩ := hf
  simp only at f0 f1 f2 hz
  rcases hz with rfl | ⟨rfl, hn⟩ | ⟨rfl, hsl, hv⟩
  · have e : encV ⟨1, n, s⟩ = 1 :: digs (foldN n) := if_pos rfl
    have hp := digs_pos (foldN n)
    have hr := rdD_digs (foldN n) y (foldN_lt n f1 f2)
    rw [e]
    unfold rvV
    rw [if_neg (by simp; omega), if_pos (by rfl)]
    simp only [List.cons_append, List.drop_succ_cons, List.drop_zero]
    rw [hr, if_neg (by simp only; omega), unfN_foldN]
    simp only [plainV, List.length_cons]
    rw [if_neg (by decide)]
    congr 1
    omega
  · obtain ⟨m, hm, hm1⟩ : ∃ m : Nat, n = (m : Int) ∧ m ≤ 1 := ⟨n.toNat, by omega, by omega⟩
    subst hm
    have e : encV ⟨3, (m : Int), s⟩ = [3, UInt8.ofNat m] := by unfold encV; simp
    have hmb : (UInt8.ofNat m).toNat = m := by rw [UInt8.toNat_ofNat']; omega
    rw [e]
    unfold rvV
    have g0 : ([3, UInt8.ofNat m] ++ y).getD 0 0 = 3 := rfl
    have g1 : ([3, UInt8.ofNat m] ++ y).getD 1 0 = UInt8.ofNat m := rfl
    rw [g0, g1, hmb, if_neg (by simp), if_neg (by decide), if_pos (by decide), if_neg (by omega)]
    rfl
  · have e : encV ⟨2, n, s⟩ = [2, UInt8.ofNat s.size] ++ s.data.toList := by unfold encV; simp
    have hmb : (UInt8.ofNat s.size).toNat = s.size := by rw [UInt8.toNat_ofNat']; omega
    have hl : s.data.toList.length = s.size := Array.length_toList
    rw [e, List.append_assoc]
    have g0 : ([2, UInt8.ofNat s.size] ++ (s.data.toList ++ y)).getD 0 0 = 2 := rfl
    have g1 : ([2, UInt8.ofNat s.size] ++ (s.data.toList ++ y)).getD 1 0 = UInt8.ofNat s.size := rfl
    have g2 : ([2, UInt8.ofNat s.size] ++ (s.data.toList ++ y)).drop 2 = s.data.toList ++ y := rfl
    have g3 : (s.data.toList ++ y).take s.size = s.data.toList := by rw [← hl, List.take_left]
    have g4 : txV s.data.toList = ⟨2, 0, s⟩ := rfl
    have g5 : ckN ⟨2, 0, s⟩ = 0 := by
      unfold ckN ctN
      simp only
      rw [if_neg (by decide), if_neg (by decide), if_pos trivial, if_neg (by omega), if_pos hv]
    have hlen : ([2, UInt8.ofNat s.size] ++ (s.data.toList ++ y)).length = 2 + s.size + y.length := by
      simp only [List.length_append, List.length_cons, List.length_nil, hl]
      omega
    unfold rvV rtV
    rw [g0, g1, g2, hmb, g3, g4, g5, hlen, if_neg (by omega), if_neg (by decide), if_neg (by decide), if_pos (by decide), if_neg (by omega), if_pos rfl]
    simp only [plainV, List.length_append, List.length_cons, List.length_nil, hl]
    rw [if_pos trivial]
end Go.Proofs.YtgjjdmkoamjdpaaGreatDoor
