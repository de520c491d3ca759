/- ValJJ, what this seat can fill of it. -/
import Derived.Test.YtgjjdmkoamjdpaaGreatDoorValGG
namespace Go.Proofs.YtgjjdmkoamjdpaaGreatDoor
/- Plain facts: the reference's reading of bytes is the program's. Nothing of the program's run is stated here. -/
/-- The reference's number: at most so many bytes are looked at. -/
def rgG : Nat → Nat → Nat → List UInt8 → Nat
  | 0, _, _, _ => 0
  | _ + 1, _, _, [] => 0
  | f + 1, n, p, c :: t => if c.toNat < 128 then (n + c.toNat % 128 * p) % 18446744073709551616 else rgG f ((n + c.toNat % 128 * p) % 18446744073709551616) (p * 128 % 18446744073709551616) t
def rfN (t : List UInt8) : Nat := rgG 10 0 1 t
theorem rgG_lt : ∀ (f n p : Nat) (l : List UInt8), rgG f n p l < 18446744073709551616
  | 0, _, _, _ => by rw [rgG]; omega
  | _ + 1, _, _, [] => by rw [rgG]; omega
  | f + 1, n, p, c :: t => by
    rw [rgG]
    split
    · omega
    · exact rgG_lt f _ _ t

theorem rdG_rg : ∀ (l : List UInt8) (i u : Nat), i ≤ 9 → u < 128 ^ i → (rdG i u l).2 ≠ 0 → ∃ y r, (rdG i u l).1 = u + y * 128 ^ i ∧ (rdG i u l).2 = i + (digs y).length ∧ l = digs y ++ r ∧ rgG (10 - i) u (128 ^ i) l = (rdG i u l).1 ∧ (y = 0 → i = 0)
  | [], i, u, _, _, h => absurd rfl h
  | c :: t, i, u, hi, hu, h => by
    have h99 : (128 : Nat) ^ 9 = 9223372036854775808 := by decide
    have hle : 128 ^ i ≤ 128 ^ 9 := Nat.pow_le_pow_right (by omega) hi
    have hc256 : c.toNat < 256 := UInt8.toNat_lt _
    have hbd := rdG_le (c :: t) i u hi hu
    obtain ⟨f, hf⟩ : ∃ f, 10 - i = f + 1 := ⟨9 - i, by omega⟩
    have hf9 : f = 9 - i := by omega
    rw [hf, rgG]
    rw [rdG] at h hbd ⊢
    by_cases h1 : i = 9 ∧ 1 < c.toNat
    · rw [if_pos h1] at h
      exact absurd rfl h
    · rw [if_neg h1] at h hbd ⊢
      by_cases h2 : 128 ≤ c.toNat
      · rw [if_pos h2] at h hbd ⊢
        have hi8 : i ≤ 8 := by omega
        have hlt : u + c.toNat % 128 * 128 ^ i < 128 ^ (i + 1) := by
          have : c.toNat % 128 * 128 ^ i ≤ 127 * 128 ^ i := Nat.mul_le_mul_right _ (by omega)
          rw [Nat.pow_succ]
          omega
        have hle1 : 128 ^ (i + 1) ≤ 128 ^ 9 := Nat.pow_le_pow_right (by omega) (by omega)
        obtain ⟨y, r, e1, e2, e3, e4, e5⟩ := rdG_rg t (i + 1) _ (by omega) hlt h
        have m1 : (u + c.toNat % 128 * 128 ^ i) % 18446744073709551616 = u + c.toNat % 128 * 128 ^ i := Nat.mod_eq_of_lt (by omega)
        have m2 : 128 ^ i * 128 % 18446744073709551616 = 128 ^ (i + 1) := by rw [← Nat.pow_succ]; exact Nat.mod_eq_of_lt (by omega)
        rw [if_neg (by omega), m1, m2, show f = 10 - (i + 1) by omega, e4, e1, e2]
        have hy : y ≠ 0 := fun h => by have := e5 h; omega
        have hdg : digs (c.toNat % 128 + 128 * y) = c :: digs y := by
          rw [digs, dif_neg (by omega)]
          congr 1
          · apply UInt8.toNat_inj.mp
            rw [UInt8.toNat_ofNat']
            omega
          · congr 1
            omega
        refine ⟨c.toNat % 128 + 128 * y, r, ?_, ?_, ?_, rfl, by omega⟩
        · rw [Nat.add_mul, Nat.pow_succ, Nat.mul_comm (128 ^ i) 128, ← Nat.mul_assoc, Nat.mul_comm y 128]
          omega
        · rw [hdg, List.length_cons]; omega
        · rw [hdg, e3]; rfl
      · rw [if_neg h2] at h hbd ⊢
        by_cases h3 : c.toNat = 0 ∧ 0 < i
        · rw [if_pos h3] at h
          exact absurd rfl h
        · rw [if_neg h3] at h hbd ⊢
          have hm : c.toNat % 128 = c.toNat := by omega
          simp only [hm] at hbd ⊢
          have hdg : digs c.toNat = [c] := by
            rw [digs, dif_pos (by omega)]
            congr 1
            apply UInt8.toNat_inj.mp
            rw [UInt8.toNat_ofNat']
            omega
          refine ⟨c.toNat, t, rfl, by rw [hdg]; rfl, by rw [hdg]; rfl, ?_, by omega⟩
          rw [if_pos (by omega)]
          omega

theorem rdD_rf (t : List UInt8) (h : (rdD t).2 ≠ 0) : ∃ r, (rdD t).1 = rfN t ∧ (rdD t).2 = (digs (rfN t)).length ∧ t = digs (rfN t) ++ r := by
  obtain ⟨y, r, e1, e2, e3, e4, -⟩ := rdG_rg t 0 0 (by omega) (by simp) h
  have hy : y = rfN t := by
    have e4' : rgG 10 0 1 t = (rdG 0 0 t).1 := e4
    unfold rfN
    rw [e4', e1]
    simp
  subst hy
  exact ⟨r, by unfold rdD; rw [e1]; simp, by unfold rdD; rw [e2]; simp, e3⟩

/-- The value whose bytes the reference then looks for. -/
def rfv (l : List UInt8) : VVal :=
  if (l.getD 0 0).toNat = 1 then ⟨1, unfN (rfN (l.drop 1)), ⟨#[]⟩⟩
  else if (l.getD 0 0).toNat = 2 then txV ((l.drop 2).take (l.getD 1 0).toNat)
  else if (l.getD 0 0).toNat = 3 then ⟨3, ((l.getD 1 0).toNat : Int), ⟨#[]⟩⟩
  else ⟨((l.getD 0 0).toNat : Int), 0, ⟨#[]⟩⟩

theorem rv_short (l : List UInt8) (h : l.length < 2) : rvV l = (noV, 0) := if_pos h
theorem rv_text (l : List UInt8) (h0 : 2 ≤ l.length) (h2 : (l.getD 0 0).toNat = 2) (h : l.length < 2 + (l.getD 1 0).toNat) : rvV l = (noV, 0) := by
  unfold rvV rtV
  rw [if_neg (by omega), if_neg (by omega), if_neg (by omega), if_pos h2, if_pos h]
theorem rv_no (l : List UInt8) (h0 : 2 ≤ l.length) (hck : ckN (rfv l) ≠ 0) : rvV l = (noV, 0) := by
  unfold rvV rtV
  unfold rfv at hck
  rw [if_neg (by omega)]
  by_cases h1 : (l.getD 0 0).toNat = 1
  · rw [if_pos h1] at hck
    exact absurd (if_pos rfl) hck
  · rw [if_neg h1] at hck ⊢
    by_cases h3 : (l.getD 0 0).toNat = 3
    · rw [if_neg (by omega), if_pos h3] at hck
      rw [if_pos h3, if_pos]
      rcases Nat.lt_or_ge 1 (l.getD 1 0).toNat with h | h
      · exact h
      · refine absurd ?_ hck
        unfold ckN
        rw [if_neg (by simp), if_pos rfl, if_pos (by simp only; omega)]
    · rw [if_neg h3]
      by_cases h2 : (l.getD 0 0).toNat = 2
      · rw [if_pos h2] at hck
        rw [if_pos h2, if_neg hck]
        split <;> rfl
      · rw [if_neg h2]
theorem rv_yes (l : List UInt8) (h0 : 2 ≤ l.length) (hck : ckN (rfv l) = 0) (h2 : (l.getD 0 0).toNat = 2 → 2 + (l.getD 1 0).toNat ≤ l.length) :
    (l.take (encV (rfv l)).length = encV (rfv l) → rvV l = (rfv l, (encV (rfv l)).length)) ∧ (l.take (encV (rfv l)).length ≠ encV (rfv l) → rvV l = (noV, 0)) := by
  have hl : ∃ a b t, l = a :: b :: t := by
    rcases l with _ | ⟨a, _ | ⟨b, t⟩⟩
    · simp at h0
    · simp at h0
    · exact ⟨a, b, t, rfl⟩
  obtain ⟨a, b, t, rfl⟩ := hl
  have ga : (a :: b :: t).getD 0 0 = a := rfl
  have gb : (a :: b :: t).getD 1 0 = b := rfl
  have gd : (a :: b :: t).drop 1 = b :: t := rfl
  have gd2 : (a :: b :: t).drop 2 = t := rfl
  unfold rvV rtV
  unfold rfv at hck ⊢
  simp only [ga, gb, gd, gd2] at hck h2 ⊢
  rw [if_neg (show ¬ (a :: b :: t).length < 2 by simp)]
  by_cases h1 : a.toNat = 1
  · have ha : a = 1 := UInt8.toNat_inj.mp h1
    rw [if_pos h1, if_pos h1]
    have hlt := rgG_lt 10 0 1 (b :: t)
    have hrf := rdD_rf (b :: t)
    unfold rfN at hrf ⊢
    obtain ⟨N, hN⟩ : ∃ N, N = rgG 10 0 1 (b :: t) := ⟨_, rfl⟩
    rw [← hN] at hlt hrf ⊢
    have he : encV ⟨1, unfN N, ⟨#[]⟩⟩ = 1 :: digs N := by
      unfold encV
      rw [if_pos rfl, foldN_unfN]
    rw [he, ha, List.length_cons, List.take_succ_cons]
    by_cases hz : (rdD (b :: t)).2 = 0
    · rw [if_pos hz]
      refine ⟨fun h => ?_, fun _ => rfl⟩
      exfalso
      have h' : (b :: t).take (digs N).length = digs N := by injection h
      have hr := rdD_digs N ((b :: t).drop (digs N).length) (by omega)
      have h2 : digs N ++ (b :: t).drop (digs N).length = b :: t := by
        conv => lhs; arg 1; rw [← h']
        rw [List.take_append_drop]
      rw [h2] at hr
      rw [hr] at hz
      have := digs_pos N
      simp only at hz
      omega
    · rw [if_neg hz]
      obtain ⟨r, e1, e2, e3⟩ := hrf hz
      rw [e1, e2]
      refine ⟨fun _ => by congr 1; omega, fun h => ?_⟩
      exact absurd (by rw [e3, List.take_left]) h
  · rw [if_neg h1] at hck
    rw [if_neg h1, if_neg h1]
    by_cases h3 : a.toNat = 3
    · have ha : a = 3 := UInt8.toNat_inj.mp h3
      rw [if_neg (by omega), if_pos h3] at hck
      rw [if_pos h3, if_neg (show ¬ a.toNat = 2 by omega), if_pos h3]
      have hb1 : b.toNat ≤ 1 := by
        rcases Nat.lt_or_ge 1 b.toNat with h | h
        · exfalso
          unfold ckN at hck
          rw [if_neg (by simp), if_pos rfl, if_neg (by simp only; omega)] at hck
          omega
        · exact h
      have he : encV ⟨3, (b.toNat : Int), ⟨#[]⟩⟩ = [3, b] := by
        unfold encV
        rw [if_neg (by simp), if_pos rfl]
        simp
      rw [he, ha, if_neg (by omega)]
      exact ⟨fun _ => rfl, fun h => absurd rfl h⟩
    · rw [if_neg h3] at hck ⊢
      by_cases h2' : a.toNat = 2
      · have ha : a = 2 := UInt8.toNat_inj.mp h2'
        have hlen := h2 h2'
        have hlen' : b.toNat ≤ t.length := by simp at hlen; omega
        rw [if_pos h2'] at hck
        rw [if_pos h2', if_pos h2', if_neg (show ¬ (a :: b :: t).length < 2 + b.toNat by rw [List.length_cons, List.length_cons]; omega), if_pos hck]
        have hT : (t.take b.toNat).length = b.toNat := by rw [List.length_take]; omega
        have he : encV (txV (t.take b.toNat)) = 2 :: b :: t.take b.toNat := by
          unfold encV txV
          rw [if_neg (by simp), if_neg (by simp)]
          congr 1
          congr 1
          apply UInt8.toNat_inj.mp
          rw [UInt8.toNat_ofNat']
          show (t.take b.toNat).toArray.size % 2 ^ 8 = _
          rw [List.size_toArray, hT]
          have := UInt8.toNat_lt b
          omega
        have heL : (2 :: b :: t.take b.toNat).length = 2 + b.toNat := by rw [List.length_cons, List.length_cons, hT]; omega
        rw [he, ha, heL]
        refine ⟨fun _ => rfl, fun h => absurd ?_ h⟩
        rw [show 2 + b.toNat = b.toNat + 1 + 1 by omega, List.take_succ_cons, List.take_succ_cons]
      · exfalso
        rw [if_neg h2'] at hck
        unfold ckN at hck
        rw [if_neg (by simp only; omega), if_neg (by simp only; omega), if_neg (by simp only; omega)] at hck
        omega
end Go.Proofs.YtgjjdmkoamjdpaaGreatDoor
