/- Plain facts on the order of texts, numbers and values. Nothing of the program's run is stated here. -/
import Derived.Test.YtinhmchekdolmaaDoorValQ
namespace Go.Proofs.YtinhmchekdolmaaDoor

theorem u8lt (u v : UInt8) : (u < v) = (u.toNat < v.toNat) := by rw [UInt8.lt_iff_toNat_lt]

theorem bl_irr : ∀ l : List UInt8, Op.bytesLess l l = false
  | [] => rfl
  | a :: l => by simp [Op.bytesLess, bl_irr l]
theorem bl_asymm : ∀ x y : List UInt8, Op.bytesLess x y = true → Op.bytesLess y x = false
  | _, [], h => by simp [Op.bytesLess] at h
  | [], _ :: _, _ => rfl
  | a :: x, b :: y, h => by
    simp only [Op.bytesLess, Bool.or_eq_true, decide_eq_true_eq, Bool.and_eq_true, beq_iff_eq] at h
    simp only [Op.bytesLess, Bool.or_eq_false_iff, decide_eq_false_iff_not, Bool.and_eq_false_iff, beq_eq_false_iff_ne]
    rcases h with h | ⟨rfl, h⟩
    · rw [u8lt] at h
      exact ⟨by rw [u8lt]; omega, .inl (by rintro rfl; omega)⟩
    · exact ⟨UInt8.lt_irrefl _, .inr (bl_asymm x y h)⟩
theorem bl_total : ∀ x y : List UInt8, Op.bytesLess x y = false → Op.bytesLess y x = false → x = y
  | [], [], _, _ => rfl
  | [], _ :: _, h, _ => by simp [Op.bytesLess] at h
  | _ :: _, [], _, h => by simp [Op.bytesLess] at h
  | a :: x, b :: y, h, k => by
    simp only [Op.bytesLess, Bool.or_eq_false_iff, decide_eq_false_iff_not, Bool.and_eq_false_iff, beq_eq_false_iff_ne] at h k
    rw [u8lt] at h k
    have e : a = b := UInt8.toNat_inj.1 (by omega)
    subst e
    rw [bl_total x y (h.2.resolve_left (by simp)) (k.2.resolve_left (by simp))]
theorem bl_trans : ∀ x y z : List UInt8, Op.bytesLess x y = true → Op.bytesLess y z = true → Op.bytesLess x z = true
  | _, [], _, h, _ => by simp [Op.bytesLess] at h
  | _, _ :: _, [], _, k => by simp [Op.bytesLess] at k
  | [], _ :: _, _ :: _, _, _ => rfl
  | a :: x, b :: y, c :: z, h, k => by
    simp only [Op.bytesLess, Bool.or_eq_true, decide_eq_true_eq, Bool.and_eq_true, beq_iff_eq] at h k ⊢
    rw [u8lt] at h k ⊢
    rcases h with h | ⟨rfl, h⟩
    · rcases k with k | ⟨rfl, k⟩
      · exact .inl (by omega)
      · exact .inl h
    · rcases k with k | ⟨rfl, k⟩
      · exact .inl k
      · exact .inr ⟨rfl, bl_trans x y z h k⟩

theorem cb_range : ∀ a b : List UInt8, Lib.compareBytes a b = -1 ∨ Lib.compareBytes a b = 0 ∨ Lib.compareBytes a b = 1
  | [], [] => by simp [Lib.compareBytes]
  | [], _ :: _ => by simp [Lib.compareBytes]
  | _ :: _, [] => by simp [Lib.compareBytes]
  | a :: x, b :: y => by
    unfold Lib.compareBytes
    split
    · simp
    · split
      · simp
      · exact cb_range x y
theorem cb_swap : ∀ a b : List UInt8, Lib.compareBytes b a = - Lib.compareBytes a b
  | [], [] => by simp [Lib.compareBytes]
  | [], _ :: _ => by simp [Lib.compareBytes]
  | _ :: _, [] => by simp [Lib.compareBytes]
  | a :: x, b :: y => by
    have ih := cb_swap x y
    unfold Lib.compareBytes
    rcases Nat.lt_trichotomy a.toNat b.toNat with h | h | h
    · have h1 : a < b := by rw [u8lt]; exact h
      have h2 : ¬ b < a := by rw [u8lt]; omega
      simp [h1, h2]
    · have h1 : ¬ a < b := by rw [u8lt]; omega
      have h2 : ¬ b < a := by rw [u8lt]; omega
      simp [h1, h2, ih]
    · have h1 : ¬ a < b := by rw [u8lt]; omega
      have h2 : b < a := by rw [u8lt]; exact h
      simp [h1, h2]
theorem cbl (a b : List UInt8) : Op.bytesLess a b = decide (Lib.compareBytes a b < 0) := by
  induction a generalizing b with
  | nil => cases b <;> simp [Lib.compareBytes, Op.bytesLess]
  | cons x a ih =>
    cases b with
    | nil => simp [Lib.compareBytes, Op.bytesLess]
    | cons y b =>
      unfold Lib.compareBytes Op.bytesLess
      rcases Nat.lt_trichotomy x.toNat y.toNat with h | h | h
      · have h1 : x < y := by rw [u8lt]; exact h
        simp [h1]
      · obtain rfl : x = y := UInt8.toNat_inj.1 h
        have h1 : ¬ x < x := UInt8.lt_irrefl x
        simp [ih]
      · have h1 : ¬ x < y := by rw [u8lt]; omega
        have h2 : y < x := by rw [u8lt]; exact h
        have h3 : ¬ x = y := by rintro rfl; omega
        simp [h1, h2, h3]


theorem cb_self (l : List UInt8) : Lib.compareBytes l l = 0 := by
  have := cb_swap l l
  omega
theorem cb_eq (a b : List UInt8) (h : Lib.compareBytes a b = 0) : a = b := by
  have h1 := cbl a b
  have h2 := cbl b a
  rw [cb_swap a b] at h2
  rw [h] at h1 h2
  exact bl_total a b h1 h2
theorem cb_trans (a b c : List UInt8) (h1 : Lib.compareBytes a b ≤ 0) (h2 : Lib.compareBytes b c ≤ 0) : Lib.compareBytes a c ≤ 0 := by
  rcases cb_range a b with e | e | e
  · rcases cb_range b c with f | f | f
    · have g := bl_trans a b c (by rw [cbl, e]; rfl) (by rw [cbl, f]; rfl)
      rw [cbl] at g
      have := of_decide_eq_true g
      omega
    · rw [← cb_eq b c f]; omega
    · omega
  · rw [cb_eq a b e]; omega
  · omega

theorem ci_swap (x y : Int) : Lib.compareInt y x = - Lib.compareInt x y := by
  unfold Lib.compareInt
  split <;> split <;> (try split) <;> (try split) <;> omega
theorem ci_range (x y : Int) : Lib.compareInt x y = -1 ∨ Lib.compareInt x y = 0 ∨ Lib.compareInt x y = 1 := by
  unfold Lib.compareInt
  split
  · simp
  · split <;> simp
theorem ci_le (x y : Int) : Lib.compareInt x y ≤ 0 ↔ x ≤ y := by
  unfold Lib.compareInt
  split
  · omega
  · split <;> omega
theorem ci_eq (x y : Int) : Lib.compareInt x y = 0 ↔ x = y := by
  unfold Lib.compareInt
  split
  · omega
  · split <;> omega

theorem vc_swap (a b : VVal) : vc b a = - vc a b := by
  unfold vc
  by_cases h : a.kind = b.kind
  · have q1 : ¬ b.kind ≠ a.kind := fun e => e h.symm
    have q2 : ¬ a.kind ≠ b.kind := fun e => e h
    rw [if_neg q1, if_neg q2, h]
    by_cases h2 : b.kind = 2
    · rw [if_pos h2, if_pos h2]
      exact cb_swap _ _
    · rw [if_neg h2, if_neg h2]
      exact ci_swap _ _
  · rw [if_pos (fun e => h e.symm), if_pos h]
    exact ci_swap _ _
theorem vc_range (a b : VVal) : vc a b = -1 ∨ vc a b = 0 ∨ vc a b = 1 := by
  unfold vc
  split
  · exact ci_range _ _
  · split
    · exact cb_range _ _
    · exact ci_range _ _
theorem vc_kind (a b : VVal) (h : vc a b ≤ 0) : a.kind ≤ b.kind := by
  unfold vc at h
  by_cases e : a.kind = b.kind
  · omega
  · rw [if_pos e] at h
    exact (ci_le _ _).1 h
theorem vc_trans (a b c : VVal) (h1 : vc a b ≤ 0) (h2 : vc b c ≤ 0) : vc a c ≤ 0 := by
  have k1 := vc_kind a b h1
  have k2 := vc_kind b c h2
  by_cases e : a.kind = c.kind
  · have e1 : a.kind = b.kind := by omega
    have e2 : b.kind = c.kind := by omega
    unfold vc at h1 h2 ⊢
    rw [if_neg (by simp [e1])] at h1
    rw [if_neg (by simp [e2])] at h2
    rw [if_neg (by simp [e])]
    rw [e1] at h1
    rw [e]
    rw [e2] at h1 h2
    split
    · rename_i h
      rw [if_pos h] at h1 h2
      exact cb_trans _ _ _ h1 h2
    · rename_i h
      rw [if_neg h] at h1 h2
      rw [ci_le] at h1 h2 ⊢
      omega
  · unfold vc
    rw [if_pos e, ci_le]
    omega
theorem vc_text (s t : ByteArray) (m n : Int) : Op.bytesLess s.toList t.toList = decide (vc ⟨2, m, s⟩ ⟨2, n, t⟩ < 0) := by
  rw [Lib.toList_data, Lib.toList_data, cbl]
  rfl
end Go.Proofs.YtinhmchekdolmaaDoor
