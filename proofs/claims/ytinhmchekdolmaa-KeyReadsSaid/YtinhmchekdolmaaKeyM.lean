/- Plain facts on keys' bytes: their order is the keys' order. Nothing of the program's run is stated here. -/
import Derived.Test.YtinhmchekdolmaaKeyC
import Derived.Test.YtinhmchekdolmaaKeyE
namespace Go.Proofs.Ytinhmchekdolmaa
open Go.RowKit

theorem u8lt (u v : UInt8) : (u < v) = (u.toNat < v.toNat) := by rw [UInt8.lt_iff_toNat_lt]

theorem bl_irr : ∀ l : List UInt8, Op.bytesLess l l = false
  | [] => rfl
  | a :: l => by simp [Op.bytesLess, bl_irr l]
theorem bl_pre (p x y : List UInt8) : Op.bytesLess (p ++ x) (p ++ y) = Op.bytesLess x y := by
  induction p with
  | nil => rfl
  | cons a p ih =>
    have h : ¬ a < a := UInt8.lt_irrefl a
    simp [Op.bytesLess, ih]
theorem bl_ext (x y : List UInt8) (hy : y ≠ []) : Op.bytesLess x (x ++ y) = true := by
  have h := bl_pre x [] y
  rw [List.append_nil] at h
  rw [h]
  cases y with
  | nil => exact absurd rfl hy
  | cons b y => rfl
theorem bl_asymm : ∀ x y : List UInt8, Op.bytesLess x y = true → Op.bytesLess y x = false
  | _, [], h => by simp [Op.bytesLess] at h
  | [], _ :: _, _ => rfl
  | a :: x, b :: y, h => by
    simp only [Op.bytesLess, Bool.or_eq_true, decide_eq_true_eq, Bool.and_eq_true, beq_iff_eq] at h
    simp only [Op.bytesLess, Bool.or_eq_false_iff, decide_eq_false_iff_not, Bool.and_eq_false_iff, beq_eq_false_iff_ne]
    rcases h with h | ⟨rfl, h⟩
    · rw [u8lt] at h
      exact ⟨by rw [u8lt]; omega, .inl (by rintro rfl; omega)⟩
    · exact ⟨UInt8.lt_irrefl _, .inr (bl_asymm x y h)⟩
theorem bl_total : ∀ x y : List UInt8, Op.bytesLess x y = false → Op.bytesLess y x = false → x = y
  | [], [], _, _ => rfl
  | [], _ :: _, h, _ => by simp [Op.bytesLess] at h
  | _ :: _, [], _, h => by simp [Op.bytesLess] at h
  | a :: x, b :: y, h, k => by
    simp only [Op.bytesLess, Bool.or_eq_false_iff, decide_eq_false_iff_not, Bool.and_eq_false_iff, beq_eq_false_iff_ne] at h k
    rw [u8lt] at h k
    have e : a = b := UInt8.toNat_inj.1 (by omega)
    subst e
    rw [bl_total x y (h.2.resolve_left (by simp)) (k.2.resolve_left (by simp))]
theorem bl_trans : ∀ x y z : List UInt8, Op.bytesLess x y = true → Op.bytesLess y z = true → Op.bytesLess x z = true
  | _, [], _, h, _ => by simp [Op.bytesLess] at h
  | _, _ :: _, [], _, k => by simp [Op.bytesLess] at k
  | [], _ :: _, _ :: _, _, _ => rfl
  | a :: x, b :: y, c :: z, h, k => by
    simp only [Op.bytesLess, Bool.or_eq_true, decide_eq_true_eq, Bool.and_eq_true, beq_iff_eq] at h k ⊢
    rw [u8lt] at h k ⊢
    rcases h with h | ⟨rfl, h⟩
    · rcases k with k | ⟨rfl, k⟩
      · exact .inl (by omega)
      · exact .inl h
    · rcases k with k | ⟨rfl, k⟩
      · exact .inl k
      · exact .inr ⟨rfl, bl_trans x y z h k⟩

/-! ### numbers -/
def beN : Nat → Nat → List UInt8
  | 0, _ => []
  | k + 1, u => UInt8.ofNat (u / 256 ^ k) :: beN k u
theorem beN_length : ∀ k u, (beN k u).length = k
  | 0, _ => rfl
  | k + 1, u => by simp [beN, beN_length k u]
theorem numB_beN (n : Int) : numB n = beN 8 (numU n) := by
  simp [numB, beN, List.range, List.range.loop]
theorem beN_mod : ∀ k u, beN k u = beN k (u % 256 ^ k)
  | 0, _ => rfl
  | k + 1, u => by
    have h1 := beN_mod k u
    have h2 := beN_mod k (u % 256 ^ (k + 1))
    have e : u % 256 ^ (k + 1) % 256 ^ k = u % 256 ^ k := Nat.mod_mod_of_dvd _ (Nat.pow_dvd_pow 256 (Nat.le_succ k))
    rw [e] at h2
    rw [beN, beN, h1, h2]
    congr 1
    have e2 : u % 256 ^ (k + 1) / 256 ^ k = u / 256 ^ k % 256 := by
      rw [Nat.pow_succ, Nat.mod_mul_right_div_self]
    rw [e2]
    apply UInt8.toNat_inj.1
    simp
theorem beN_less (x y : List UInt8) : ∀ k u v, u < 256 ^ k → v < 256 ^ k → Op.bytesLess (beN k u ++ x) (beN k v ++ y) = (decide (u < v) || (decide (u = v) && Op.bytesLess x y))
  | 0, u, v, hu, hv => by
    have h1 : u = 0 := by simpa using hu
    have h2 : v = 0 := by simpa using hv
    subst h1 h2
    simp [beN]
  | k + 1, u, v, hu, hv => by
    have hp : 0 < 256 ^ k := Nat.pos_of_ne_zero (by simp)
    have du := Nat.div_add_mod u (256 ^ k)
    have dv := Nat.div_add_mod v (256 ^ k)
    have mu := Nat.mod_lt u hp
    have mv := Nat.mod_lt v hp
    have bu : u / 256 ^ k < 256 := by rw [Nat.div_lt_iff_lt_mul hp, Nat.mul_comm]; rw [Nat.pow_succ] at hu; omega
    have bv : v / 256 ^ k < 256 := by rw [Nat.div_lt_iff_lt_mul hp, Nat.mul_comm]; rw [Nat.pow_succ] at hv; omega
    have ih := beN_less x y k (u % 256 ^ k) (v % 256 ^ k) mu mv
    rw [beN, beN, beN_mod k u, beN_mod k v, List.cons_append, List.cons_append, Op.bytesLess, ih]
    have tu : (UInt8.ofNat (u / 256 ^ k)).toNat = u / 256 ^ k := by rw [UInt8.toNat_ofNat']; exact Nat.mod_eq_of_lt bu
    have tv : (UInt8.ofNat (v / 256 ^ k)).toNat = v / 256 ^ k := by rw [UInt8.toNat_ofNat']; exact Nat.mod_eq_of_lt bv
    have e1 : decide (UInt8.ofNat (u / 256 ^ k) < UInt8.ofNat (v / 256 ^ k)) = decide (u / 256 ^ k < v / 256 ^ k) := decide_eq_decide.2 (by rw [u8lt, tu, tv])
    have e2 : (UInt8.ofNat (u / 256 ^ k) == UInt8.ofNat (v / 256 ^ k)) = decide (u / 256 ^ k = v / 256 ^ k) := by
      rw [Bool.eq_iff_iff, beq_iff_eq, decide_eq_true_iff, ← UInt8.toNat_inj, tu, tv]
    rw [e1, e2]
    rcases Nat.lt_trichotomy (u / 256 ^ k) (v / 256 ^ k) with h | h | h
    · have h2 : 256 ^ k * (u / 256 ^ k) + 256 ^ k ≤ 256 ^ k * (v / 256 ^ k) := by
        rw [← Nat.mul_succ]; exact Nat.mul_le_mul_left _ h
      have h3 : u < v := by omega
      simp [h, h3]
    · have h3 : (u % 256 ^ k < v % 256 ^ k) ↔ u < v := by rw [h] at du; omega
      have h4 : (u % 256 ^ k = v % 256 ^ k) ↔ u = v := by rw [h] at du; omega
      simp [h, h3, h4]
    · have h2 : 256 ^ k * (v / 256 ^ k) + 256 ^ k ≤ 256 ^ k * (u / 256 ^ k) := by
        rw [← Nat.mul_succ]; exact Nat.mul_le_mul_left _ h
      have h3 : ¬ u < v := by omega
      have h4 : ¬ u = v := by omega
      have h5 : ¬ u / 256 ^ k < v / 256 ^ k := by omega
      have h6 : ¬ u / 256 ^ k = v / 256 ^ k := by omega
      simp [h3, h4, h5, h6]
theorem numB_less (m n : Int) (x y : List UInt8) (hm : -9223372036854775808 ≤ m ∧ m ≤ 9223372036854775807) (hn : -9223372036854775808 ≤ n ∧ n ≤ 9223372036854775807) :
    Op.bytesLess (numB m ++ x) (numB n ++ y) = (decide (m < n) || (decide (m = n) && Op.bytesLess x y)) := by
  rw [numB_beN, numB_beN, beN_less x y 8 _ _ (by unfold numU; omega) (by unfold numU; omega)]
  have e1 : decide (numU m < numU n) = decide (m < n) := decide_eq_decide.2 (by unfold numU; omega)
  have e2 : decide (numU m = numU n) = decide (m = n) := decide_eq_decide.2 (by unfold numU; omega)
  rw [e1, e2]

/-! ### texts -/
theorem escB_cons (b : UInt8) (l : List UInt8) : escB (b :: l) = (if b = 0 then [0, 255] else [b]) ++ escB l := rfl
theorem escB_less : ∀ (a b x y : List UInt8), Op.bytesLess (escB a ++ 0 :: 1 :: x) (escB b ++ 0 :: 1 :: y) = (decide (Lib.compareBytes a b < 0) || (decide (Lib.compareBytes a b = 0) && Op.bytesLess x y))
  | [], [], x, y => by simp [escB, Op.bytesLess, Lib.compareBytes]
  | [], d :: b, x, y => by
    rw [escB_cons]
    by_cases hd : d = 0
    · subst hd
      simp [escB, Op.bytesLess, Lib.compareBytes]
    · have h1 : (0 : UInt8) < d := by rw [u8lt]; have : d.toNat ≠ 0 := fun e => hd (UInt8.toNat_inj.1 e); show 0 < d.toNat; omega
      simp [escB, Op.bytesLess, Lib.compareBytes, hd, h1]
  | c :: a, [], x, y => by
    rw [escB_cons]
    by_cases hc : c = 0
    · subst hc
      have h1 : ¬ (255 : UInt8) < 1 := by decide
      simp [escB, Op.bytesLess, Lib.compareBytes, h1]
    · have h1 : ¬ c < (0 : UInt8) := by rw [u8lt]; show ¬ c.toNat < 0; omega
      simp [escB, Op.bytesLess, Lib.compareBytes, hc, h1]
  | c :: a, d :: b, x, y => by
    have ih := escB_less a b x y
    rw [escB_cons, escB_cons]
    rcases Nat.lt_trichotomy c.toNat d.toNat with h | h | h
    · have h1 : c < d := by rw [u8lt]; exact h
      have h2 : ¬ d = 0 := by rintro rfl; simp at h
      by_cases hc : c = 0
      · subst hc; simp [Op.bytesLess, Lib.compareBytes, h1, h2]
      · simp [Op.bytesLess, Lib.compareBytes, h1, h2, hc]
    · obtain rfl : c = d := UInt8.toNat_inj.1 h
      have h1 : ¬ c < c := UInt8.lt_irrefl c
      rw [List.append_assoc, List.append_assoc, bl_pre, ih]
      simp [Lib.compareBytes]
    · have h1 : d < c := by rw [u8lt]; exact h
      have h2 : ¬ c = 0 := by rintro rfl; simp at h
      have h3 : ¬ c < d := by rw [u8lt]; omega
      have h4 : ¬ c = d := by rintro rfl; omega
      by_cases hd : d = 0
      · subst hd; simp [Op.bytesLess, Lib.compareBytes, h1, h2]
      · simp [Op.bytesLess, Lib.compareBytes, h1, h2, h3, h4, hd]
theorem cb_range : ∀ a b : List UInt8, Lib.compareBytes a b = -1 ∨ Lib.compareBytes a b = 0 ∨ Lib.compareBytes a b = 1
  | [], [] => by simp [Lib.compareBytes]
  | [], _ :: _ => by simp [Lib.compareBytes]
  | _ :: _, [] => by simp [Lib.compareBytes]
  | a :: x, b :: y => by
    unfold Lib.compareBytes
    split
    · simp
    · split
      · simp
      · exact cb_range x y
theorem cb_swap : ∀ a b : List UInt8, Lib.compareBytes b a = - Lib.compareBytes a b
  | [], [] => by simp [Lib.compareBytes]
  | [], _ :: _ => by simp [Lib.compareBytes]
  | _ :: _, [] => by simp [Lib.compareBytes]
  | a :: x, b :: y => by
    have ih := cb_swap x y
    unfold Lib.compareBytes
    rcases Nat.lt_trichotomy a.toNat b.toNat with h | h | h
    · have h1 : a < b := by rw [u8lt]; exact h
      have h2 : ¬ b < a := by rw [u8lt]; omega
      simp [h1, h2]
    · have h1 : ¬ a < b := by rw [u8lt]; omega
      have h2 : ¬ b < a := by rw [u8lt]; omega
      simp [h1, h2, ih]
    · have h1 : ¬ a < b := by rw [u8lt]; omega
      have h2 : b < a := by rw [u8lt]; exact h
      simp [h1, h2]

/-! ### parts, keys -/
theorem partC_range (p q : KPart) : partC p q = -1 ∨ partC p q = 0 ∨ partC p q = 1 := by
  unfold partC intC
  split
  · split
    · exact cb_range _ _
    · simp
  · split
    · simp
    · split
      · simp
      · split <;> simp
theorem partC_swap (p q : KPart) : partC q p = - partC p q := by
  unfold partC intC
  rcases hp : p.text <;> rcases hq : q.text <;> simp
  · rcases Int.lt_trichotomy p.n q.n with h | h | h
    · have : ¬ q.n < p.n := by omega
      simp [h, this]
    · simp [h]
    · have : ¬ p.n < q.n := by omega
      simp [h, this]
  · exact cb_swap _ _
theorem partB_less (p q : KPart) (hp : p.fits) (hq : q.fits) (x y : List UInt8) : Op.bytesLess (partB p ++ x) (partB q ++ y) = (decide (partC p q < 0) || (decide (partC p q = 0) && Op.bytesLess x y)) := by
  unfold partB partC
  rcases htp : p.text <;> rcases htq : q.text <;> simp only [if_true, if_false, Bool.false_eq_true, List.cons_append]
  · rw [Op.bytesLess, numB_less _ _ _ _ ⟨hp.2.1, hp.2.2⟩ ⟨hq.2.1, hq.2.2⟩]
    have h1 : ¬ (1 : UInt8) < 1 := by decide
    unfold intC
    rcases Int.lt_trichotomy p.n q.n with h | h | h
    · simp [h]
    · simp [h]
    · have h2 : ¬ p.n < q.n := by omega
      have h3 : ¬ p.n = q.n := by omega
      simp [h, h2, h3]
  · have h1 : (1 : UInt8) < 2 := by decide
    simp [Op.bytesLess, h1]
  · have h1 : ¬ (2 : UInt8) < 1 := by decide
    simp [Op.bytesLess, h1]
  · have h1 : ¬ (2 : UInt8) < 2 := by decide
    simp only [List.append_assoc, List.cons_append, List.nil_append]
    rw [Op.bytesLess, escB_less]
    simp

theorem partB_ne (p : KPart) : partB p ≠ [] := by unfold partB; split <;> simp
theorem keyC_range : ∀ a b : List KPart, keyC a b = -1 ∨ keyC a b = 0 ∨ keyC a b = 1
  | [], [] => by simp [keyC]
  | [], _ :: _ => by simp [keyC]
  | _ :: _, [] => by simp [keyC]
  | p :: a, q :: b => by
    unfold keyC
    split
    · exact partC_range p q
    · exact keyC_range a b
theorem keyC_swap : ∀ a b : List KPart, keyC b a = - keyC a b
  | [], [] => by simp [keyC]
  | [], _ :: _ => by simp [keyC]
  | _ :: _, [] => by simp [keyC]
  | p :: a, q :: b => by
    have h := partC_swap p q
    unfold keyC
    rw [h, keyC_swap a b]
    by_cases h0 : partC p q = 0
    · simp [h0]
    · have : ¬ - partC p q = 0 := by omega
      simp [h0]
theorem keyB_cons (p : KPart) (a : List KPart) : keyB (p :: a) = partB p ++ keyB a := rfl
theorem keyB_less : ∀ (a b : List KPart), (∀ p ∈ a, p.fits) → (∀ p ∈ b, p.fits) → Op.bytesLess (keyB a) (keyB b) = decide (keyC a b < 0)
  | [], [], _, _ => by simp [keyB, keyC, Op.bytesLess]
  | [], q :: b, _, _ => by
    rw [keyB_cons]
    have := bl_ext [] (partB q ++ keyB b) (by simp [partB_ne])
    have e : keyB [] = [] := rfl
    rw [List.nil_append] at this
    rw [e, this]
    simp [keyC]
  | p :: a, [], _, _ => by
    rw [keyB_cons]
    simp only [keyB, List.flatMap_nil, keyC]
    cases h : partB p ++ List.flatMap partB a <;> simp [Op.bytesLess]
  | p :: a, q :: b, ha, hb => by
    have ih := keyB_less a b (fun r hr => ha r (List.mem_cons_of_mem _ hr)) (fun r hr => hb r (List.mem_cons_of_mem _ hr))
    rw [keyB_cons, keyB_cons, partB_less p q (ha p (List.mem_cons_self ..)) (hb q (List.mem_cons_self ..)), ih, keyC]
    by_cases h0 : partC p q = 0
    · simp [h0]
    · simp [h0]
theorem keyB_eq (a b : List KPart) (ha : ∀ p ∈ a, p.fits) (hb : ∀ p ∈ b, p.fits) : (keyB a == keyB b) = decide (keyC a b = 0) := by
  have h1 := keyB_less a b ha hb
  have h2 := keyB_less b a hb ha
  rw [keyC_swap a b] at h2
  rw [Bool.eq_iff_iff, beq_iff_eq, decide_eq_true_iff]
  refine ⟨fun h => ?_, fun h => ?_⟩
  · rw [h, bl_irr] at h1 h2
    have h1' := of_decide_eq_false h1.symm
    have h2' := of_decide_eq_false h2.symm
    omega
  · exact bl_total _ _ (by rw [h1, h]; rfl) (by rw [h2, h]; rfl)
theorem keyC_self (a : List KPart) : keyC a a = 0 := by have := keyC_swap a a; omega
theorem keyC_snoc (a : List KPart) (p : KPart) : keyC a (a ++ [p]) = -1 := by
  induction a with
  | nil => rfl
  | cons q a ih =>
    have h0 : partC q q = 0 := by have := partC_swap q q; omega
    rw [List.cons_append, keyC, h0]
    simpa using ih
theorem keyC_snoc' (a : List KPart) (p : KPart) : keyC (a ++ [p]) a = 1 := by rw [keyC_swap, keyC_snoc]; rfl
theorem keyC_trans (a b c : List KPart) (ha : ∀ p ∈ a, p.fits) (hb : ∀ p ∈ b, p.fits) (hc : ∀ p ∈ c, p.fits) (h1 : keyC a b ≤ 0) (h2 : keyC b c ≤ 0) : keyC a c ≤ 0 := by
  have l1 := keyB_less b a hb ha
  have l2 := keyB_less c b hc hb
  have l3 := keyB_less c a hc ha
  rw [keyC_swap a b] at l1
  rw [keyC_swap b c] at l2
  rw [keyC_swap a c] at l3
  have g1 : Op.bytesLess (keyB b) (keyB a) = false := by rw [l1]; simp; omega
  have g2 : Op.bytesLess (keyB c) (keyB b) = false := by rw [l2]; simp; omega
  rcases h3 : Op.bytesLess (keyB c) (keyB a) with _ | _
  · rw [h3] at l3
    have := of_decide_eq_false l3.symm
    omega
  · exfalso
    rcases h4 : Op.bytesLess (keyB a) (keyB b) with _ | _
    · have := bl_total _ _ h4 g1
      rw [this, g2] at h3
      cases h3
    · have := bl_trans _ _ _ h3 h4
      rw [g2] at this
      cases this
end Go.Proofs.Ytinhmchekdolmaa
