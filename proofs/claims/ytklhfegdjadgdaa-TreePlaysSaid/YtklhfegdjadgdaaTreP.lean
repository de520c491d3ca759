/- The order of bytes; pairs as a rising list, plainly. -/
import Derived.Test.YtklhfegdjadgdaaTreA
import Derived.Lib.Bytealg
namespace Go.Proofs.Ytklhfegdjadgdaa

/-- The order of bytes. -/
abbrev cmpB := Lib.compareBytes
theorem cmp_refl : ∀ a : List UInt8, cmpB a a = 0
  | [] => rfl
  | x :: a => by
    show (if x < x then (-1 : Int) else if x < x then 1 else cmpB a a) = 0
    rw [if_neg (UInt8.lt_irrefl x), if_neg (UInt8.lt_irrefl x)]
    exact cmp_refl a
theorem cmp_eq : ∀ {a b : List UInt8}, cmpB a b = 0 → a = b
  | [], [], _ => rfl
  | [], _ :: _, h => by cases h
  | _ :: _, [], h => by cases h
  | x :: a, y :: b, h => by
    change (if x < y then (-1 : Int) else if y < x then 1 else cmpB a b) = 0 at h
    split at h
    · cases h
    · split at h
      · cases h
      · rename_i h1 h2
        have e : x = y := UInt8.le_antisymm (UInt8.not_lt.1 h2) (UInt8.not_lt.1 h1)
        rw [e, cmp_eq h]
theorem cmp_swap : ∀ a b : List UInt8, cmpB b a = - cmpB a b
  | [], [] => rfl
  | [], _ :: _ => rfl
  | _ :: _, [] => rfl
  | x :: a, y :: b => by
    show (if y < x then (-1 : Int) else if x < y then 1 else cmpB b a) = - (if x < y then (-1 : Int) else if y < x then 1 else cmpB a b)
    by_cases h1 : x < y
    · have h2 : ¬ y < x := fun h => UInt8.lt_irrefl x (UInt8.lt_trans h1 h)
      rw [if_neg h2, if_pos h1, if_pos h1]; rfl
    · by_cases h2 : y < x
      · rw [if_pos h2, if_neg h1, if_pos h2]
      · rw [if_neg h2, if_neg h1, if_neg h1, if_neg h2]
        exact cmp_swap a b
theorem cmp_trans : ∀ {a b c : List UInt8}, cmpB a b < 0 → cmpB b c < 0 → cmpB a c < 0
  | [], [], _, h, _ => by cases h
  | [], _ :: _, [], _, h => by cases h
  | [], _ :: _, _ :: _, _, _ => by show (-1 : Int) < 0; omega
  | _ :: _, [], _, h, _ => by cases h
  | _ :: _, _ :: _, [], _, h => by cases h
  | x :: a, y :: b, z :: c, h, k => by
    change (if x < y then (-1 : Int) else if y < x then 1 else cmpB a b) < 0 at h
    change (if y < z then (-1 : Int) else if z < y then 1 else cmpB b c) < 0 at k
    show (if x < z then (-1 : Int) else if z < x then 1 else cmpB a c) < 0
    by_cases h1 : x < y
    · by_cases k1 : y < z
      · rw [if_pos (UInt8.lt_trans h1 k1)]; omega
      · rw [if_neg k1] at k
        by_cases k2 : z < y
        · rw [if_pos k2] at k; omega
        · have e : y = z := UInt8.le_antisymm (UInt8.not_lt.1 k2) (UInt8.not_lt.1 k1)
          rw [← e, if_pos h1]; omega
    · rw [if_neg h1] at h
      by_cases h2 : y < x
      · rw [if_pos h2] at h; omega
      · rw [if_neg h2] at h
        have e : x = y := UInt8.le_antisymm (UInt8.not_lt.1 h2) (UInt8.not_lt.1 h1)
        subst e
        by_cases k1 : x < z
        · rw [if_pos k1]; omega
        · rw [if_neg k1] at k ⊢
          by_cases k2 : z < x
          · rw [if_pos k2] at k; omega
          · rw [if_neg k2] at k ⊢
            exact cmp_trans h k
theorem cmp_pos {a b : List UInt8} : 0 < cmpB a b ↔ cmpB b a < 0 := by rw [cmp_swap a b]; omega
theorem cmp_ne {a b : List UInt8} (h : cmpB a b < 0) : a ≠ b := by rintro rfl; rw [cmp_refl] at h; omega

abbrev Pr := List UInt8 × List UInt8
/-- Keys rise. -/
def Rises (l : List Pr) : Prop := l.Pairwise fun p q => cmpB p.1 q.1 < 0
/-- A key has a value. -/
def insL (k v : List UInt8) : List Pr → List Pr
  | [] => [(k, v)]
  | p :: r => if cmpB k p.1 < 0 then (k, v) :: p :: r else if 0 < cmpB k p.1 then p :: insL k v r else (k, v) :: r
/-- A key is gone. -/
def delL (k : List UInt8) (l : List Pr) : List Pr := l.filter fun p => !(p.1 == k)
theorem insL_left {k v a x : List UInt8} (h : cmpB k a < 0) (r : List Pr) : ∀ l : List Pr, insL k v (l ++ (a, x) :: r) = insL k v l ++ (a, x) :: r
  | [] => by show (if cmpB k a < 0 then _ else _) = _; rw [if_pos h]; rfl
  | p :: l => by
    simp only [List.cons_append, insL]
    split
    · rfl
    · split
      · rw [insL_left h r l]; rfl
      · rfl
theorem insL_skip {k v : List UInt8} : ∀ (l r : List Pr), (∀ p ∈ l, cmpB p.1 k < 0) → insL k v (l ++ r) = l ++ insL k v r
  | [], r, _ => rfl
  | p :: l, r, h => by
    have h1 := h p (List.mem_cons_self ..)
    have h2 : 0 < cmpB k p.1 := cmp_pos.2 h1
    simp only [List.cons_append, insL]
    rw [if_neg (by omega), if_pos h2, insL_skip l r fun q hq => h q (List.mem_cons_of_mem _ hq)]
theorem rises_mid {l r : List Pr} {p : Pr} (h : Rises (l ++ p :: r)) : Rises l ∧ Rises r ∧ (∀ q ∈ l, cmpB q.1 p.1 < 0) ∧ (∀ q ∈ r, cmpB p.1 q.1 < 0) ∧ ∀ q ∈ l, ∀ s ∈ r, cmpB q.1 s.1 < 0 := by
  unfold Rises at h ⊢
  rw [List.pairwise_append, List.pairwise_cons] at h
  exact ⟨h.1, h.2.1.2, fun q hq => h.2.2 q hq p (List.mem_cons_self ..), h.2.1.1, fun q hq s hs => h.2.2 q hq s (List.mem_cons_of_mem _ hs)⟩
theorem insL_right {k v a x : List UInt8} {l r : List Pr} (hr : Rises (l ++ (a, x) :: r)) (h : 0 < cmpB k a) : insL k v (l ++ (a, x) :: r) = l ++ (a, x) :: insL k v r := by
  obtain ⟨_, _, h3, _, _⟩ := rises_mid hr
  rw [insL_skip l _ fun p hp => cmp_trans (h3 p hp) (cmp_pos.1 h)]
  simp only [insL]
  rw [if_neg (by omega), if_pos h]
theorem insL_same {k v a x : List UInt8} {l r : List Pr} (hr : Rises (l ++ (a, x) :: r)) (h : cmpB k a = 0) : insL k v (l ++ (a, x) :: r) = l ++ (a, v) :: r := by
  have e := cmp_eq h
  subst e
  obtain ⟨_, _, h3, _, _⟩ := rises_mid hr
  rw [insL_skip l _ h3]
  simp only [insL]
  rw [if_neg (by omega), if_neg (by omega)]
theorem mem_insL {k v : List UInt8} {q : Pr} : ∀ {l : List Pr}, q ∈ insL k v l → q = (k, v) ∨ q ∈ l
  | [], h => .inl (List.mem_singleton.1 h)
  | p :: r, h => by
    simp only [insL] at h
    split at h
    · rcases List.mem_cons.1 h with h | h
      · exact .inl h
      · exact .inr h
    · split at h
      · rcases List.mem_cons.1 h with h | h
        · exact .inr (h ▸ List.mem_cons_self ..)
        · rcases mem_insL h with h | h
          · exact .inl h
          · exact .inr (List.mem_cons_of_mem _ h)
      · rcases List.mem_cons.1 h with h | h
        · exact .inl h
        · exact .inr (List.mem_cons_of_mem _ h)
theorem rises_ins {k v : List UInt8} : ∀ {l : List Pr}, Rises l → Rises (insL k v l)
  | [], _ => List.pairwise_singleton _ _
  | p :: r, h => by
    have hp := List.pairwise_cons.1 h
    simp only [insL]
    split
    · rename_i h1
      exact List.pairwise_cons.2 ⟨fun q hq => by
        rcases List.mem_cons.1 hq with rfl | hq
        · exact h1
        · exact cmp_trans h1 (hp.1 q hq), h⟩
    · split
      · rename_i h1 h2
        refine List.pairwise_cons.2 ⟨fun q hq => ?_, rises_ins hp.2⟩
        rcases mem_insL hq with rfl | hq
        · exact cmp_pos.1 h2
        · exact hp.1 q hq
      · rename_i h1 h2
        have e : k = p.1 := cmp_eq (by omega)
        exact List.pairwise_cons.2 ⟨fun q hq => by rw [e]; exact hp.1 q hq, hp.2⟩
theorem insL_len {k v : List UInt8} : ∀ (l : List Pr), l.length ≤ (insL k v l).length ∧ (insL k v l).length ≤ l.length + 1
  | [] => by simp [insL]
  | p :: r => by
    have := insL_len (k := k) (v := v) r
    simp only [insL]
    split
    · simp
    · split
      · simp only [List.length_cons]; omega
      · simp
theorem rises_del {k : List UInt8} {l : List Pr} (h : Rises l) : Rises (delL k l) := List.Pairwise.filter _ h
theorem delL_none {k : List UInt8} {l : List Pr} (h : ∀ p ∈ l, p.1 ≠ k) : delL k l = l := by
  unfold delL
  rw [List.filter_eq_self]
  intro p hp
  simpa using h p hp
theorem delL_append (k : List UInt8) (l r : List Pr) : delL k (l ++ r) = delL k l ++ delL k r := List.filter_append ..
theorem delL_left {k a x : List UInt8} {l r : List Pr} (hr : Rises (l ++ (a, x) :: r)) (h : cmpB k a < 0) : delL k (l ++ (a, x) :: r) = delL k l ++ (a, x) :: r := by
  obtain ⟨_, _, _, h4, _⟩ := rises_mid hr
  rw [delL_append, delL_none (l := (a, x) :: r)]
  intro p hp
  rcases List.mem_cons.1 hp with rfl | hp
  · exact (cmp_ne h).symm
  · exact (cmp_ne (cmp_trans h (h4 p hp))).symm
theorem delL_right {k a x : List UInt8} {l r : List Pr} (hr : Rises (l ++ (a, x) :: r)) (h : 0 < cmpB k a) : delL k (l ++ (a, x) :: r) = l ++ (a, x) :: delL k r := by
  obtain ⟨_, _, h3, _, _⟩ := rises_mid hr
  have h' := cmp_pos.1 h
  rw [delL_append, delL_none (l := l) fun p hp => cmp_ne (cmp_trans (h3 p hp) h')]
  congr 1
  unfold delL
  rw [List.filter_cons, if_pos (by simpa using cmp_ne h')]
theorem delL_same {k a x : List UInt8} {l r : List Pr} (hr : Rises (l ++ (a, x) :: r)) (h : cmpB k a = 0) : delL k (l ++ (a, x) :: r) = l ++ r := by
  have e := cmp_eq h
  subst e
  obtain ⟨_, _, h3, h4, _⟩ := rises_mid hr
  rw [delL_append, delL_none (l := l) fun p hp => cmp_ne (h3 p hp)]
  congr 1
  unfold delL
  rw [List.filter_cons, if_neg (by simp)]
  exact delL_none (l := r) fun p hp => (cmp_ne (h4 p hp)).symm
end Go.Proofs.Ytklhfegdjadgdaa
