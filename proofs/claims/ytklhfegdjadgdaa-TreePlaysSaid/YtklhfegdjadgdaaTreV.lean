/- A tree's list by what its keys have (plain). -/
import Derived.Test.YtklhfegdjadgdaaTreS
namespace Go.Proofs.Ytklhfegdjadgdaa

theorem getL_cons (q : List UInt8) (p : Pr) (r : List Pr) : getL q (p :: r) = if p.1 = q then some p.2 else getL q r := by
  unfold getL
  rw [List.find?_cons]
  by_cases h : p.1 = q
  · simp [h]
  · have : (p.1 == q) = false := beq_eq_false_iff_ne.2 h
    simp [this, h]
theorem getL_none {q : List UInt8} {L : List Pr} (h : ∀ p ∈ L, p.1 ≠ q) : getL q L = none := by
  unfold getL
  rw [getL_no h]
  rfl
theorem getL_mem : ∀ {L : List Pr} {q v : List UInt8}, getL q L = some v → (q, v) ∈ L
  | [], _, _, h => by cases h
  | p :: r, q, v, h => by
    rw [getL_cons] at h
    split at h
    · rename_i e
      injection h with h
      subst e h
      exact List.mem_cons_self ..
    · exact List.mem_cons_of_mem _ (getL_mem h)
theorem getL_ins (k v q : List UInt8) : ∀ {L : List Pr}, Rises L → getL q (insL k v L) = if k = q then some v else getL q L
  | [], _ => by simp only [insL, getL_cons]
  | p :: r, h => by
    have hp := List.pairwise_cons.1 h
    simp only [insL]
    split
    · rw [getL_cons]
    · split
      · rename_i h1 h2
        rw [getL_cons, getL_cons, getL_ins k v q hp.2]
        by_cases e : p.1 = q
        · have h3 : k ≠ q := by rintro rfl; exact cmp_ne (cmp_pos.1 h2) e
          rw [if_pos e, if_neg h3, if_pos e]
        · rw [if_neg e, if_neg e]
      · rename_i h1 h2
        have e : k = p.1 := cmp_eq (by omega)
        rw [getL_cons, getL_cons, e]
        by_cases e2 : p.1 = q <;> simp [e2]
theorem getL_del (k q : List UInt8) : ∀ L : List Pr, getL q (delL k L) = if k = q then none else getL q L
  | [] => by simp [delL, getL]
  | p :: r => by
    have ih := getL_del k q r
    unfold delL at ih ⊢
    rw [List.filter_cons]
    by_cases e : p.1 = k
    · have h1 : (!(p.1 == k)) = false := by simp [e]
      rw [h1, if_neg (by simp), ih, getL_cons]
      by_cases e2 : k = q
      · simp [e2]
      · rw [if_neg e2, if_neg e2, if_neg (by rw [e]; exact e2)]
    · have h1 : (!(p.1 == k)) = true := by simp [e]
      rw [if_pos h1, getL_cons, getL_cons, ih]
      by_cases e2 : p.1 = q
      · rw [if_pos e2, if_pos e2, if_neg (by rintro rfl; exact e e2)]
      · rw [if_neg e2, if_neg e2]
theorem rises_ext : ∀ {A B : List Pr}, Rises A → Rises B → (∀ q, getL q A = getL q B) → A = B
  | [], [], _, _, _ => rfl
  | [], b :: B, _, _, h => by have := h b.1; rw [getL_cons, if_pos rfl] at this; cases this
  | a :: A, [], _, _, h => by have := h a.1; rw [getL_cons, if_pos rfl] at this; cases this
  | a :: A, b :: B, ha, hb, h => by
    have hpa := List.pairwise_cons.1 ha
    have hpb := List.pairwise_cons.1 hb
    have e1 : a.1 = b.1 := by
      rcases (show cmpB a.1 b.1 < 0 ∨ 0 < cmpB a.1 b.1 ∨ cmpB a.1 b.1 = 0 by omega) with c | c | c
      · exfalso
        have h1 := h a.1
        rw [getL_cons, if_pos rfl, getL_none (L := b :: B)] at h1
        · cases h1
        · intro p hp
          rcases List.mem_cons.1 hp with rfl | hp
          · exact (cmp_ne c).symm
          · exact (cmp_ne (cmp_trans c (hpb.1 p hp))).symm
      · exfalso
        have c' := cmp_pos.1 c
        have h1 := h b.1
        rw [getL_cons (p := b), if_pos rfl, getL_none (L := a :: A)] at h1
        · cases h1
        · intro p hp
          rcases List.mem_cons.1 hp with rfl | hp
          · exact (cmp_ne c').symm
          · exact (cmp_ne (cmp_trans c' (hpa.1 p hp))).symm
      · exact cmp_eq c
    have e2 : a.2 = b.2 := by
      have := h a.1
      rw [getL_cons, if_pos rfl, getL_cons, if_pos e1.symm] at this
      injection this
    have e3 : A = B := rises_ext hpa.2 hpb.2 fun q => by
      by_cases c : a.1 = q
      · subst c
        rw [getL_none fun p hp => (cmp_ne (hpa.1 p hp)).symm, e1, getL_none fun p hp => (cmp_ne (hpb.1 p hp)).symm]
      · have h1 := h q
        rw [getL_cons, if_neg c, getL_cons, if_neg (by rw [← e1]; exact c)] at h1
        exact h1
    rw [e3, show a = b from Prod.ext e1 e2]
theorem getL_of_mem {L : List Pr} (hr : Rises L) {q v : List UInt8} (h : (q, v) ∈ L) : getL q L = some v := by
  obtain ⟨i, hi, e⟩ := List.getElem_of_mem h
  have h1 := getL_at hr hi
  rw [e] at h1
  exact h1
theorem delL_less {k : List UInt8} {L : List Pr} (h : getL k L ≠ none) : (delL k L).length < L.length := by
  obtain ⟨v, hv⟩ := Option.ne_none_iff_exists'.1 h
  unfold delL
  rw [List.length_filter_lt_length_iff_exists]
  exact ⟨(k, v), getL_mem hv, by simp⟩
theorem delL_le (k : List UInt8) (L : List Pr) : (delL k L).length ≤ L.length := List.length_filter_le _ _
theorem cmp_nil (a : List UInt8) : ¬ cmpB a [] < 0 := by
  cases a with
  | nil => rw [cmp_refl]; omega
  | cons x a => show ¬ (1 : Int) < 0; omega
theorem rank_nil (L : List Pr) : rankL [] L = 0 := rankL_no fun p _ => cmp_nil p.1
/-- All pairs. -/
theorem rng_all {L : List Pr} (h : L.length ≤ 1000) : rngL [] [] 1000 L = L := by
  rw [rng_eq [] [] L h, rank_nil]
  unfold endL
  rw [if_pos rfl, List.take_length, List.drop_zero]
/-- What begins with something isn't less. -/
theorem cmp_prefix : ∀ (a b : List UInt8), ¬ cmpB (a ++ b) a < 0
  | [], b => by rw [List.nil_append]; exact cmp_nil b
  | x :: a, b => by
    show ¬ (if x < x then (-1 : Int) else if x < x then 1 else cmpB (a ++ b) a) < 0
    rw [if_neg (UInt8.lt_irrefl x), if_neg (UInt8.lt_irrefl x)]
    exact cmp_prefix a b
/-- Of a rising list those that aren't less are all in the range from there on. -/
theorem rng_from {L : List Pr} (hr : Rises L) (h : L.length ≤ 1000) (a : List UInt8) {p : Pr} (hp : p ∈ L) (ha : ¬ cmpB p.1 a < 0) : p ∈ rngL a [] 1000 L := by
  rw [rng_eq a [] L h]
  unfold endL
  rw [if_pos rfl, List.take_length]
  obtain ⟨i, hi, rfl⟩ := List.getElem_of_mem hp
  have h1 : rankL a L ≤ i := by
    have h2 := rank_mono (a := a) (b := L[i].1) L ha
    rw [rankL_at hr hi] at h2
    exact h2
  rw [List.mem_iff_getElem]
  exact ⟨i - rankL a L, by rw [List.length_drop]; omega, by rw [List.getElem_drop]; congr 1; omega⟩
theorem rng_sub {L : List Pr} (h : L.length ≤ 1000) (a b : List UInt8) : (rngL a b 1000 L).Sublist L := by
  rw [rng_eq a b L h]
  exact (List.drop_sublist _ _).trans (List.take_sublist _ _)
end Go.Proofs.Ytklhfegdjadgdaa
