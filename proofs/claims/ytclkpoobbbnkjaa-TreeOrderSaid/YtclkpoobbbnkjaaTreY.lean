/- What TreeOrder's loops leave in its two trees (plain). -/
import Derived.Test.YtclkpoobbbnkjaaTreV
namespace Go.Proofs.Ytclkpoobbbnkjaa

/-- What the law puts ahead of the other keys. -/
def preO : List UInt8 := [255, 255, 45]
def InA (ks : List (List UInt8)) (k : Nat) (L : List Pr) : Prop := (∀ q v, getL q L = some v → v = q ∧ q ∈ ks) ∧ ∀ j (h : j < ks.length), j < k → getL ks[j] L = some ks[j]
def InB (ks : List (List UInt8)) (L : List Pr) : Prop := ∀ q v, getL q L = some v → q ∈ ks ∨ ∃ s, q = preO ++ s
/-- The key that the law's closure answers. -/
def atK (ks : List (List UInt8)) (T j : Nat) : List UInt8 := ks.getD ((j + T) % ks.length) []
def InC (ks : List (List UInt8)) (T k : Nat) (L : List Pr) : Prop := InB ks L ∧ ∀ j, j < ks.length → j < k → getL (atK ks T j) L = some (atK ks T j)
def InD (ks : List (List UInt8)) (L0 l : List Pr) (k : Nat) (L : List Pr) : Prop := ∀ q, getL q L = if q ∉ ks ∧ ∃ p ∈ l.take k, p.1 = q then none else getL q L0
theorem inA_start (ks : List (List UInt8)) : InA ks 0 [] := ⟨fun q v h => (by cases h), fun j _ h => (by omega)⟩
theorem inA_step {ks : List (List UInt8)} {k : Nat} {L : List Pr} (h : InA ks k L) (hr : Rises L) (hk : k < ks.length) : InA ks (k + 1) (insL ks[k] ks[k] L) := by
  refine ⟨fun q v hq => ?_, fun j hj hjk => ?_⟩
  · rw [getL_ins _ _ _ hr] at hq
    split at hq
    · rename_i e
      injection hq with hq
      exact ⟨by rw [← hq, e], by rw [← e]; exact List.getElem_mem hk⟩
    · exact h.1 q v hq
  · rw [getL_ins _ _ _ hr]
    by_cases e : ks[k] = ks[j]
    · rw [if_pos e, e]
    · rw [if_neg e]
      refine h.2 j hj ?_
      rcases Nat.lt_or_ge j k with h1 | h1
      · exact h1
      · exact absurd (by congr 1; omega) e
theorem inB_start (ks : List (List UInt8)) : InB ks [] := fun q v h => by cases h
theorem inB_pre {ks : List (List UInt8)} {L : List Pr} (h : InB ks L) (hr : Rises L) (s v : List UInt8) : InB ks (insL (preO ++ s) v L) := by
  intro q u hq
  rw [getL_ins _ _ _ hr] at hq
  split at hq
  · rename_i e
    exact .inr ⟨s, e.symm⟩
  · exact h q u hq
theorem inB_key {ks : List (List UInt8)} {L : List Pr} (h : InB ks L) (hr : Rises L) {k : List UInt8} (hk : k ∈ ks) (v : List UInt8) : InB ks (insL k v L) := by
  intro q u hq
  rw [getL_ins _ _ _ hr] at hq
  split at hq
  · rename_i e
    exact .inl (e ▸ hk)
  · exact h q u hq
theorem atK_mem {ks : List (List UInt8)} {T j : Nat} (h : j < ks.length) : atK ks T j ∈ ks := by
  unfold atK
  have h1 : (j + T) % ks.length < ks.length := Nat.mod_lt _ (by omega)
  rw [List.getD_eq_getElem?_getD, List.getElem?_eq_getElem h1]
  exact List.getElem_mem h1
theorem atK_all {ks : List (List UInt8)} (T : Nat) {q : List UInt8} (h : q ∈ ks) : ∃ j, j < ks.length ∧ atK ks T j = q := by
  obtain ⟨i, hi, rfl⟩ := List.getElem_of_mem h
  have hn : 0 < ks.length := by omega
  refine ⟨(i + (ks.length - T % ks.length)) % ks.length, Nat.mod_lt _ hn, ?_⟩
  have e : ((i + (ks.length - T % ks.length)) % ks.length + T) % ks.length = i := by
    have h2 : T % ks.length < ks.length := Nat.mod_lt _ hn
    have h3 := Nat.div_add_mod T ks.length
    rw [Nat.add_mod, Nat.mod_mod, ← Nat.add_mod]
    have e2 : i + (ks.length - T % ks.length) + T = i + ks.length * (T / ks.length + 1) := by
      rw [Nat.mul_add, Nat.mul_one]
      omega
    rw [e2, Nat.add_mul_mod_self_left, Nat.mod_eq_of_lt hi]
  unfold atK
  rw [e, List.getD_eq_getElem?_getD, List.getElem?_eq_getElem hi]
  rfl
theorem inC_start {ks : List (List UInt8)} {L : List Pr} (h : InB ks L) (T : Nat) : InC ks T 0 L := ⟨h, fun j _ hj => (by omega)⟩
theorem inC_step {ks : List (List UInt8)} {T k : Nat} {L : List Pr} (h : InC ks T k L) (hr : Rises L) (hk : k < ks.length) : InC ks T (k + 1) (insL (atK ks T k) (atK ks T k) L) := by
  refine ⟨inB_key h.1 hr (atK_mem hk) _, fun j hj hjk => ?_⟩
  rw [getL_ins _ _ _ hr]
  by_cases e : atK ks T k = atK ks T j
  · rw [if_pos e, e]
  · rw [if_neg e]
    refine h.2 j hj ?_
    rcases Nat.lt_or_ge j k with h1 | h1
    · exact h1
    · exact absurd (by congr 1; omega) e
theorem inC_all {ks : List (List UInt8)} {T : Nat} {L : List Pr} (h : InC ks T ks.length L) {q : List UInt8} (hq : q ∈ ks) : getL q L = some q := by
  obtain ⟨j, hj, e⟩ := atK_all T hq
  rw [← e]
  exact h.2 j hj hj
theorem inD_start (ks : List (List UInt8)) (L0 l : List Pr) : InD ks L0 l 0 L0 := fun q => by rw [if_neg (by simp)]
theorem inD_keep {ks : List (List UInt8)} {L0 l L : List Pr} {k : Nat} (h : InD ks L0 l k L) (hk : k < l.length) (hm : l[k].1 ∈ ks) : InD ks L0 l (k + 1) L := by
  intro q
  rw [h q]
  congr 1
  apply propext
  refine and_congr_right fun hq => ?_
  rw [List.take_succ_eq_append_getElem hk]
  constructor
  · rintro ⟨p, hp, e⟩
    exact ⟨p, List.mem_append_left _ hp, e⟩
  · rintro ⟨p, hp, e⟩
    rcases List.mem_append.1 hp with hp | hp
    · exact ⟨p, hp, e⟩
    · rw [List.mem_singleton] at hp
      subst hp
      exact absurd (e ▸ hm) hq
theorem inD_del {ks : List (List UInt8)} {L0 l L : List Pr} {k : Nat} (h : InD ks L0 l k L) (hk : k < l.length) (hm : l[k].1 ∉ ks) (hl : Rises l) (hr0 : Rises L0) (hsub : l.Sublist L0) : InD ks L0 l (k + 1) (delL l[k].1 L) ∧ getL l[k].1 L ≠ none := by
  refine ⟨fun q => ?_, ?_⟩
  · rw [getL_del, h q]
    by_cases e : l[k].1 = q
    · rw [if_pos e, if_pos ⟨by rw [← e]; exact hm, l[k], (by rw [List.take_succ_eq_append_getElem hk]; exact List.mem_append_right _ (List.mem_singleton.2 rfl)), e⟩]
    · rw [if_neg e]
      congr 1
      apply propext
      refine and_congr_right fun hq => ?_
      rw [List.take_succ_eq_append_getElem hk]
      constructor
      · rintro ⟨p, hp, e⟩
        exact ⟨p, List.mem_append_left _ hp, e⟩
      · rintro ⟨p, hp, e2⟩
        rcases List.mem_append.1 hp with hp | hp
        · exact ⟨p, hp, e2⟩
        · rw [List.mem_singleton] at hp
          subst hp
          exact absurd e2 e
  · rw [h, if_neg]
    · have h9 : getL l[k].1 L0 = some l[k].2 := getL_of_mem hr0 (hsub.subset (List.getElem_mem hk))
      rw [h9]
      simp
    · rintro ⟨_, p, hp, e⟩
      obtain ⟨i, hi, rfl⟩ := List.getElem_of_mem hp
      rw [List.length_take] at hi
      rw [List.getElem_take] at e
      have h1 := rises_at hl (i := i) (j := k) (by omega) hk
      rw [e, cmp_refl] at h1
      omega
/-- Both trees have the same pairs at last. -/
theorem order_last {ks : List (List UInt8)} {T : Nat} {LA L0 L : List Pr} (hA : InA ks ks.length LA) (hC : InC ks T ks.length L0) (hra : Rises LA) (hr0 : Rises L0) (hr : Rises L) (hn : L0.length ≤ 1000)
    (hD : InD ks L0 (rngL preO [] 1000 L0) (rngL preO [] 1000 L0).length L) : LA = L := by
  refine rises_ext hra hr fun q => ?_
  rw [hD q, List.take_length]
  by_cases hq : q ∈ ks
  · rw [if_neg (by simp [hq]), inC_all hC hq]
    obtain ⟨j, hj, rfl⟩ := List.getElem_of_mem hq
    exact hA.2 j hj hj
  · have h1 : getL q LA = none := by
      cases e : getL q LA with
      | none => rfl
      | some v => exact absurd (hA.1 q v e).2 hq
    rw [h1]
    split
    · rfl
    · rename_i h2
      cases e : getL q L0 with
      | none => rfl
      | some v =>
        exfalso
        apply h2
        refine ⟨hq, (q, v), ?_, rfl⟩
        rcases hC.1 q v e with h3 | ⟨s, rfl⟩
        · exact absurd h3 hq
        · exact rng_from hr0 hn preO (getL_mem e) (cmp_prefix preO s)
theorem inA_has {ks : List (List UInt8)} {LA : List Pr} (hA : InA ks ks.length LA) (q : List UInt8) : (q ∈ ks ∧ getL q LA = some q) ∨ (q ∉ ks ∧ getL q LA = none) := by
  by_cases hq : q ∈ ks
  · obtain ⟨j, hj, rfl⟩ := List.getElem_of_mem hq
    exact .inl ⟨hq, hA.2 j hj hj⟩
  · refine .inr ⟨hq, ?_⟩
    cases e : getL q LA with
    | none => rfl
    | some v => exact absurd (hA.1 q v e).2 hq
end Go.Proofs.Ytclkpoobbbnkjaa
