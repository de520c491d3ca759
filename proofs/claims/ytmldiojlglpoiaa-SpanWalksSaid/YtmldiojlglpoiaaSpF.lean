/- Spans, plainly: by a list that is closed; of a row of nodes; of few edges; of its own pairs. -/
import Derived.Test.YtmldiojlglpoiaaSpV0
namespace Go.Proofs.Ytmldiojlglpoiaa

theorem spanL_clos {E S : List Pr} (h : ClosOk E S) : spanL E = setL (S.map tupOf) ∧ (spanL E).length = S.length := by
  have e : spanL E = setL (S.map tupOf) := by
    refine ris_ext (ris_spanL E) (ris_set _) fun q => ?_
    rw [mem_spanL, mem_set, List.mem_map]
    constructor
    · rintro ⟨a, b, rfl, hl⟩
      exact ⟨(a, b), (h.mem a b).2 hl, rfl⟩
    · rintro ⟨⟨a, b⟩, hp, rfl⟩
      exact ⟨a, b, rfl, (h.mem a b).1 hp⟩
  refine ⟨e, ?_⟩
  have h1 := nodup_len (tups_nodup h.nodup) (m := spanL E) fun t ht => by rw [e, mem_set]; exact ht
  have h2 := nodup_len (nodup_spanL E) (m := S.map tupOf) fun t ht => by rw [e, mem_set] at ht; exact ht
  rw [List.length_map] at h1 h2
  omega
/-- A list of the pairs of a span: there is one. -/
theorem clos_ex (E : List Pr) : ∃ S, ClosOk E S := by
  refine ⟨(spanL E).map fun t => (t.getD 0 0, t.getD 1 0), ?_, fun a b => ?_⟩
  · rw [List.Nodup, List.pairwise_map]
    refine List.Pairwise.imp_of_mem (fun {s t} hs ht hne e => ?_) (nodup_spanL E)
    obtain ⟨a, b, rfl, _⟩ := mem_spanL.1 hs
    obtain ⟨c, d, rfl, _⟩ := mem_spanL.1 ht
    simp at e
    exact hne (by rw [e.1, e.2])
  · rw [List.mem_map]
    constructor
    · rintro ⟨t, ht, e⟩
      obtain ⟨c, d, rfl, hl⟩ := mem_spanL.1 ht
      simp at e
      rw [← e.1, ← e.2]
      exact hl
    · exact fun h => ⟨[a, b], mem_spanL.2 ⟨a, b, rfl, h⟩, by simp⟩
theorem spanL_few (E : List Pr) : (spanL E).length ≤ E.length * E.length := by
  have h1 := nodup_len (nodup_spanL E) (m := (E.flatMap fun e => E.map fun d => [e.1, d.2])) fun t ht => by
    obtain ⟨a, b, rfl, hl⟩ := mem_spanL.1 ht
    obtain ⟨c, hc⟩ := hl.first
    obtain ⟨d, hd⟩ := hl.last
    exact List.mem_flatMap.2 ⟨(a, c), hc, List.mem_map.2 ⟨(d, b), hd, rfl⟩⟩
  refine Nat.le_trans h1 (Nat.le_of_eq ?_)
  rw [List.length_flatMap]
  have : ∀ (F : List Pr), ((F.map fun e => (E.map fun d => [e.1, d.2]).length)).sum = F.length * E.length := by
    intro F
    induction F with
    | nil => simp
    | cons x F ih => rw [List.map_cons, List.sum_cons, ih, List.length_map, List.length_cons, Nat.succ_mul]; omega
  exact this E
theorem prsL_len (lab : Nm) (es : List Ed) : (prsL lab es).length ≤ es.length := by
  unfold prsL
  rw [List.length_map]
  exact List.length_filter_le _ _
/-- With more edges no pair goes. -/
theorem spanL_mono {E F : List Pr} (h : ∀ p ∈ E, p ∈ F) {t : Tu} (ht : t ∈ spanL E) : t ∈ spanL F := by
  obtain ⟨a, b, rfl, hl⟩ := mem_spanL.1 ht
  exact mem_spanL.2 ⟨a, b, rfl, hl.mono fun x y hxy => h _ hxy⟩
/-- A span's pairs, taken for edges. -/
theorem spanL_twice (E F : List Pr) (h : ∀ p, p ∈ F ↔ [p.1, p.2] ∈ spanL E) : spanL F = spanL E := by
  have hF : ∀ a b, InE F a b ↔ Lead (InE E) a b := fun a b => by
    unfold InE
    rw [h]
    constructor
    · intro hm
      obtain ⟨c, d, e, hl⟩ := mem_spanL.1 hm
      injection e with e1 e2
      injection e2 with e2
      dsimp only at e1 e2
      rw [e1, e2]
      exact hl
    · exact fun hl => mem_spanL.2 ⟨a, b, rfl, hl⟩
  refine ris_ext (ris_spanL F) (ris_spanL E) fun q => ?_
  rw [mem_spanL, mem_spanL]
  constructor
  · rintro ⟨a, b, rfl, hl⟩
    refine ⟨a, b, rfl, ?_⟩
    clear h
    induction hl with
    | one h => exact (hF _ _).1 h
    | cons h _ ih => exact ((hF _ _).1 h).trans ih
  · rintro ⟨a, b, rfl, hl⟩
    exact ⟨a, b, rfl, .one ((hF a b).2 hl)⟩
/-- A row of nodes. -/
structure IsRow13 (f : Nat → Int) (k : Nat) (E : List Pr) : Prop where
  rise : ∀ i j, i < j → f i < f j
  mem : ∀ p, p ∈ E ↔ ∃ i, i < k ∧ p = (f i, f (i + 1))
theorem IsRow13.inj {f : Nat → Int} {k : Nat} {E : List Pr} (h : IsRow13 f k E) {i j : Nat} (e : f i = f j) : i = j := by
  rcases Nat.lt_trichotomy i j with h1 | h1 | h1
  · have := h.rise i j h1; omega
  · exact h1
  · have := h.rise j i h1; omega
theorem IsRow13.way {f : Nat → Int} {k : Nat} {E : List Pr} (h : IsRow13 f k E) : ∀ {r : List Int} {i : Nat} {b : Int}, i ≤ k → WayTo (InE E) (f i) r b → r = (List.range r.length).map (fun t => f (i + 1 + t)) ∧ b = f (i + r.length) ∧ i + r.length ≤ k
  | [], i, b, hi, hw => ⟨rfl, hw.symm, hi⟩
  | x :: r, i, b, hi, hw => by
    obtain ⟨h1, h2⟩ := hw
    obtain ⟨i', hi', e⟩ := (h.mem _).1 h1
    injection e with e1 e2
    obtain rfl := h.inj e1
    subst e2
    obtain ⟨k1, k2, k3⟩ := IsRow13.way h (i := i + 1) (by omega) h2
    refine ⟨?_, ?_, ?_⟩
    · rw [List.length_cons, List.range_succ_eq_map, List.map_cons, List.map_map]
      congr 1
      refine k1.trans ?_
      refine List.map_congr_left fun t _ => ?_
      show f (i + 1 + 1 + t) = f (i + 1 + (t + 1))
      congr 1
      omega
    · rw [k2, List.length_cons]
      congr 1
      omega
    · rw [List.length_cons]; omega
theorem IsRow13.lead {f : Nat → Int} {k : Nat} {E : List Pr} (h : IsRow13 f k E) {a b : Int} : Lead (InE E) a b ↔ ∃ i j, i < j ∧ j ≤ k ∧ a = f i ∧ b = f j := by
  constructor
  · intro hl
    obtain ⟨c, hc⟩ := hl.first
    obtain ⟨i, hi, e⟩ := (h.mem _).1 hc
    injection e with e1 e2
    subst e1
    obtain ⟨r, hr, hw⟩ := lead_wayTo hl
    obtain ⟨_, h2, h3⟩ := h.way (by omega) hw
    have := List.length_pos_iff.2 hr
    exact ⟨i, i + r.length, by omega, h3, rfl, h2⟩
  · rintro ⟨i, j, hij, hj, rfl, rfl⟩
    obtain ⟨d, rfl⟩ : ∃ d, j = i + 1 + d := ⟨j - i - 1, by omega⟩
    clear hij
    induction d with
    | zero => exact .one ((h.mem _).2 ⟨i, by omega, rfl⟩)
    | succ d ih => exact (ih (by omega)).snoc ((h.mem _).2 ⟨i + 1 + d, by omega, rfl⟩)
/-- All pairs of a row. -/
def rowS (f : Nat → Int) : Nat → List Pr
  | 0 => []
  | j + 1 => rowS f j ++ (List.range (j + 1)).map fun i => (f i, f (j + 1))
theorem rowS_len (f : Nat → Int) : ∀ k, (rowS f k).length * 2 = k * (k + 1)
  | 0 => rfl
  | k + 1 => by
    have ih := rowS_len f k
    rw [rowS, List.length_append, List.length_map, List.length_range, Nat.add_mul, ih]
    rw [Nat.mul_comm k (k + 1), ← Nat.mul_add]
theorem mem_rowS {f : Nat → Int} {p : Pr} : ∀ {k : Nat}, p ∈ rowS f k ↔ ∃ i j, i < j ∧ j ≤ k ∧ p = (f i, f j)
  | 0 => by
    constructor
    · intro h; cases h
    · rintro ⟨i, j, h1, h2, _⟩; omega
  | k + 1 => by
    rw [rowS, List.mem_append, mem_rowS, List.mem_map]
    constructor
    · rintro (⟨i, j, h1, h2, e⟩ | ⟨i, hi, e⟩)
      · exact ⟨i, j, h1, by omega, e⟩
      · exact ⟨i, k + 1, List.mem_range.1 hi, Nat.le_refl _, e.symm⟩
    · rintro ⟨i, j, h1, h2, e⟩
      by_cases h3 : j ≤ k
      · exact .inl ⟨i, j, h1, h3, e⟩
      · obtain rfl : j = k + 1 := by omega
        exact .inr ⟨i, List.mem_range.2 h1, e.symm⟩
theorem rowS_nodup {f : Nat → Int} (hf : ∀ i j, i < j → f i < f j) : ∀ k, (rowS f k).Nodup
  | 0 => .nil
  | k + 1 => by
    have hinj : ∀ i j, f i = f j → i = j := fun i j e => by
      rcases Nat.lt_trichotomy i j with h1 | h1 | h1
      · have := hf i j h1; omega
      · exact h1
      · have := hf j i h1; omega
    rw [rowS, List.nodup_append]
    refine ⟨rowS_nodup hf k, ?_, fun a ha b hb e => ?_⟩
    · rw [List.Nodup, List.pairwise_map]
      refine List.nodup_range.imp fun {a b} hne e => ?_
      injection e with e1 _
      exact hne (hinj _ _ e1)
    · obtain ⟨i, j, h1, h2, e1⟩ := mem_rowS.1 ha
      obtain ⟨i', _, e2⟩ := List.mem_map.1 hb
      rw [e1, ← e2] at e
      injection e with _ e3
      have := hinj _ _ e3
      omega
theorem IsRow13.clos {f : Nat → Int} {k : Nat} {E : List Pr} (h : IsRow13 f k E) : ClosOk E (rowS f k) :=
  ⟨rowS_nodup h.rise k, fun a b => by
    rw [mem_rowS, h.lead]
    constructor
    · rintro ⟨i, j, h1, h2, e⟩
      injection e with e1 e2
      exact ⟨i, j, h1, h2, e1, e2⟩
    · rintro ⟨i, j, h1, h2, e1, e2⟩
      exact ⟨i, j, h1, h2, by rw [e1, e2]⟩⟩
end Go.Proofs.Ytmldiojlglpoiaa
