/- What the laws' fixed examples come to, plainly: awake; a row and edges that don't meet. -/
import Derived.Test.YtgjjdmkoamjdpaaJnG
namespace Go.Proofs.Ytgjjdmkoamjdpaa

def awE : List Pr := [(1, 2), (2, 3), (3, 2)]
def awS : List Pr := [(1, 2), (2, 3), (3, 2), (1, 3), (2, 2), (3, 3)]
theorem aw_clos : ClosOk awE awS := by
  have e1 : InE awE 1 2 := by unfold InE; decide
  have e2 : InE awE 2 3 := by unfold InE; decide
  have e3 : InE awE 3 2 := by unfold InE; decide
  refine clos_of (by decide) (fun a b h => ?_) (by decide) (by decide)
  simp only [awS, List.mem_cons, List.not_mem_nil, or_false, Prod.mk.injEq] at h
  rcases h with ⟨rfl, rfl⟩ | ⟨rfl, rfl⟩ | ⟨rfl, rfl⟩ | ⟨rfl, rfl⟩ | ⟨rfl, rfl⟩ | ⟨rfl, rfl⟩
  · exact .one e1
  · exact .one e2
  · exact .one e3
  · exact .cons e1 (.one e2)
  · exact .cons e2 (.one e3)
  · exact .cons e3 (.one e2)
theorem aw_len : (spanL awE).length = 6 := (spanL_clos aw_clos).2
theorem aw_rings {S : List Pr} (h : ClosOk awE S) : ringsR S = [[2, 3]] := by
  rw [ringsR_clos h aw_clos]
  decide +kernel
theorem aw_in {a b : Int} (h : InE awE a b) : (a = 1 ∧ b = 2) ∨ (a = 2 ∧ b = 3) ∨ (a = 3 ∧ b = 2) := by
  unfold InE at h
  simpa only [awE, List.mem_cons, List.not_mem_nil, or_false, Prod.mk.injEq] using h
theorem aw_way {r : List Int} (h : FirstWay (InE awE) 2 r 2) : r = [3, 2] := by
  have e2 : InE awE 2 3 := by unfold InE; decide
  have e3 : InE awE 3 2 := by unfold InE; decide
  have hl := h.least [3, 2] (by simp) ⟨e2, e3, rfl⟩
  have hw := h.way
  match r, h.ne, hw with
  | [x], _, ⟨h1, h2⟩ =>
    have hx : x = 2 := h2
    subst hx
    have := aw_in h1
    omega
  | [x, y], _, ⟨h1, h2, h3⟩ =>
    have hy : y = 2 := h3
    subst hy
    have := aw_in h1
    obtain rfl : x = 3 := by omega
    rfl
  | x :: y :: z :: r, _, _ =>
    simp at hl
    omega
theorem aw_lead : Lead (InE awE) 2 2 := (aw_clos.mem 2 2).1 (by decide)
/-- Edges that don't meet, and a row. -/
def apE (g : Nat → Int) (m : Nat) : List Pr := (List.range m).map fun i => (g i, g i + 1)
theorem great_lead {f g : Nat → Int} {k m : Nat} {E F : List Pr} (h : IsRow13 f k F) (hE : ∀ p, p ∈ E ↔ p ∈ F ∨ p ∈ apE g m) (hg : ∀ i j, i < j → g i + 1 < g j) (hfg : ∀ i j, i ≤ k → f i < g j) {a b : Int} :
    Lead (InE E) a b ↔ (a, b) ∈ rowS f k ∨ (a, b) ∈ apE g m := by
  have hmF : ∀ i, i < k → (f i, f (i + 1)) ∈ F := fun i hi => (h.mem _).2 ⟨i, hi, rfl⟩
  have hgi : ∀ i j, g i = g j → i = j := fun i j e => by
    rcases Nat.lt_trichotomy i j with h1 | h1 | h1
    · have := hg i j h1; omega
    · exact h1
    · have := hg j i h1; omega
  have hgn : ∀ i j, g i + 1 ≠ g j := fun i j e => by
    rcases Nat.lt_trichotomy i j with h1 | h1 | h1
    · have := hg i j h1; omega
    · subst h1; omega
    · have := hg j i h1; omega
  have hap : ∀ {x y : Int}, (x, y) ∈ apE g m → ∃ i, i < m ∧ x = g i ∧ y = g i + 1 := fun {x y} hm => by
    obtain ⟨i, hi, e⟩ := List.mem_map.1 hm
    injection e with e1 e2
    exact ⟨i, List.mem_range.1 hi, e1.symm, e2.symm⟩
  constructor
  · intro hl
    induction hl with
    | one h1 =>
      rcases (hE _).1 h1 with h1 | h1
      · exact .inl ((h.clos.mem _ _).2 (.one h1))
      · exact .inr h1
    | cons h1 hl ih =>
      rename_i a c b
      rcases (hE _).1 h1 with h1 | h1
      · rcases ih with ih | ih
        · exact .inl ((h.clos.mem _ _).2 (.cons h1 ((h.clos.mem _ _).1 ih)))
        · obtain ⟨i, _, e1, _⟩ := hap ih
          obtain ⟨j, hj, e⟩ := (h.mem _).1 h1
          injection e with _ e2
          have := hfg (j + 1) i (by omega)
          omega
      · obtain ⟨i, _, e1, e2⟩ := hap h1
        rcases ih with ih | ih
        · obtain ⟨i', j', h1', h2', e⟩ := mem_rowS.1 ih
          injection e with e3 _
          have := hfg i' i (by omega)
          omega
        · obtain ⟨j, _, e3, _⟩ := hap ih
          exact absurd (by omega) (hgn i j)
  · rintro (hm | hm)
    · exact ((h.clos.mem _ _).1 hm).mono fun x y hxy => (hE _).2 (.inl hxy)
    · exact .one ((hE _).2 (.inr hm))
theorem great_clos {f g : Nat → Int} {k m : Nat} {E F : List Pr} (h : IsRow13 f k F) (hE : ∀ p, p ∈ E ↔ p ∈ F ∨ p ∈ apE g m) (hg : ∀ i j, i < j → g i + 1 < g j) (hfg : ∀ i j, i ≤ k → f i < g j) : ClosOk E (rowS f k ++ apE g m) := by
  refine ⟨?_, fun a b => by rw [List.mem_append]; exact (great_lead h hE hg hfg).symm⟩
  rw [List.nodup_append]
  refine ⟨rowS_nodup h.rise k, ?_, fun a ha b hb e => ?_⟩
  · unfold apE
    rw [List.Nodup, List.pairwise_map]
    refine List.nodup_range.imp fun {a b} hne e => ?_
    injection e with e1 _
    rcases Nat.lt_trichotomy a b with h1 | h1 | h1
    · have := hg a b h1; omega
    · exact hne h1
    · have := hg b a h1; omega
  · subst e
    obtain ⟨i', j', h1', h2', e⟩ := mem_rowS.1 ha
    obtain ⟨i, _, e2⟩ := List.mem_map.1 hb
    rw [e] at e2
    injection e2 with e3 _
    have := hfg i' i (by omega)
    omega
end Go.Proofs.Ytgjjdmkoamjdpaa
