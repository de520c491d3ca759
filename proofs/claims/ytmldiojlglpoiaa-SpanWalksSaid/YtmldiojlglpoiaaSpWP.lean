/- What SpanWalks wants plainly: who is in a ring; a way's steps. -/
import Derived.Test.YtmldiojlglpoiaaJnK
namespace Go.Proofs.Ytmldiojlglpoiaa

theorem ring_mem {E S : List Pr} (h : ClosOk E S) (a : Int) : (∃ l ∈ ringsR S, a ∈ l) ↔ (a, a) ∈ S := by
  constructor
  · rintro ⟨l, hl, ha⟩
    obtain ⟨b, _, rfl⟩ := List.mem_map.1 hl
    exact (mem_ringOf.1 ha).1
  · intro haa
    have hin : a ∈ ringOf S a := mem_ringOf.2 ⟨haa, haa, haa⟩
    rcases hr : ringOf S a with _ | ⟨d, r⟩
    · rw [hr] at hin; cases hin
    · have hd : d ∈ ringOf S a := by rw [hr]; exact List.mem_cons_self ..
      obtain ⟨d1, d2, d3⟩ := mem_ringOf.1 hd
      have hsame : ∀ b, b ∈ ringOf S d ↔ b ∈ ringOf S a := fun b => by
        rw [mem_ringOf, mem_ringOf]
        constructor
        · rintro ⟨h1, h2, h3⟩
          exact ⟨h1, h.go d2 h2, h.go h3 d3⟩
        · rintro ⟨h1, h2, h3⟩
          exact ⟨h1, h.go d3 h2, h.go h3 d2⟩
      have hris := ris_ringOf S a
      rw [hr] at hris
      have hp := List.pairwise_cons.1 hris
      refine ⟨ringOf S d, List.mem_map.2 ⟨d, List.mem_filter.2 ⟨mem_loopsR.2 d1, ?_⟩, rfl⟩, (hsame a).2 hin⟩
      unfold headR
      refine decide_eq_true fun b hb => ?_
      have hb2 := (hsame b).1 hb
      rw [hr] at hb2
      rcases List.mem_cons.1 hb2 with rfl | hb2
      · exact Int.le_refl _
      · have := hp.1 b hb2; omega
def anyB (rows : List Tu) (a : Int) : Bool := rows.any fun l => decide (a ∈ l)
theorem anyB_take {rows : List Tu} {k : Nat} (h : k < rows.length) (a : Int) : anyB (rows.take (k + 1)) a = (anyB (rows.take k) a || decide (a ∈ rows[k])) := by
  unfold anyB
  rw [List.take_succ_eq_append_getElem h, List.any_append]
  simp
theorem anyB_ring {E S : List Pr} (h : ClosOk E S) (a : Int) : anyB (ringsR S) a = hasL (spanL E) [a, a] := by
  rw [Bool.eq_iff_iff, hasL_iff]
  unfold anyB
  rw [List.any_eq_true]
  have e : (∃ x, x ∈ ringsR S ∧ decide (a ∈ x) = true) ↔ (a, a) ∈ S := by
    rw [← ring_mem h a]
    constructor
    · rintro ⟨l, h1, h2⟩; exact ⟨l, h1, of_decide_eq_true h2⟩
    · rintro ⟨l, h1, h2⟩; exact ⟨l, h1, decide_eq_true h2⟩
  rw [e, h.mem, mem_spanL]
  constructor
  · exact fun hl => ⟨a, a, rfl, hl⟩
  · rintro ⟨x, y, e, hl⟩
    injection e with e1 e2
    injection e2 with e2 _
    rw [← e1, ← e2] at hl
    exact hl
theorem has_lead {E : List Pr} (a b : Int) : hasL (spanL E) [a, b] = true ↔ Lead (InE E) a b := by
  rw [hasL_iff, mem_spanL]
  constructor
  · rintro ⟨x, y, e, hl⟩
    injection e with e1 e2
    injection e2 with e2 _
    rw [← e1, ← e2] at hl
    exact hl
  · exact fun hl => ⟨a, b, rfl, hl⟩
theorem decMem_take {l : List Int} {j : Nat} (h : j < l.length) (a : Int) : decide (a ∈ l.take (j + 1)) = (decide (a ∈ l.take j) || decide (l[j] = a)) := by
  rw [List.take_succ_eq_append_getElem h, Bool.eq_iff_iff, Bool.or_eq_true, decide_eq_true_eq, decide_eq_true_eq, decide_eq_true_eq, List.mem_append, List.mem_singleton]
  constructor
  · rintro (h | h)
    · exact .inl h
    · exact .inr h.symm
  · rintro (h | h)
    · exact .inl h
    · exact .inr h.symm
theorem way_last {R : Int → Int → Prop} : ∀ {a b : Int} {r : List Int}, WayTo R a r b → (a :: r)[r.length]'(by simp) = b
  | a, b, [], h => h
  | a, b, x :: r, h => by
    have := way_last h.2
    simpa using this
theorem way_at {R : Int → Int → Prop} : ∀ {a b : Int} {r : List Int}, WayTo R a r b → ∀ (i : Nat) (hi : i < r.length), R ((a :: r)[i]'(by simp; omega)) ((a :: r)[i + 1]'(by simpa using hi))
  | a, b, [], _, i, hi => by simp at hi
  | a, b, x :: r, h, 0, _ => by simpa using h.1
  | a, b, x :: r, h, i + 1, hi => by
    have := way_at h.2 i (by simpa using hi)
    simpa using this
def sameE (e : Ed) (x : Int) (lab : Nm) (y : Int) : Bool := decide (e.f = x) && decide (e.lab = lab) && decide (e.t = y)
def thereB (es : List Ed) (x : Int) (lab : Nm) (y : Int) : Bool := es.any fun e => sameE e x lab y
theorem thereB_take {es : List Ed} {k : Nat} (h : k < es.length) (x : Int) (lab : Nm) (y : Int) : thereB (es.take (k + 1)) x lab y = (thereB (es.take k) x lab y || sameE es[k] x lab y) := by
  unfold thereB
  rw [List.take_succ_eq_append_getElem h, List.any_append]
  simp
theorem thereB_yes {es : List Ed} {lab : Nm} {x y : Int} (h : InE (prsL lab es) x y) : thereB es x lab y = true := by
  obtain ⟨e, h1, h2, h3, h4⟩ := mem_prsL.1 h
  unfold thereB
  rw [List.any_eq_true]
  refine ⟨e, h1, ?_⟩
  unfold sameE
  rw [decide_eq_true h2, decide_eq_true h3, decide_eq_true h4]
  rfl
end Go.Proofs.Ytmldiojlglpoiaa
