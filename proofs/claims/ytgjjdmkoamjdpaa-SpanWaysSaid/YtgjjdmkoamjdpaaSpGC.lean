/- SpGC, what this seat can fill of it. -/
import Derived.Test.YtgjjdmkoamjdpaaJnI
namespace Go.Proofs.Ytgjjdmkoamjdpaa
/- The document's Span. -/
open Go.RowKit Go.Maps Go.Sort

/-- Where Span is. -/
structure SpJ (E S : List Pr) (i j : Nat) : Prop where
  nd : S.Nodup
  ld : ∀ a b, (a, b) ∈ S → Lead (InE E) a b
  ed : ∀ e ∈ E, e ∈ S
  cl : ∀ p ∈ S.take i, ∀ e ∈ E, e.2 = p.1 → (e.1, p.2) ∈ S
  cj : ∀ p, S[i]? = some p → ∀ e ∈ E.take j, e.2 = p.1 → (e.1, p.2) ∈ S
theorem SpJ.start {E : List Pr} (h : E.Nodup) : SpJ E E 0 0 := ⟨h, fun _ _ h => .one h, fun _ h => h, by simp, by simp⟩
theorem SpJ.len {E S : List Pr} {i j : Nat} (h : SpJ E S i j) (hE : E.length ≤ 30) : S.length ≤ 900 := by
  have h1 : (S.map tupOf).length ≤ (spanL E).length := nodup_len (tups_nodup h.nd) fun t ht => by
    obtain ⟨⟨a, b⟩, hp, rfl⟩ := List.mem_map.1 ht
    exact mem_spanL.2 ⟨a, b, rfl, h.ld a b hp⟩
  rw [List.length_map] at h1
  exact Nat.le_trans h1 (Nat.le_trans (spanL_few E) (Nat.le_trans (Nat.mul_le_mul hE hE) (by omega)))
theorem SpJ.keep {E S : List Pr} {i j : Nat} {p : Pr} (h : SpJ E S i j) (hj : j < E.length) (hi : S[i]? = some p) (hk : E[j].2 = p.1 → (E[j].1, p.2) ∈ S) : SpJ E S i (j + 1) :=
  ⟨h.nd, h.ld, h.ed, h.cl, fun q hq e he hep => by
    rw [hi] at hq
    cases hq
    rcases (mem_take_succ hj e).1 he with h1 | rfl
    · exact h.cj p hi e h1 hep
    · exact hk hep⟩
theorem SpJ.more {E S : List Pr} {i j : Nat} {p : Pr} (h : SpJ E S i j) (hj : j < E.length) (hi : S[i]? = some p) (he : E[j].2 = p.1) (hn : (E[j].1, p.2) ∉ S) : SpJ E (S ++ [(E[j].1, p.2)]) i (j + 1) := by
  have hil : i < S.length := (List.getElem?_eq_some_iff.1 hi).1
  have hup : ∀ q, q ∈ S → q ∈ S ++ [(E[j].1, p.2)] := fun q hq => List.mem_append.2 (.inl hq)
  refine ⟨?_, ?_, fun e h1 => hup e (h.ed e h1), fun q hq e h1 h2 => hup _ (h.cl q (by rwa [List.take_append_of_le_length (by omega)] at hq) e h1 h2), fun q hq e h1 h2 => ?_⟩
  · rw [List.nodup_append]
    exact ⟨h.nd, by simp, fun a ha b hb => by rw [List.mem_singleton.1 hb]; rintro rfl; exact hn ha⟩
  · intro a b hab
    rcases List.mem_append.1 hab with h1 | h1
    · exact h.ld a b h1
    · have h2 := List.mem_singleton.1 h1
      have h3 := Prod.mk.inj h2
      rw [h3.1, h3.2]
      refine .cons (b := E[j].2) (List.getElem_mem hj) ?_
      rw [he]
      exact h.ld _ _ (List.mem_of_getElem? hi)
  · rw [List.getElem?_append_left hil, hi] at hq
    cases hq
    rcases (mem_take_succ hj e).1 h1 with h3 | rfl
    · exact hup _ (h.cj p hi e h3 h2)
    · exact List.mem_append.2 (.inr (List.mem_singleton.2 rfl))
theorem SpJ.next {E S : List Pr} {i : Nat} (h : SpJ E S i E.length) (hi : i < S.length) : SpJ E S (i + 1) 0 :=
  ⟨h.nd, h.ld, h.ed, fun p hp e he hep => by
    rcases (mem_take_succ hi p).1 hp with h1 | rfl
    · exact h.cl p h1 e he hep
    · exact h.cj _ (List.getElem?_eq_getElem hi) e (by rwa [List.take_of_length_le (Nat.le_refl _)]) hep, by simp⟩
theorem SpJ.done {E S : List Pr} {i j : Nat} (h : SpJ E S i j) (hi : S.length ≤ i) : ClosOk E S :=
  clos_of h.nd h.ld h.ed fun e he p hp hep => h.cl p (by rwa [List.take_of_length_le hi]) e he hep
theorem PrRow.drewN {lo : Nat} {w : World} {v : Value} {l : List Pr} (h : PrRow lo w v l) (n : Nat) : PrRow lo (w.drewN n) v l := h.kept (Below.drewN' (Below.refl _ _) n)
theorem PrRow.lit0 (w : World) : PrRow w.heap.size (w.alloc (.cells #[] 49)) (.slice (some ⟨w.heap.size, 0, none⟩) 0 0) [] := own_lit0 w (Nat.le_refl _)
/-- What Span answers. -/
def RsPost (w : World) (E : List Pr) (e : Ending) (w' : World) : Prop := ∃ A c S, e = .returned (.slice A S.length c) ∧ Prs w' A c S ∧ ClosOk E S ∧ S.length ≤ 900 ∧ Below w.heap.size w w'
end Go.Proofs.Ytgjjdmkoamjdpaa
