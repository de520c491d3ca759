/- The span as a list, plainly. -/
import Derived.Test.YtmldiojlglpoiaaJnG
import Derived.Test.YtmldiojlglpoiaaJnA
namespace Go.Proofs.Ytmldiojlglpoiaa

/-- Tuples of all nodes that lead to nodes, in the order of tuples. -/
noncomputable def spanL (E : List Pr) : List Tu := by
  classical exact setL ((E.flatMap fun e => E.map fun d => (e.1, d.2)).filterMap fun z => if Lead (InE E) z.1 z.2 then some [z.1, z.2] else none)
theorem mem_spanL {E : List Pr} {t : Tu} : t ∈ spanL E ↔ ∃ a b, t = [a, b] ∧ Lead (InE E) a b := by
  classical
  unfold spanL
  rw [mem_set, List.mem_filterMap]
  constructor
  · rintro ⟨⟨a, b⟩, _, h⟩
    dsimp only at h
    split at h
    · next hl =>
      injection h with h
      exact ⟨a, b, h.symm, hl⟩
    · cases h
  · rintro ⟨a, b, rfl, hl⟩
    obtain ⟨c, hc⟩ := hl.first
    obtain ⟨d, hd⟩ := hl.last
    refine ⟨(a, b), List.mem_flatMap.2 ⟨(a, c), hc, List.mem_map.2 ⟨(d, b), hd, rfl⟩⟩, ?_⟩
    dsimp only
    rw [if_pos hl]
theorem ris_spanL (E : List Pr) : Ris (spanL E) := by
  unfold spanL
  exact ris_set _
theorem nodup_spanL (E : List Pr) : (spanL E).Nodup := (ris_spanL E).imp fun {a b} h e => by subst e; rw [cmpI_refl] at h; omega
end Go.Proofs.Ytmldiojlglpoiaa
