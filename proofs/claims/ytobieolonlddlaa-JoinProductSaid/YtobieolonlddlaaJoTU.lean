/- TupU, what this seat can fill of it. -/
import Derived.Test.YtobieolonlddlaaJoTT
namespace Go.Proofs.Ytobieolonlddlaa
/- What the laws of this layer share: few of some lists. -/
open Go.RowKit Go.Maps

theorem fewB_mem {ls : List LV} (h : fewB ls = true) {x : LV} (hx : x ∈ ls) : fewL x = true := List.all_eq_true.1 h x hx
theorem de_fix {w' : World} {lo m : Nat} {x y : LV} (p1 : OwnL w' lo x.val x.ts) (p3 : LtB x m) (p4 : lo ≤ m) (p5 : OwnL w' m y.val y.ts) (h : lo ≤ w'.heap.size) : ∃ k, LtB x k ∧ lo ≤ k ∧ OwnL w' k y.val y.ts ∧ k ≤ w'.heap.size := by
  have q := p1.lt
  refine ⟨min m w'.heap.size, ⟨fun a ha => ?_, fun t ht a ha => ?_⟩, by omega, p5.mono (Nat.min_le_left _ _), Nat.min_le_right _ _⟩
  · have := p3.1 a ha
    have := q.1 a ha
    omega
  · have := p3.2 t ht a ha
    have := q.2 t ht a ha
    omega
end Go.Proofs.Ytobieolonlddlaa
