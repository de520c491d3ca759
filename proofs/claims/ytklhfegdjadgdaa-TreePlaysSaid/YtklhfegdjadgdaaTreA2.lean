/- The blocks of a tree's bytes, plainly. -/
import Derived.Test.YtklhfegdjadgdaaTreA
namespace Go.Proofs.Ytklhfegdjadgdaa

def Bs.blk (r : Bs) : List Nat := (r.A.map fun a => a.block).toList
namespace Tn
def bys : Tn → List Nat
  | nil => []
  | node _ k x l r => k.blk ++ x.blk ++ l.bys ++ r.bys
theorem rotR_bys (t : Tn) : ∀ z ∈ t.rotR.bys, z ∈ t.bys := by
  unfold rotR
  split
  · intro z hz
    simp only [bys, List.mem_append] at hz ⊢
    rcases hz with ((h | h) | h) | (((h | h) | h) | h) <;> simp [h]
  · exact fun z hz => hz
theorem rotL_bys (t : Tn) : ∀ z ∈ t.rotL.bys, z ∈ t.bys := by
  unfold rotL
  split
  · intro z hz
    simp only [bys, List.mem_append] at hz ⊢
    rcases hz with ((h | h) | (((h | h) | h) | h)) | h <;> simp [h]
  · exact fun z hz => hz
theorem bal_bys (t : Tn) : ∀ z ∈ t.bal.bys, z ∈ t.bys := by
  cases t with
  | nil => exact fun z hz => hz
  | node b k x l r =>
    intro z hz
    simp only [bal] at hz
    split at hz
    · have h1 := rotR_bys _ z hz
      simp only [bys, List.mem_append] at h1 ⊢
      rcases h1 with ((h | h) | h) | h
      · exact .inl (.inl (.inl h))
      · exact .inl (.inl (.inr h))
      · refine .inl (.inr ?_)
        split at h
        · exact rotL_bys _ z h
        · exact h
      · exact .inr h
    · split at hz
      · have h1 := rotL_bys _ z hz
        simp only [bys, List.mem_append] at h1 ⊢
        rcases h1 with ((h | h) | h) | h
        · exact .inl (.inl (.inl h))
        · exact .inl (.inl (.inr h))
        · exact .inl (.inr h)
        · refine .inr ?_
          split at h
          · exact rotR_bys _ z h
          · exact h
      · exact hz
end Tn
theorem blk_new {r : Bs} {n : Nat} (h : ∀ a, r.A = some a → n ≤ a.block) : ∀ z ∈ r.blk, n ≤ z := by
  intro z hz
  unfold Bs.blk at hz
  cases hA : r.A with
  | none => rw [hA] at hz; simp at hz
  | some a => rw [hA] at hz; simp at hz; subst hz; exact h a hA
end Go.Proofs.Ytklhfegdjadgdaa
