/- A test of all that a list has, step by step. -/
import Derived.Test.YtgldcahhliokeaaJoBE
namespace Go.Proofs.Ytgldcahhliokeaa
open Go.RowKit Go.Maps

theorem all_take {α : Type} {l : List α} {p : α → Bool} {k : Nat} (h : k < l.length) : (l.take (k + 1)).all p = ((l.take k).all p && p l[k]) := by
  rw [List.take_succ_eq_append_getElem h, List.all_append]
  simp
theorem all_part {α : Type} {l : List α} {p : α → Bool} {k : Nat} (h : k < l.length) (hp : p l[k] = false) : l.all p = false := by
  rw [Bool.eq_false_iff]
  intro h1
  rw [List.all_eq_true] at h1
  have := h1 _ (List.getElem_mem h)
  rw [hp] at this
  cases this
end Go.Proofs.Ytgldcahhliokeaa
