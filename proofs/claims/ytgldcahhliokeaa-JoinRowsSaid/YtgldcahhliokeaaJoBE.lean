/- JoinMore: how it begins. -/
import Derived.Test.YtgldcahhliokeaaJoBD
import Derived.Test.YtgldcahhliokeaaJoBB
import Derived.Test.YtgldcahhliokeaaJoAB
namespace Go.Proofs.Ytgldcahhliokeaa
open Go.RowKit Go.Maps

/-- The view's box and an edge's box: what a world that keeps them reads there. -/
theorem boxes_at (W : World) (o1 o2 : Obj) : ((W.alloc o1).alloc o2).heap[W.heap.size]? = some o1 ∧ ((W.alloc o1).alloc o2).heap[W.heap.size + 1]? = some o2 ∧ Below W.heap.size W ((W.alloc o1).alloc o2) := by
  have h := two_new W o1 o2
  refine ⟨keepA (newA rfl), h.2, ?_⟩
  exact ((Below.refl _ _).alloc (Nat.le_refl _) o1).alloc (by simp) o2
theorem box5 {w : World} {b : Nat} {a0 a1 a2 a3 a4 : Value} {t : TypeId} (h : w.heap[b]? = some (.cells #[a0, a1, a2, a3, a4] t (0, 0))) : w.cell? ⟨b, 0, none⟩ = some a0 ∧ w.cell? ⟨b, 1, none⟩ = some a1 ∧ w.cell? ⟨b, 2, none⟩ = some a2 ∧ w.cell? ⟨b, 3, none⟩ = some a3 ∧ w.cell? ⟨b, 4, none⟩ = some a4 :=
  ⟨cell_of_row w b 0 _ _ _ h, cell_of_row w b 1 _ _ _ h, cell_of_row w b 2 _ _ _ h, cell_of_row w b 3 _ _ _ h, cell_of_row w b 4 _ _ _ h⟩
theorem box3 {w : World} {b : Nat} {a0 a1 a2 : Value} {t : TypeId} (h : w.heap[b]? = some (.cells #[a0, a1, a2] t (0, 0))) : w.cell? ⟨b, 0, none⟩ = some a0 ∧ w.cell? ⟨b, 1, none⟩ = some a1 ∧ w.cell? ⟨b, 2, none⟩ = some a2 :=
  ⟨cell_of_row w b 0 _ _ _ h, cell_of_row w b 1 _ _ _ h, cell_of_row w b 2 _ _ _ h⟩
theorem rows_snoc (x : VW) (A : Option Addr) (c : Nat) (l : List Ed) (m : Ed) (w : World) (hx : x.Ok w) (he : Eds w A c (l ++ [m])) :
    Calls Try.prog 14 #[.agg (vwA x), .slice A (l.length + 1) c] w (RoPost w (rowsC x.v (l ++ [m])) (rowsR x.v (l ++ [m]))) := by
  have h := rows_any x A c (l ++ [m]) w hx he
  rw [snoc_len] at h
  exact h
theorem eds_of_row {lo : Nat} {w : World} {A : Option Addr} {c : Nat} {l : List Ed} {m : Ed} (h : w.ownsRow lo 61 3 (.slice A (l.length + 1) c) (l.length + 1) (edsC (l ++ [m]))) (hk : (∀ e ∈ l, e.Ok) ∧ m.Ok ∧ l.length ≤ 25) (_ : l.length ≤ 1000) : Eds w A c (l ++ [m]) := by
  obtain ⟨A', c', e, h1, h2, h3⟩ := own_shape h
  injection e with e1 e2 e3
  subst e1 e3
  refine ⟨h3, by rw [snoc_len]; exact h1, fun e he => ?_, by rw [snoc_len]; have := hk.2.2; omega⟩
  rcases List.mem_append.1 he with he | he
  · exact hk.1 e he
  · rw [List.mem_singleton.1 he]; exact hk.2.1
theorem fits_facts {x : VW} {n : Nat} (h : fitsB x n = true) : n ≤ 25 ∧ x.v.atoms.length ≤ 12 ∧ x.v.out.length ≤ 12 := by
  unfold fitsB at h
  simp only [Bool.and_eq_true, decide_eq_true_eq] at h
  exact ⟨h.1, h.2.1, h.2.2⟩
/-- Where a row's number for a name has been looked for among the first k names. -/
def atI (vs : List Nm) (r : Tu) (s : Nm) (k : Nat) : Int := if vs.idxOf s < k then r.getD (vs.idxOf s) 0 else 0
theorem atI_zero (vs : List Nm) (r : Tu) (s : Nm) : atI vs r s 0 = 0 := if_neg (Nat.not_lt_zero _)
theorem atI_yes {vs : List Nm} {r : Tu} {s : Nm} {k : Nat} (hn : vs.Nodup) (hk : k < vs.length) (h : vs[k] = s) : atI vs r s (k + 1) = r.getD k 0 := by
  have e : vs.idxOf s = k := by
    have h1 := List.getElem_idxOf (List.idxOf_lt_length_iff.2 (h ▸ List.getElem_mem hk))
    exact (List.getElem_inj hn).1 (h1.trans h.symm)
  unfold atI
  rw [e, if_pos (Nat.lt_succ_self k)]
theorem atI_no {vs : List Nm} {r : Tu} {s : Nm} {k : Nat} (hk : k < vs.length) (h : vs[k] ≠ s) : atI vs r s (k + 1) = atI vs r s k := by
  have e : vs.idxOf s ≠ k := fun e => by
    subst e
    exact h (List.getElem_idxOf hk)
  unfold atI
  by_cases h1 : vs.idxOf s < k
  · rw [if_pos h1, if_pos (by omega)]
  · rw [if_neg h1, if_neg (by omega)]
theorem atI_all {vs : List Nm} {r : Tu} {s : Nm} (h : r.length = vs.length) : atI vs r s vs.length = r.getD (vs.idxOf s) 0 := by
  unfold atI
  by_cases h1 : vs.idxOf s < vs.length
  · rw [if_pos h1]
  · rw [if_neg h1, List.getD_eq_getElem?_getD, List.getElem?_eq_none (by omega)]; rfl
theorem any_take {α : Type} {l : List α} {p : α → Bool} {k : Nat} (h : k < l.length) : (l.take (k + 1)).any p = ((l.take k).any p || p l[k]) := by
  rw [List.take_succ_eq_append_getElem h, List.any_append]
  simp
end Go.Proofs.Ytgldcahhliokeaa
