/- What the document's Sorted wants: a list's two parts, the merge's steps. -/
import Derived.Test.YtgldcahhliokeaaJoBE
import Derived.Test.YtgldcahhliokeaaOrdM
import Derived.Test.YtgldcahhliokeaaJnC
namespace Go.Proofs.Ytgldcahhliokeaa
open Go.RowKit Go.Maps

theorem LV.Ok.part {w : World} {b o c : Nat} {ts : List TV} (h : LV.Ok w ⟨some ⟨b, o, none⟩, ts, c⟩) (k : Nat) (hk : k ≤ ts.length) : LV.Ok w ⟨some ⟨b, o, none⟩, ts.take k, c⟩ ∧ LV.Ok w ⟨some ⟨b, o + k, none⟩, ts.drop k, c - k⟩ := by
  have hc := h.cap
  have hs := h.sm
  dsimp only at hc hs
  refine ⟨⟨fun hn => ?_, fun t ht => h.ok t (List.mem_of_mem_take ht), by dsimp only; rw [List.length_take]; omega, by dsimp only; rw [List.length_take]; omega⟩, ⟨fun hn => ?_, fun t ht => h.ok t (List.mem_of_mem_drop ht), by dsimp only; rw [List.length_drop]; omega, by dsimp only; rw [List.length_drop]; omega⟩⟩
  · have hne : vals ts ≠ [] := fun e => hn (by have := congrArg List.length e; rw [vals_len] at this; dsimp only; have h0 : ts = [] := List.length_eq_zero_iff.1 this; rw [h0]; simp [vals])
    obtain ⟨b', o', e, hb, hcl⟩ := h.rd hne
    injection e with e
    injection e with e1 e2
    subst e1 e2
    refine ⟨b, o, rfl, hb, fun j u hu => hcl j u ?_⟩
    dsimp only at hu
    unfold vals at hu ⊢
    rw [List.map_take, List.getElem?_take] at hu
    split at hu
    · exact hu
    · cases hu
  · have hne : vals ts ≠ [] := fun e => hn (by have := congrArg List.length e; rw [vals_len] at this; dsimp only; have h0 : ts = [] := List.length_eq_zero_iff.1 this; rw [h0]; simp [vals])
    obtain ⟨b', o', e, hb, hcl⟩ := h.rd hne
    injection e with e
    injection e with e1 e2
    subst e1 e2
    refine ⟨b, o + k, rfl, hb, fun j u hu => ?_⟩
    dsimp only at hu
    unfold vals at hu hcl
    rw [List.map_drop, List.getElem?_drop] at hu
    rw [Nat.add_assoc]
    exact hcl (k + j) u hu
theorem mrg_drop_a {a : List Tu} {i : Nat} (h : i < a.length) : mrg2 (a.drop i) [] = a[i] :: mrg2 (a.drop (i + 1)) [] := by
  rw [mrg2_nil_right, mrg2_nil_right, List.drop_eq_getElem_cons h]
theorem mrg_drop_b {b : List Tu} {k : Nat} (h : k < b.length) : mrg2 [] (b.drop k) = b[k] :: mrg2 [] (b.drop (k + 1)) := by
  rw [mrg2_nil_left, mrg2_nil_left, List.drop_eq_getElem_cons h]
theorem mrg_drop {a b : List Tu} {i k : Nat} (h : i < a.length) (h' : k < b.length) : mrg2 (a.drop i) (b.drop k) = if cmpI a[i] b[k] < 0 then a[i] :: mrg2 (a.drop (i + 1)) (b.drop k) else if cmpI a[i] b[k] = 0 then mrg2 (a.drop (i + 1)) (b.drop k) else b[k] :: mrg2 (a.drop i) (b.drop (k + 1)) := by
  rw [List.drop_eq_getElem_cons h, List.drop_eq_getElem_cons h', mrg2_cons, ← List.drop_eq_getElem_cons h, ← List.drop_eq_getElem_cons h']
end Go.Proofs.Ytgldcahhliokeaa
