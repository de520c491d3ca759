/- TupS, what this seat can fill of it. -/
import Derived.ProofKit
import Derived.SizedLaws
import Derived.Deep.Slices
import Derived.Deep.Grids
import Derived.ChangeSame
import Derived.OpenShut
import Derived.Test.YtobieolonlddlaaJoTR
namespace Go.Proofs.Ytobieolonlddlaa
/- Tuples, lists of them and deltas among the arguments, opened. -/
open Go.ChangeShapes Go.WideShapes Go.ChangeAt Go.RowKit Go.Deep
set_option maxRecDepth 100000

/-- A tuple of whatever length. -/
def TV.Raw (w : World) (t : TV) : Prop := Rd w w.heap.size t.A (intsV t.l) ∧ t.l.length ≤ t.c
theorem rd_addr {W : World} {x : Addr} {xs : List Value} (hcc : ∀ j u, xs[j]? = some u → W.cell? (x.add j) = some u) : Rd W W.heap.size (some x) xs := by
  by_cases hb : x.block < W.heap.size
  · exact Rd.ofAddr hb hcc
  · intro hn
    obtain ⟨y, r, hyr⟩ := List.exists_cons_of_ne_nil hn
    have := hcc 0 y (by rw [hyr]; rfl)
    have h2 := World.block_lt_of_cell? W _ this
    simp [Addr.add] at h2
    omega
theorem tuple_trod {H : Type} {enc : TypeId × Value → H} {W : World} {fuel : Nat} {v : Value} {y : DataW H × List MemPlace}
    (hf : DataW.trod enc Try.prog W 0 (fun _ => true) true fuel 43 [v] = some y) : ∃ t : TV, v = t.val ∧ t.Raw W := by
  rcases open_ints Try.underlying43 Try.underlying3 (by kernel_rfl) hf with ⟨hcs, _⟩ | ⟨x, len0, cap0, zs, hcs, _, hl, hm, hz, hx, hcell, hwz⟩
  · simp only [List.cons.injEq, and_true] at hcs
    subst hcs
    exact ⟨⟨none, [], 0⟩, rfl, Rd.emp _ _ _, Nat.le_refl _⟩
  · simp only [List.cons.injEq, and_true] at hcs
    subst hcs
    simp only [if_true] at hz
    have hll : (zs.take len0).length = len0 := by rw [List.length_take]; omega
    refine ⟨⟨some x, zs.take len0, cap0⟩, by unfold TV.val; rw [hll], rd_addr fun j u hu => ?_, by show (zs.take len0).length ≤ cap0; omega⟩
    have hj : j < (intsV (zs.take len0)).length := (List.getElem?_eq_some_iff.1 hu).1
    rw [intsV_len, hll] at hj
    rw [hcell j (by omega), ← hu]
    simp [intsV, hj, List.getElem?_eq_getElem (show j < zs.length by omega)]
theorem choose_rows {α : Type} [Inhabited α] {p : Nat → α → Prop} (m : Nat) (h : ∀ i, i < m → ∃ q, p i q) : ∃ L : List α, L.length = m ∧ ∀ i (hi : i < L.length), p i L[i] := by
  obtain ⟨f, hf⟩ := choose_lt h
  refine ⟨(List.range m).map f, by simp, fun i hi => ?_⟩
  simp only [List.getElem_map, List.getElem_range]
  exact hf i (by simpa using hi)
theorem tuples_trod {H : Type} {enc : TypeId × Value → H} {W : World} {fuel : Nat} {v : Value} {y : DataW H × List MemPlace}
    (hf : DataW.trod enc Try.prog W 0 (fun _ => true) true fuel 30 [v] = some y) : ∃ x : LV, v = .slice x.A x.ts.length x.c ∧ x.Raw W := by
  rcases open_slice1 Try.underlying30 (by kernel_rfl) hf with ⟨hcs, _⟩ | ⟨x, len, cap, m, n, V, D, Pl, hcs, _, hl, hm, hmm, hx, hel⟩
  · simp only [List.cons.injEq, and_true] at hcs
    subst hcs
    exact ⟨⟨none, [], 0⟩, rfl, Rd.emp _ _ _, fun _ h => (nomatch h), Nat.le_refl _⟩
  · simp only [List.cons.injEq, and_true] at hcs
    subst hcs
    simp only [if_true] at hmm
    subst hmm
    have hel2 : ∀ i, i < len → ∃ q : TV, V i = q.val ∧ q.Raw W := fun i hi => tuple_trod (hel i (by omega)).2
    obtain ⟨L, hL, hk⟩ := choose_rows len hel2
    subst hL
    refine ⟨⟨some x, L, m⟩, rfl, rd_addr fun j u hu => ?_, fun t ht => ?_, hl⟩
    · have hj : j < L.length := by have := (List.getElem?_eq_some_iff.1 hu).1; rw [vals_len] at this; exact this
      rw [(hel j (by omega)).1, ← hu, (hk j hj).1]
      simp [vals, hj]
    · obtain ⟨i, hi, rfl⟩ := List.mem_iff_getElem.1 ht
      exact (hk i hi).2
theorem open_tuple {H : Type} {enc : TypeId × Value → H} {W : World} {base : Nat} {v : Value} {d : DataW H} {p : List MemPlace} (hv : Value.okWide Try.prog W .any base 43 v)
    (h : DataW.Trod enc Try.prog W 0 (fun _ => true) true 43 v d p) : ∃ t : TV, v = .slice t.A t.l.length t.c ∧ t.Raw W := by
  obtain ⟨a0, len0, cap0, rfl⟩ := okWide_slice Try.underlying43 hv
  obtain ⟨fuel, hf⟩ := h
  exact tuple_trod hf
theorem open_tuples {H : Type} {enc : TypeId × Value → H} {W : World} {base : Nat} {v : Value} {d : DataW H} {p : List MemPlace} (hv : Value.okWide Try.prog W .any base 30 v)
    (h : DataW.Trod enc Try.prog W 0 (fun _ => true) true 30 v d p) : ∃ x : LV, v = .slice x.A x.ts.length x.c ∧ x.Raw W := by
  obtain ⟨a0, len0, cap0, rfl⟩ := okWide_slice Try.underlying30 hv
  obtain ⟨fuel, hf⟩ := h
  exact tuples_trod hf
theorem trod_struct2 {H : Type} {enc : TypeId × Value → H} {P : Program} {w : World} {base : Nat} {spare : Nat → Bool} {held : Bool} {t : TypeId} {f0 f1 : Field} {fuel : Nat} {cs : List Value} {x : DataW H × List MemPlace}
    (ht : P.underlying t = some (.struct #[f0, f1])) (h : DataW.trod enc P w base spare held fuel t cs = some x) :
    ∃ y0 y1 n, DataW.trod enc P w base spare held n f0.type ((cs.drop f0.offset).take (P.cellsOf f0.type)) = some y0 ∧
      DataW.trod enc P w base spare held n f1.type ((cs.drop f1.offset).take (P.cellsOf f1.type)) = some y1 := by
  obtain ⟨xs, n, _, rfl, hl, hlen, hf⟩ := DataW.trod_struct ht h
  match xs, hlen with
  | [y0, y1], _ => exact ⟨y0, y1, n, by simpa using hf 0 f0 rfl, by simpa using hf 1 f1 rfl⟩
end Go.Proofs.Ytobieolonlddlaa
