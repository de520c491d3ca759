/- Lists of numbers among the arguments, opened. -/
import Derived.Test.YtnjljalihjkmcaaDskX
namespace Go.Proofs.Ytnjljalihjkmcaa
open Go.ChangeShapes Go.WideShapes Go.ChangeAt Go.RowKit Go.Deep
set_option maxRecDepth 100000

theorem open_nums {H : Type} {enc : TypeId × Value → H} {W : World} {base : Nat} {v : Value} {d : DataW H} {p : List MemPlace} (hv : Value.okWide Try.prog W .any base 81 v)
    (h : DataW.Trod enc Try.prog W 0 (fun _ => true) true 81 v d p) :
    ∃ (A : Option Addr) (l : List Int) (c : Nat), v = .slice A l.length c ∧ Rd W W.heap.size A (l.map (Value.int .i64)) ∧ ∀ n ∈ l, -9223372036854775808 ≤ n ∧ n ≤ 9223372036854775807 := by
  obtain ⟨a0, len0, cap0, rfl⟩ := okWide_slice Try.underlying81 hv
  obtain ⟨fuel, hf⟩ := h
  rcases open_ints Try.underlying81 Try.underlying3 (by kernel_rfl) hf with ⟨hcs, _⟩ | ⟨x, len1, cap1, zs, hcs, _, hl, hm, hz, hx, hcell, hwz⟩
  · simp [Value.cells] at hcs
    obtain ⟨rfl, rfl, rfl⟩ := hcs
    exact ⟨none, [], 0, rfl, Rd.emp _ _ _, by simp⟩
  · simp [Value.cells] at hcs
    obtain ⟨rfl, rfl, rfl⟩ := hcs
    simp only [if_true] at hz
    simp only [Prod.mk.injEq] at hx
    obtain ⟨rfl, -⟩ := hx
    have hll : (zs.take len0).length = len0 := by rw [List.length_take]; omega
    refine ⟨some x, zs.take len0, cap0, by rw [hll], ?_, fun n hn => fits_num (hwz n (List.mem_of_mem_take hn))⟩
    have hcc : ∀ j u, ((zs.take len0).map (Value.int .i64))[j]? = some u → W.cell? (x.add j) = some u := by
      intro j u hu
      have hj : j < len0 := by have := (List.getElem?_eq_some_iff.1 hu).1; rw [List.length_map, hll] at this; exact this
      rw [hcell j (by omega), ← hu]
      simp [hj, List.getElem?_eq_getElem (show j < zs.length by omega)]
    by_cases hb : x.block < W.heap.size
    · exact Rd.ofAddr hb hcc
    · intro hn
      obtain ⟨y, r, hyr⟩ := List.exists_cons_of_ne_nil hn
      have := hcc 0 y (by rw [hyr]; rfl)
      have h2 := World.block_lt_of_cell? W _ this
      simp [Addr.add] at h2
      omega
end Go.Proofs.Ytnjljalihjkmcaa
