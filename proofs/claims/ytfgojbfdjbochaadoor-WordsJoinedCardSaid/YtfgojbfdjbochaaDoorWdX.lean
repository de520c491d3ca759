/- Lists of texts among the arguments, opened. -/
import Derived.Test.YtfgojbfdjbochaaDoorWdU
import Derived.Test.YtfgojbfdjbochaaDoorWdN
namespace Go.Proofs.YtfgojbfdjbochaaDoor
open Go.ChangeShapes Go.WideShapes Go.ChangeAt Go.RowKit

def strsV (L : List (List UInt8)) : List Value := L.map fun t => .string ⟨t.toArray⟩
theorem open_strs {H : Type} {enc : TypeId × Value → H} {W : World} {base : Nat} {v : Value} {d : DataW H} {p : List MemPlace} (hv : Value.okWide Tryd.prog W .any base 40 v)
    (h : DataW.Trod enc Tryd.prog W 0 (fun _ => true) true 40 v d p) (_hsz : ∀ n ∈ d.weights Tryd.prog 40, n ≤ reachBytes) :
    ∃ (A : Option Addr) (l : List (List UInt8)) (c : Nat), v = .slice A l.length c ∧ Rd W W.heap.size A (strsV l) ∧ l.length ≤ c ∧ c ≤ maxLen := by
  obtain ⟨a0, len0, cap0, rfl⟩ := okWide_slice Tryd.underlying40 hv
  obtain ⟨fuel, hf⟩ := h
  rcases Go.Deep.open_strs Tryd.underlying40 Tryd.underlying9 (by kernel_rfl) hf with ⟨hcs, _⟩ | ⟨x, len, c, m, Sx, hcs, _, hl, hm, hz, hx, hcell⟩
  · simp [Value.cells] at hcs
    obtain ⟨rfl, rfl, rfl⟩ := hcs
    exact ⟨none, [], 0, rfl, Rd.emp _ _ _, by simp, by simp [maxLen]⟩
  · simp [Value.cells] at hcs
    obtain ⟨rfl, rfl, rfl⟩ := hcs
    simp only [if_true] at hz
    have hll : ((List.range len0).map fun i => (Sx i).data.toList).length = len0 := by simp
    refine ⟨some x, (List.range len0).map fun i => (Sx i).data.toList, cap0, by rw [hll], ?_, by omega, hm⟩
    have hcc : ∀ j u, (strsV ((List.range len0).map fun i => (Sx i).data.toList))[j]? = some u → W.cell? (x.add j) = some u := by
      intro j u hu
      have hj : j < (strsV ((List.range len0).map fun i => (Sx i).data.toList)).length := (List.getElem?_eq_some_iff.1 hu).1
      simp [strsV] at hj
      have h1 := (hcell j (by omega)).1
      rw [h1, ← hu]
      simp [strsV, hj]
    by_cases hb : x.block < W.heap.size
    · exact Rd.ofAddr hb hcc
    · intro hn
      obtain ⟨y, r, hyr⟩ := List.exists_cons_of_ne_nil hn
      have := hcc 0 y (by rw [hyr]; rfl)
      have h2 := World.block_lt_of_cell? W _ this
      simp [Addr.add] at h2
      omega
end Go.Proofs.YtfgojbfdjbochaaDoor
