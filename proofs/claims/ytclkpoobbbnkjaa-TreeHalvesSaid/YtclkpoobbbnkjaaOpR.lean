/- Arrays of three rows of bytes among the arguments, opened. -/
import Derived.Test.YtclkpoobbbnkjaaDskX
namespace Go.Proofs.Ytclkpoobbbnkjaa
open Go.ChangeShapes Go.WideShapes Go.ChangeAt Go.RowKit Go.Deep
set_option maxRecDepth 100000

theorem open_arr3d {H : Type} {enc : TypeId × Value → H} {W : World} {base : Nat} {v : Value} {d : DataW H} {p : List MemPlace} {t e : TypeId} (ht : Try.prog.underlying t = some (.array 3 e)) (hc : Try.prog.cellsOf t = 3) (he : Try.prog.cellsOf e = 1)
    (hv : Value.okWide Try.prog W .any base t v) (h : DataW.Trod enc Try.prog W 0 (fun _ => true) true t v d p) :
    ∃ (c0 c1 c2 : Value) (y0 y1 y2 : DataW H × List MemPlace) (m : Nat), v = .agg #[c0, c1, c2] ∧ d = .agg [y0.1, y1.1, y2.1] ∧ DataW.trod enc Try.prog W 0 (fun _ => true) true m e [c0] = some y0 ∧ DataW.trod enc Try.prog W 0 (fun _ => true) true m e [c1] = some y1 ∧ DataW.trod enc Try.prog W 0 (fun _ => true) true m e [c2] = some y2 := by
  obtain ⟨cs, rfl, hcs⟩ : ∃ cs : Array Value, v = .agg cs ∧ cs.size = Try.prog.cellsOf t := by
    simp only [Value.okWide, ht] at hv
    obtain ⟨cs, h1, h2, _⟩ := hv
    exact ⟨cs, h1, h2⟩
  obtain ⟨l⟩ := cs
  match l, hcs.trans hc with
  | [c0, c1, c2], _ =>
    obtain ⟨fuel, hf⟩ := h
    obtain ⟨xs, m, _, hx, _, hlen, hg⟩ := DataW.trod_array ht hf
    match xs, hlen with
    | [y0, y1, y2], _ =>
      simp only [Prod.mk.injEq] at hx
      have g0 := hg 0 (by omega)
      have g1 := hg 1 (by omega)
      have g2 := hg 2 (by omega)
      rw [he] at g0 g1 g2
      exact ⟨c0, c1, c2, y0, y1, y2, m, rfl, by simpa using hx.1, by simpa [Value.cells] using g0, by simpa [Value.cells] using g1, by simpa [Value.cells] using g2⟩
theorem open_rows3 {H : Type} {enc : TypeId × Value → H} {W : World} {base : Nat} {v : Value} {d : DataW H} {p : List MemPlace} (hv : Value.okWide Try.prog W .any base 51 v)
    (h : DataW.Trod enc Try.prog W 0 (fun _ => true) true 51 v d p) (hsz : ∀ n ∈ d.weights Try.prog 51, n ≤ reachBytes) :
    ∃ r s t : RowB, v = .agg #[r.v, s.v, t.v] ∧ r.ok W W.heap.size ∧ s.ok W W.heap.size ∧ t.ok W W.heap.size := by
  obtain ⟨c0, c1, c2, y0, y1, y2, m, rfl, rfl, g0, g1, g2⟩ := open_arr3d Try.underlying51 (by kernel_rfl) (by kernel_rfl) hv h
  have hw : ∀ y ∈ [y0.1, y1.1, y2.1], ∀ n ∈ y.weights Try.prog 27, n ≤ reachBytes := fun y hy n hn => hsz n (by
    simp only [DataW.weights, Try.underlying51]
    exact weightsAll_mem hy n hn)
  obtain ⟨r, rfl, hr⟩ := bytes_trod g0 (hw _ (by simp))
  obtain ⟨s, rfl, hs⟩ := bytes_trod g1 (hw _ (by simp))
  obtain ⟨t, rfl, ht⟩ := bytes_trod g2 (hw _ (by simp))
  exact ⟨r, s, t, rfl, hr, hs, ht⟩
end Go.Proofs.Ytclkpoobbbnkjaa
