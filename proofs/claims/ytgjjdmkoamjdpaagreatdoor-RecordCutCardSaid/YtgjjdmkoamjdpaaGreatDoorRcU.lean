/- A change among the arguments, opened. -/
import Derived.Test.YtgjjdmkoamjdpaaGreatDoorRcG
import Derived.Test.YtgjjdmkoamjdpaaGreatDoorValU
namespace Go.Proofs.YtgjjdmkoamjdpaaGreatDoor
open Go.ChangeShapes Go.WideShapes Go.ChangeAt Go.RowKit Go.Deep
set_option maxRecDepth 100000

theorem trod_s5 {H : Type} {enc : TypeId × Value → H} {P : Program} {w : World} {base : Nat} {spare : Nat → Bool} {held : Bool} {t : TypeId} {f0 f1 f2 f3 f4 : Field} {fuel : Nat} {cs : List Value} {x : DataW H × List MemPlace}
    (ht : P.underlying t = some (.struct #[f0, f1, f2, f3, f4])) (h : DataW.trod enc P w base spare held fuel t cs = some x) :
    ∃ y0 y1 y2 y3 y4 n, x.1 = .agg [y0.1, y1.1, y2.1, y3.1, y4.1] ∧ DataW.trod enc P w base spare held n f0.type ((cs.drop f0.offset).take (P.cellsOf f0.type)) = some y0 ∧
      DataW.trod enc P w base spare held n f1.type ((cs.drop f1.offset).take (P.cellsOf f1.type)) = some y1 ∧ DataW.trod enc P w base spare held n f2.type ((cs.drop f2.offset).take (P.cellsOf f2.type)) = some y2 ∧
      DataW.trod enc P w base spare held n f3.type ((cs.drop f3.offset).take (P.cellsOf f3.type)) = some y3 ∧ DataW.trod enc P w base spare held n f4.type ((cs.drop f4.offset).take (P.cellsOf f4.type)) = some y4 := by
  obtain ⟨xs, n, _, rfl, hl, hlen, hf⟩ := DataW.trod_struct ht h
  match xs, hlen with
  | [y0, y1, y2, y3, y4], _ => exact ⟨y0, y1, y2, y3, y4, n, by simp, by simpa using hf 0 f0 rfl, by simpa using hf 1 f1 rfl, by simpa using hf 2 f2 rfl, by simpa using hf 3 f3 rfl, by simpa using hf 4 f4 rfl⟩
theorem open_change {H : Type} {enc : TypeId × Value → H} {W : World} {base : Nat} {v : Value} {d : DataW H} {p : List MemPlace} (hv : Value.okWide Tryz.prog W .any base 53 v)
    (h : DataW.Trod enc Tryz.prog W 0 (fun _ => true) true 53 v d p) (hsz : ∀ n ∈ d.weights Tryz.prog 53, n ≤ reachBytes) :
    ∃ a : ChV, v = .agg a.cells ∧ a.fits := by
  have hc9 : Tryz.prog.cellsOf 53 = 9 := by kernel_rfl
  have hc3 : Tryz.prog.cellsOf 51 = 3 := by kernel_rfl
  have hce : Tryz.prog.cellsOf 49 = 3 := by kernel_rfl
  have hc1 : Tryz.prog.cellsOf 3 = 1 := by kernel_rfl
  have hc2 : Tryz.prog.cellsOf 9 = 1 := by kernel_rfl
  obtain ⟨cs, rfl, hcs⟩ := okWide_struct Tryz.underlying53 hv
  obtain ⟨l⟩ := cs
  match l, hcs.trans hc9 with
  | [c0, c1, c2, c3, c4, c5, c6, c7, c8], _ =>
    obtain ⟨fuel, hf⟩ := h
    obtain ⟨y0, y1, y2, y3, y4, n', hy, h0, h1, h2, h3, h4⟩ := trod_s5 Tryz.underlying53 hf
    have g0 : DataW.trod enc Tryz.prog W 0 (fun _ => true) true n' 3 [c0] = some y0 := by simpa [hc1, Value.cells] using h0
    have g1 : DataW.trod enc Tryz.prog W 0 (fun _ => true) true n' 3 [c1] = some y1 := by simpa [hc1, Value.cells] using h1
    have g2 : DataW.trod enc Tryz.prog W 0 (fun _ => true) true n' 49 [c2, c3, c4] = some y2 := by simpa [hce, Value.cells] using h2
    have g3 : DataW.trod enc Tryz.prog W 0 (fun _ => true) true n' 9 [c5] = some y3 := by simpa [hc2, Value.cells] using h3
    have g4 : DataW.trod enc Tryz.prog W 0 (fun _ => true) true n' 51 [c6, c7, c8] = some y4 := by simpa [hc3, Value.cells] using h4
    obtain ⟨z0, z1, z2, n2, hz, _, k0, k1, k2⟩ := trod_struct3 Tryz.underlying49 g2
    have j0 : DataW.trod enc Tryz.prog W 0 (fun _ => true) true n2 3 [c2] = some z0 := by simpa [hc1, Value.cells] using k0
    have j1 : DataW.trod enc Tryz.prog W 0 (fun _ => true) true n2 9 [c3] = some z1 := by simpa [hc2, Value.cells] using k1
    have j2 : DataW.trod enc Tryz.prog W 0 (fun _ => true) true n2 3 [c4] = some z2 := by simpa [hc1, Value.cells] using k2
    obtain ⟨x0, x1, x2, n3, hx, _, l0, l1, l2⟩ := trod_struct3 Tryz.underlying51 g4
    have m0 : DataW.trod enc Tryz.prog W 0 (fun _ => true) true n3 3 [c6] = some x0 := by simpa [hc1, Value.cells] using l0
    have m1 : DataW.trod enc Tryz.prog W 0 (fun _ => true) true n3 3 [c7] = some x1 := by simpa [hc1, Value.cells] using l1
    have m2 : DataW.trod enc Tryz.prog W 0 (fun _ => true) true n3 9 [c8] = some x2 := by simpa [hc2, Value.cells] using l2
    obtain ⟨a0, e0, _, _⟩ := DataW.trod_int Tryz.underlying3 g0
    obtain ⟨a1, e1, _, _⟩ := DataW.trod_int Tryz.underlying3 g1
    obtain ⟨a2, e2, _, _⟩ := DataW.trod_int Tryz.underlying3 j0
    obtain ⟨s3, e3, hd3, _⟩ := DataW.trod_string Tryz.underlying9 j1
    obtain ⟨a4, e4, _, _⟩ := DataW.trod_int Tryz.underlying3 j2
    obtain ⟨s5, e5, hd5, _⟩ := DataW.trod_string Tryz.underlying9 g3
    obtain ⟨a6, e6, _, _⟩ := DataW.trod_int Tryz.underlying3 m0
    obtain ⟨a7, e7, _, w7⟩ := DataW.trod_int Tryz.underlying3 m1
    obtain ⟨s8, e8, hd8, _⟩ := DataW.trod_string Tryz.underlying9 m2
    simp only [List.cons.injEq, and_true] at e0 e1 e2 e3 e4 e5 e6 e7 e8
    subst e0 e1 e2 e3 e4 e5 e6 e7 e8
    dsimp only at hy
    have hs3 := hsz s3.data.toList.length (by
      rw [hy, hz, hx, hd3, hd5, hd8]
      simp [DataW.weights, Tryz.underlying53, Tryz.underlying49, Tryz.underlying51, DataW.weightsEach])
    have hs5 := hsz s5.data.toList.length (by
      rw [hy, hz, hx, hd3, hd5, hd8]
      simp [DataW.weights, Tryz.underlying53, Tryz.underlying49, Tryz.underlying51, DataW.weightsEach])
    have hs8 := hsz s8.data.toList.length (by
      rw [hy, hz, hx, hd3, hd5, hd8]
      simp [DataW.weights, Tryz.underlying53, Tryz.underlying49, Tryz.underlying51, DataW.weightsEach])
    have t3 : s3.data.toList.length = s3.size := by simp
    have t5 : s5.data.toList.length = s5.size := by simp
    have t8 : s8.data.toList.length = s8.size := by simp
    simp only [reachBytes] at hs3 hs5 hs8
    exact ⟨⟨a0, a1, a2, s3, a4, s5, ⟨a6, a7, s8⟩⟩, rfl, ⟨by show s3.size ≤ _; omega, by show s5.size ≤ _; omega, ⟨by show s8.size ≤ _; omega, fits_num w7⟩⟩⟩
end Go.Proofs.YtgjjdmkoamjdpaaGreatDoor
