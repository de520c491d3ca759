/- Changes among the arguments, opened. -/
import Derived.Test.YtgjjdmkoamjdpaaGreatDoorRcU
import Derived.Deep.Grids
namespace Go.Proofs.YtgjjdmkoamjdpaaGreatDoor
open Go.ChangeShapes Go.WideShapes Go.ChangeAt Go.RowKit Go.Deep
set_option maxRecDepth 100000

theorem weightsAll_mem {H : Type} {P : Program} {e : TypeId} : ∀ {l : List (DataW H)} {d : DataW H}, d ∈ l → ∀ n ∈ d.weights P e, n ∈ DataW.weightsAll P e l
  | [], _, h, _, _ => by cases h
  | x :: r, d, h, n, hn => by
    simp only [DataW.weightsAll, List.mem_append]
    rcases List.mem_cons.1 h with rfl | h
    · exact .inl hn
    · exact .inr (weightsAll_mem h n hn)
theorem rd_addr {W : World} {x : Addr} {xs : List Value} (hcc : ∀ j u, xs[j]? = some u → W.cell? (x.add j) = some u) : Rd W W.heap.size (some x) xs := by
  by_cases hb : x.block < W.heap.size
  · exact Rd.ofAddr hb hcc
  · intro hn
    obtain ⟨y, r, hyr⟩ := List.exists_cons_of_ne_nil hn
    have := hcc 0 y (by rw [hyr]; rfl)
    have h2 := World.block_lt_of_cell? W _ this
    simp [Addr.add] at h2
    omega
theorem choose_rows {α : Type} [Inhabited α] {p : Nat → α → Prop} (m : Nat) (h : ∀ i, i < m → ∃ q, p i q) : ∃ L : List α, L.length = m ∧ ∀ i (hi : i < L.length), p i L[i] := by
  obtain ⟨f, hf⟩ := choose_lt h
  refine ⟨(List.range m).map f, by simp, fun i hi => ?_⟩
  simp only [List.getElem_map, List.getElem_range]
  exact hf i (by simpa using hi)
instance : Inhabited ChV := ⟨⟨0, 0, 0, ⟨#[]⟩, 0, ⟨#[]⟩, ⟨0, 0, ⟨#[]⟩⟩⟩⟩
theorem change_trod {H : Type} {enc : TypeId × Value → H} {W : World} {fuel : Nat} {l : List Value} {y : DataW H × List MemPlace} (hcl : l.length = 9)
    (hf : DataW.trod enc Tryz.prog W 0 (fun _ => true) true fuel 53 l = some y) (hsz : ∀ n ∈ y.1.weights Tryz.prog 53, n ≤ reachBytes) :
    ∃ a : ChV, l = chC a ∧ a.fits := by
  have hc3 : Tryz.prog.cellsOf 51 = 3 := by kernel_rfl
  have hce : Tryz.prog.cellsOf 49 = 3 := by kernel_rfl
  have hc1 : Tryz.prog.cellsOf 3 = 1 := by kernel_rfl
  have hc2 : Tryz.prog.cellsOf 9 = 1 := by kernel_rfl
  match l, hcl with
  | [c0, c1, c2, c3, c4, c5, c6, c7, c8], _ =>
    obtain ⟨y0, y1, y2, y3, y4, n', hy, h0, h1, h2, h3, h4⟩ := trod_s5 Tryz.underlying53 hf
    have g0 : DataW.trod enc Tryz.prog W 0 (fun _ => true) true n' 3 [c0] = some y0 := by simpa [hc1, Value.cells] using h0
    have g1 : DataW.trod enc Tryz.prog W 0 (fun _ => true) true n' 3 [c1] = some y1 := by simpa [hc1, Value.cells] using h1
    have g2 : DataW.trod enc Tryz.prog W 0 (fun _ => true) true n' 49 [c2, c3, c4] = some y2 := by simpa [hce, Value.cells] using h2
    have g3 : DataW.trod enc Tryz.prog W 0 (fun _ => true) true n' 9 [c5] = some y3 := by simpa [hc2, Value.cells] using h3
    have g4 : DataW.trod enc Tryz.prog W 0 (fun _ => true) true n' 51 [c6, c7, c8] = some y4 := by simpa [hc3, Value.cells] using h4
    obtain ⟨z0, z1, z2, n2, hz, _, k0, k1, k2⟩ := trod_struct3 Tryz.underlying49 g2
    have j0 : DataW.trod enc Tryz.prog W 0 (fun _ => true) true n2 3 [c2] = some z0 := by simpa [hc1, Value.cells] using k0
    have j1 : DataW.trod enc Tryz.prog W 0 (fun _ => true) true n2 9 [c3] = some z1 := by simpa [hc2, Value.cells] using k1
    have j2 : DataW.trod enc Tryz.prog W 0 (fun _ => true) true n2 3 [c4] = some z2 := by simpa [hc1, Value.cells] using k2
    obtain ⟨x0, x1, x2, n3, hx, _, l0, l1, l2⟩ := trod_struct3 Tryz.underlying51 g4
    have m0 : DataW.trod enc Tryz.prog W 0 (fun _ => true) true n3 3 [c6] = some x0 := by simpa [hc1, Value.cells] using l0
    have m1 : DataW.trod enc Tryz.prog W 0 (fun _ => true) true n3 3 [c7] = some x1 := by simpa [hc1, Value.cells] using l1
    have m2 : DataW.trod enc Tryz.prog W 0 (fun _ => true) true n3 9 [c8] = some x2 := by simpa [hc2, Value.cells] using l2
    obtain ⟨a0, e0, _, _⟩ := DataW.trod_int Tryz.underlying3 g0
    obtain ⟨a1, e1, _, _⟩ := DataW.trod_int Tryz.underlying3 g1
    obtain ⟨a2, e2, _, _⟩ := DataW.trod_int Tryz.underlying3 j0
    obtain ⟨s3, e3, hd3, _⟩ := DataW.trod_string Tryz.underlying9 j1
    obtain ⟨a4, e4, _, _⟩ := DataW.trod_int Tryz.underlying3 j2
    obtain ⟨s5, e5, hd5, _⟩ := DataW.trod_string Tryz.underlying9 g3
    obtain ⟨a6, e6, _, _⟩ := DataW.trod_int Tryz.underlying3 m0
    obtain ⟨a7, e7, _, w7⟩ := DataW.trod_int Tryz.underlying3 m1
    obtain ⟨s8, e8, hd8, _⟩ := DataW.trod_string Tryz.underlying9 m2
    simp only [List.cons.injEq, and_true] at e0 e1 e2 e3 e4 e5 e6 e7 e8
    subst e0 e1 e2 e3 e4 e5 e6 e7 e8
    have hs3 := hsz s3.data.toList.length (by
      rw [hy, hz, hx, hd3, hd5, hd8]
      simp [DataW.weights, Tryz.underlying53, Tryz.underlying49, Tryz.underlying51, DataW.weightsEach])
    have hs5 := hsz s5.data.toList.length (by
      rw [hy, hz, hx, hd3, hd5, hd8]
      simp [DataW.weights, Tryz.underlying53, Tryz.underlying49, Tryz.underlying51, DataW.weightsEach])
    have hs8 := hsz s8.data.toList.length (by
      rw [hy, hz, hx, hd3, hd5, hd8]
      simp [DataW.weights, Tryz.underlying53, Tryz.underlying49, Tryz.underlying51, DataW.weightsEach])
    have t3 : s3.data.toList.length = s3.size := by simp
    have t5 : s5.data.toList.length = s5.size := by simp
    have t8 : s8.data.toList.length = s8.size := by simp
    simp only [reachBytes] at hs3 hs5 hs8
    exact ⟨⟨a0, a1, a2, s3, a4, s5, ⟨a6, a7, s8⟩⟩, rfl, ⟨by show s3.size ≤ _; omega, by show s5.size ≤ _; omega, ⟨by show s8.size ≤ _; omega, fits_num w7⟩⟩⟩
theorem open_changes {H : Type} {enc : TypeId × Value → H} {W : World} {base : Nat} {v : Value} {d : DataW H} {p : List MemPlace} (hv : Value.okWide Tryz.prog W .any base 22 v)
    (h : DataW.Trod enc Tryz.prog W 0 (fun _ => true) true 22 v d p) (hsz : ∀ n ∈ d.weights Tryz.prog 22, n ≤ reachBytes) :
    ∃ (A : Option Addr) (l : List ChV) (c : Nat), v = .slice A l.length c ∧ Chs W A c l := by
  have hc9 : Tryz.prog.cellsOf 53 = 9 := by kernel_rfl
  obtain ⟨a0, len0, cap0, rfl⟩ := okWide_slice Tryz.underlying22 hv
  obtain ⟨fuel, hf⟩ := h
  rcases open_slice Tryz.underlying22 hf with ⟨hcs, _⟩ | ⟨x, len, cap, m, n, D, Pl, hcs, _, hl, hm, hmm, hx, hel⟩
  · simp [Value.cells] at hcs
    obtain ⟨rfl, rfl, rfl⟩ := hcs
    exact ⟨none, [], 0, rfl, Rd.emp _ _ _, Nat.le_refl _, fun _ h => (nomatch h)⟩
  · simp [Value.cells] at hcs
    obtain ⟨rfl, rfl, rfl⟩ := hcs
    simp only [if_true] at hmm
    subst hmm
    simp only [Prod.mk.injEq] at hx
    obtain ⟨rfl, -⟩ := hx
    rw [hc9] at hel
    have hel2 : ∀ i, i < len0 → ∃ q : ChV, q.fits ∧ ∀ j u, (chC q)[j]? = some u → W.cell? ((x.add (i * 9)).add j) = some u := by
      intro i hi
      obtain ⟨cs', hc, ht⟩ := hel i (by omega)
      obtain ⟨_, hcl, hat⟩ := World.cells?_some hc
      obtain ⟨a, rfl, hQ⟩ := change_trod hcl ht (fun nn hnn => by
        refine hsz nn ?_
        simp only [DataW.weights, Tryz.underlying22, List.mem_cons, List.mem_append]
        exact .inr (.inl (weightsAll_mem (d := D i) (List.mem_map.2 ⟨i, List.mem_range.2 hi, rfl⟩) _ hnn)))
      refine ⟨a, hQ, fun j u hu => ?_⟩
      have hj : j < 9 := (List.getElem?_eq_some_iff.1 hu).1
      rw [hat j hj, ← hu]
    obtain ⟨L, hL, hk⟩ := choose_rows len0 hel2
    subst hL
    refine ⟨some x, L, m, rfl, rd_addr fun j u hu => ?_, hl, fun a ha => ?_⟩
    · have hj : j < L.length * 9 := by
        have := (List.getElem?_eq_some_iff.1 hu).1
        rwa [chsC_len] at this
      have hd : j = j / 9 * 9 + j % 9 := by omega
      have hk3 : j / 9 < L.length := by omega
      rw [hd, chsC_get L (j / 9) (j % 9) hk3 (by omega)] at hu
      have := (hk (j / 9) hk3).2 (j % 9) u hu
      rw [addAdd] at this
      rw [hd]
      exact this
    · obtain ⟨i, hi, rfl⟩ := List.mem_iff_getElem.1 ha
      exact (hk i hi).1
end Go.Proofs.YtgjjdmkoamjdpaaGreatDoor
