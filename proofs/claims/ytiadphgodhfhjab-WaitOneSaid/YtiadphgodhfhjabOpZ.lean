/- Lists of numbers, and of pairs of numbers, among the arguments, opened. -/
import Derived.Test.YtiadphgodhfhjabDskZ
import Derived.Test.YtiadphgodhfhjabIntZ
import Derived.Test.YtiadphgodhfhjabPrsZ
namespace Go.Proofs.Ytiadphgodhfhjab
open Go.ChangeShapes Go.WideShapes Go.ChangeAt Go.RowKit Go.Deep
set_option maxRecDepth 100000

theorem bytes_int8 : Try.prog.bytesOf 3 = 8 := by kernel_rfl
theorem bytes_pr16 : Try.prog.bytesOf 30 = 16 := by kernel_rfl
theorem cells_pr2 : Try.prog.cellsOf 30 = 2 := by kernel_rfl
theorem open_numz {H : Type} {enc : TypeId × Value → H} {W : World} {base : Nat} {v : Value} {d : DataW H} {p : List MemPlace} (hv : Value.okWide Try.prog W .any base 25 v)
    (h : DataW.Trod enc Try.prog W 0 (fun _ => true) true 25 v d p) (hsz : ∀ n ∈ d.weights Try.prog 25, n ≤ reachBytes) :
    ∃ (A : Option Addr) (l : List Int) (c : Nat), v = .slice A l.length c ∧ IntL W A c l ∧ l.length ≤ 17592186044416 ∧ ∀ n ∈ l, -9223372036854775808 ≤ n ∧ n ≤ 9223372036854775807 := by
  obtain ⟨a0, len0, cap0, rfl⟩ := okWide_slice Try.underlying25 hv
  obtain ⟨fuel, hf⟩ := h
  rcases open_ints Try.underlying25 Try.underlying3 (by kernel_rfl) hf with ⟨hcs, _⟩ | ⟨x, len1, cap1, zs, hcs, _, hl, hm, hz, hx, hcell, hwz⟩
  · simp [Value.cells] at hcs
    obtain ⟨rfl, rfl, rfl⟩ := hcs
    exact ⟨none, [], 0, rfl, ⟨Rd.emp _ _ _, Nat.le_refl _⟩, by simp, by simp⟩
  · simp [Value.cells] at hcs
    obtain ⟨rfl, rfl, rfl⟩ := hcs
    simp only [if_true] at hz
    simp only [Prod.mk.injEq] at hx
    obtain ⟨rfl, -⟩ := hx
    have hw := hsz ((((lits (H := H) .i64 (zs.take len0)).length + (lits (H := H) .i64 (zs.drop len0)).length)) * Try.prog.bytesOf 3) (by simp [DataW.weights, Try.underlying25])
    rw [bytes_int8] at hw
    simp only [lits, List.length_map, List.length_take, List.length_drop, reachBytes] at hw
    have hll : (zs.take len0).length = len0 := by rw [List.length_take]; omega
    refine ⟨some x, zs.take len0, cap0, by rw [hll], ⟨?_, by rw [hll]; exact hl⟩, by rw [hll]; omega, fun n hn => fits_num (hwz n (List.mem_of_mem_take hn))⟩
    have hcc : ∀ j u, (intsZ (zs.take len0))[j]? = some u → W.cell? (x.add j) = some u := by
      intro j u hu
      have hj : j < len0 := by have := (List.getElem?_eq_some_iff.1 hu).1; rw [intsZ_len, hll] at this; exact this
      rw [hcell j (by omega), ← hu]
      unfold intsZ
      simp [hj, List.getElem?_eq_getElem (show j < zs.length by omega)]
    by_cases hb : x.block < W.heap.size
    · exact Rd.ofAddr hb hcc
    · intro hn
      obtain ⟨y, r, hyr⟩ := List.exists_cons_of_ne_nil hn
      have := hcc 0 y (by rw [hyr]; rfl)
      have h2 := World.block_lt_of_cell? W _ this
      simp [Addr.add] at h2
      omega
theorem choose_rowsZ {α : Type} [Inhabited α] {p : Nat → α → Prop} (m : Nat) (h : ∀ i, i < m → ∃ q, p i q) : ∃ L : List α, L.length = m ∧ ∀ i (hi : i < L.length), p i L[i] := by
  obtain ⟨f, hf⟩ := choose_lt h
  refine ⟨(List.range m).map f, by simp, fun i hi => ?_⟩
  simp only [List.getElem_map, List.getElem_range]
  exact hf i (by simpa using hi)
theorem trod_arr2 {H : Type} {enc : TypeId × Value → H} {W : World} {fuel : Nat} {c0 c1 : Value} {x : DataW H × List MemPlace} (h : DataW.trod enc Try.prog W 0 (fun _ => true) true fuel 30 [c0, c1] = some x) :
    ∃ y0 y1 n, DataW.trod enc Try.prog W 0 (fun _ => true) true n 3 [c0] = some y0 ∧ DataW.trod enc Try.prog W 0 (fun _ => true) true n 3 [c1] = some y1 := by
  obtain ⟨xs, m, _, hx, _, hlen, hg⟩ := DataW.trod_array Try.underlying30 h
  match xs, hlen with
  | [y0, y1], _ =>
    have g0 := hg 0 (by omega)
    have g1 := hg 1 (by omega)
    rw [show Try.prog.cellsOf 3 = 1 from by kernel_rfl] at g0 g1
    exact ⟨y0, y1, m, by simpa using g0, by simpa using g1⟩
theorem open_prs {H : Type} {enc : TypeId × Value → H} {W : World} {base : Nat} {v : Value} {d : DataW H} {p : List MemPlace} (hv : Value.okWide Try.prog W .any base 22 v)
    (h : DataW.Trod enc Try.prog W 0 (fun _ => true) true 22 v d p) (hsz : ∀ n ∈ d.weights Try.prog 22, n ≤ reachBytes) :
    ∃ (A : Option Addr) (L : List (Int × Int)) (c : Nat), v = .slice A L.length c ∧ PrL W A c L ∧ L.length ≤ 8796093022208 := by
  obtain ⟨a0, len0, cap0, rfl⟩ := okWide_slice Try.underlying22 hv
  obtain ⟨fuel, hf⟩ := h
  rcases open_slice Try.underlying22 hf with ⟨hcs, _⟩ | ⟨x, len, cap, m, n, D, Pl, hcs, _, hl, hm, hmm, hx, hel⟩
  · simp [Value.cells] at hcs
    obtain ⟨rfl, rfl, rfl⟩ := hcs
    exact ⟨none, [], 0, rfl, ⟨Rd.emp _ _ _, Nat.le_refl _⟩, by simp⟩
  · simp [Value.cells] at hcs
    obtain ⟨rfl, rfl, rfl⟩ := hcs
    simp only [if_true] at hmm
    subst hmm
    simp only [Prod.mk.injEq] at hx
    obtain ⟨rfl, -⟩ := hx
    have hw := hsz (((((List.range len0).map D).length + ((List.range (m - len0)).map fun j => D (len0 + j)).length)) * Try.prog.bytesOf 30) (by simp [DataW.weights, Try.underlying22])
    rw [bytes_pr16] at hw
    simp only [List.length_map, List.length_range, reachBytes] at hw
    rw [cells_pr2] at hel
    have hel2 : ∀ i, i < len0 → ∃ q : Int × Int, W.cell? (x.add (i * 2)) = some (.int .i64 q.1) ∧ W.cell? ((x.add (i * 2)).add 1) = some (.int .i64 q.2) := by
      intro i hi
      obtain ⟨cs', hc, ht⟩ := hel i (by omega)
      obtain ⟨_, hcl, hat⟩ := World.cells?_some hc
      match cs', hcl with
      | [c0, c1], _ =>
        obtain ⟨y0, y1, n', g0, g1⟩ := trod_arr2 ht
        obtain ⟨z0, e0, _, w0⟩ := DataW.trod_int Try.underlying3 g0
        obtain ⟨z1, e1, _, w1⟩ := DataW.trod_int Try.underlying3 g1
        simp only [List.cons.injEq, and_true] at e0 e1
        subst e0 e1
        have h0 := hat 0 (by omega)
        have h1 := hat 1 (by omega)
        refine ⟨(z0, z1), ?_, ?_⟩
        · rw [addZero] at h0; exact h0
        · exact h1
    obtain ⟨L, hL, hk⟩ := choose_rowsZ len0 hel2
    subst hL
    refine ⟨some x, L, m, rfl, ⟨?_, hl⟩, by omega⟩
    have hcc : ∀ j u, (prsZ L)[j]? = some u → W.cell? (x.add j) = some u := by
      intro j u hu
      have hj : j < L.length * 2 := by
        have := (List.getElem?_eq_some_iff.1 hu).1
        rwa [prsZ_len] at this
      have hk3 : j / 2 < L.length := by omega
      have hat := prsZ_at L (j / 2) hk3
      have hkk := hk (j / 2) hk3
      rcases Nat.mod_two_eq_zero_or_one j with e | e
      · have hd : j = j / 2 * 2 := by omega
        rw [hd] at hu ⊢
        rw [hat.1] at hu
        rw [hkk.1]
        exact hu
      · have hd : j = j / 2 * 2 + 1 := by omega
        rw [hd] at hu ⊢
        rw [hat.2] at hu
        rw [← addAdd, hkk.2]
        exact hu
    by_cases hb : x.block < W.heap.size
    · exact Rd.ofAddr hb hcc
    · intro hn
      obtain ⟨y, r, hyr⟩ := List.exists_cons_of_ne_nil hn
      have := hcc 0 y (by rw [hyr]; rfl)
      have h2 := World.block_lt_of_cell? W _ this
      simp [Addr.add] at h2
      omega
end Go.Proofs.Ytiadphgodhfhjab
