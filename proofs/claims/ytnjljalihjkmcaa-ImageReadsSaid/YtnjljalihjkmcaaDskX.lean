/- Rows of bytes among the arguments, opened. -/
import Derived.Test.YtnjljalihjkmcaaDskY
namespace Go.Proofs.Ytnjljalihjkmcaa
open Go.ChangeShapes Go.WideShapes Go.ChangeAt Go.RowKit Go.Deep
set_option maxRecDepth 100000

theorem weightsAll_mem {H : Type} {P : Program} {e : TypeId} : ∀ {l : List (DataW H)} {d : DataW H}, d ∈ l → ∀ n ∈ d.weights P e, n ∈ DataW.weightsAll P e l
  | [], _, h, _, _ => by cases h
  | x :: r, d, h, n, hn => by
    simp only [DataW.weightsAll, List.mem_append]
    rcases List.mem_cons.1 h with rfl | h
    · exact .inl hn
    · exact .inr (weightsAll_mem h n hn)

/-- A slice of bytes that lies somewhere. -/
structure RowB where
  A : Option Addr
  l : List UInt8
  c : Nat
instance : Inhabited RowB := ⟨⟨none, [], 0⟩⟩
def RowB.v (r : RowB) : Value := .slice r.A r.l.length r.c
/-- It lies in a world, and is no longer than may be. -/
def RowB.ok (r : RowB) (W : World) (B : Nat) : Prop := Rd W B r.A (u8s r.l) ∧ r.l.length ≤ r.c ∧ r.c ≤ 140737488351232
theorem RowB.ok.below {r : RowB} {w w' : World} {B C : Nat} (h : r.ok w B) (hb : Below C w w') (hB : B ≤ C) : r.ok w' B := ⟨h.1.below hb hB, h.2.1, h.2.2⟩

theorem bytes_trod {H : Type} {enc : TypeId × Value → H} {W : World} {fuel : Nat} {v : Value} {y : DataW H × List MemPlace}
    (hf : DataW.trod enc Try.prog W 0 (fun _ => true) true fuel 45 [v] = some y) (hsz : ∀ n ∈ y.1.weights Try.prog 45, n ≤ reachBytes) :
    ∃ r : RowB, v = r.v ∧ r.ok W W.heap.size := by
  rcases open_ints Try.underlying45 Try.underlying5 (by kernel_rfl) hf with ⟨hcs, _⟩ | ⟨x, len0, cap0, zs, hcs, _, hl, hm, hz, hx, hcell, hwz⟩
  · simp only [List.cons.injEq, and_true] at hcs
    subst hcs
    exact ⟨⟨none, [], 0⟩, rfl, Rd.emp _ _ _, by simp, by simp⟩
  · simp only [List.cons.injEq, and_true] at hcs
    subst hcs
    simp only [if_true] at hz
    subst hx
    have hw := hsz ((((lits (H := H) .u8 (zs.take len0)).length + (lits (H := H) .u8 (zs.drop len0)).length)) * Try.prog.bytesOf 5) (by simp [DataW.weights, Try.underlying45])
    rw [bytes_u8] at hw
    simp only [lits, List.length_map, List.length_take, List.length_drop, reachBytes] at hw
    obtain ⟨l, rfl⟩ := ints_u8 zs hwz
    rw [List.length_map] at hz
    have hll : (l.take len0).length = len0 := by rw [List.length_take]; omega
    refine ⟨⟨some x, l.take len0, cap0⟩, by unfold RowB.v; rw [hll], ?_, by show (l.take len0).length ≤ cap0; omega, by show cap0 ≤ 140737488351232; simp at hw; omega⟩
    have hcc : ∀ j u, (u8s (l.take len0))[j]? = some u → W.cell? (x.add j) = some u := by
      intro j u hu
      have hj : j < (u8s (l.take len0)).length := (List.getElem?_eq_some_iff.1 hu).1
      rw [u8s_length, hll] at hj
      rw [hcell j (by simp; omega), ← hu]
      simp [u8s, hj, List.getElem?_eq_getElem (show j < l.length by omega)]
    by_cases hb : x.block < W.heap.size
    · exact Rd.ofAddr hb hcc
    · intro hn
      obtain ⟨y, r, hyr⟩ := List.exists_cons_of_ne_nil hn
      have := hcc 0 y (by rw [hyr]; rfl)
      have h2 := World.block_lt_of_cell? W _ this
      simp [Addr.add] at h2
      omega
theorem choose_rows {α : Type} [Inhabited α] {p : Nat → α → Prop} (m : Nat) (h : ∀ i, i < m → ∃ q, p i q) : ∃ L : List α, L.length = m ∧ ∀ i (hi : i < L.length), p i L[i] := by
  obtain ⟨f, hf⟩ := choose_lt h
  refine ⟨(List.range m).map f, by simp, fun i hi => ?_⟩
  simp only [List.getElem_map, List.getElem_range]
  exact hf i (by simpa using hi)

theorem open_rows {H : Type} {enc : TypeId × Value → H} {W : World} {base : Nat} {v : Value} {d : DataW H} {p : List MemPlace} (hv : Value.okWide Try.prog W .any base 63 v)
    (h : DataW.Trod enc Try.prog W 0 (fun _ => true) true 63 v d p) (hsz : ∀ n ∈ d.weights Try.prog 63, n ≤ reachBytes) :
    ∃ (A : Option Addr) (L : List RowB) (c : Nat), v = .slice A L.length c ∧ Rd W W.heap.size A (L.map RowB.v) ∧ (∀ r ∈ L, r.ok W W.heap.size) ∧ L.length ≤ c ∧ c ≤ 9223372036854775807 := by
  obtain ⟨a0, len0, cap0, rfl⟩ := okWide_slice Try.underlying63 hv
  obtain ⟨fuel, hf⟩ := h
  rcases open_slice1 Try.underlying63 (by kernel_rfl) hf with ⟨hcs, _⟩ | ⟨x, len, cap, m, n, V, D, Pl, hcs, _, hl, hm, hmm, hx, hel⟩
  · simp [Value.cells] at hcs
    obtain ⟨rfl, rfl, rfl⟩ := hcs
    exact ⟨none, [], 0, rfl, Rd.emp _ _ _, by simp, by simp, by omega⟩
  · simp [Value.cells] at hcs
    obtain ⟨rfl, rfl, rfl⟩ := hcs
    simp only [if_true] at hmm
    subst hmm
    simp only [Prod.mk.injEq] at hx
    obtain ⟨rfl, -⟩ := hx
    have hel2 : ∀ i, i < len0 → ∃ q : RowB, V i = q.v ∧ q.ok W W.heap.size := by
      intro i hi
      refine bytes_trod (hel i (by omega)).2 fun n hn => hsz n ?_
      simp only [DataW.weights, Try.underlying63, List.mem_cons, List.mem_append]
      exact .inr (.inl (weightsAll_mem (d := D i) (List.mem_map.2 ⟨i, List.mem_range.2 hi, rfl⟩) _ hn))
    obtain ⟨L, hL, hk⟩ := choose_rows len0 hel2
    subst hL
    refine ⟨some x, L, m, rfl, ?_, ?_, hl, by simp only [maxLen] at hm; omega⟩
    · have hcc : ∀ j u, (L.map RowB.v)[j]? = some u → W.cell? (x.add j) = some u := by
        intro j u hu
        have hj : j < L.length := by simpa using (List.getElem?_eq_some_iff.1 hu).1
        rw [(hel j (by omega)).1, ← hu, (hk j hj).1]
        simp [hj]
      by_cases hb : x.block < W.heap.size
      · exact Rd.ofAddr hb hcc
      · intro hn
        obtain ⟨y, r, hyr⟩ := List.exists_cons_of_ne_nil hn
        have := hcc 0 y (by rw [hyr]; rfl)
        have h2 := World.block_lt_of_cell? W _ this
        simp [Addr.add] at h2
        omega
    · intro q hq
      obtain ⟨i, hi, rfl⟩ := List.mem_iff_getElem.1 hq
      exact (hk i hi).2
end Go.Proofs.Ytnjljalihjkmcaa
