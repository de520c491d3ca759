/- A row of calls of a tree among the arguments, opened. -/
import Derived.Test.YtklhfegdjadgdaaDskY
namespace Go.Proofs.Ytklhfegdjadgdaa
open Go.ChangeShapes Go.WideShapes Go.ChangeAt Go.RowKit Go.Deep
set_option maxRecDepth 100000

theorem weightsAll_mem {H : Type} {P : Program} {e : TypeId} : ∀ {l : List (DataW H)} {d : DataW H}, d ∈ l → ∀ n ∈ d.weights P e, n ∈ DataW.weightsAll P e l
  | [], _, h, _, _ => by cases h
  | x :: r, d, h, n, hn => by
    simp only [DataW.weightsAll, List.mem_append]
    rcases List.mem_cons.1 h with rfl | h
    · exact .inl hn
    · exact .inr (weightsAll_mem h n hn)

/-- A slice of bytes that lies somewhere. -/
structure RowB where
  A : Option Addr
  l : List UInt8
  c : Nat
instance : Inhabited RowB := ⟨⟨none, [], 0⟩⟩
def RowB.v (r : RowB) : Value := .slice r.A r.l.length r.c
/-- It lies in a world, and is no longer than may be. -/
def RowB.ok (r : RowB) (W : World) (B : Nat) : Prop := Rd W B r.A (u8s r.l) ∧ r.l.length ≤ r.c ∧ r.c ≤ 140737488351232
theorem RowB.ok.below {r : RowB} {w w' : World} {B C : Nat} (h : r.ok w B) (hb : Below C w w') (hB : B ≤ C) : r.ok w' B := ⟨h.1.below hb hB, h.2.1, h.2.2⟩

theorem bytes_trod {H : Type} {enc : TypeId × Value → H} {W : World} {fuel : Nat} {v : Value} {y : DataW H × List MemPlace}
    (hf : DataW.trod enc Try.prog W 0 (fun _ => true) true fuel 27 [v] = some y) (hsz : ∀ n ∈ y.1.weights Try.prog 27, n ≤ reachBytes) :
    ∃ r : RowB, v = r.v ∧ r.ok W W.heap.size := by
  rcases open_ints Try.underlying27 Try.underlying5 (by kernel_rfl) hf with ⟨hcs, _⟩ | ⟨x, len0, cap0, zs, hcs, _, hl, hm, hz, hx, hcell, hwz⟩
  · simp only [List.cons.injEq, and_true] at hcs
    subst hcs
    exact ⟨⟨none, [], 0⟩, rfl, Rd.emp _ _ _, by simp, by simp⟩
  · simp only [List.cons.injEq, and_true] at hcs
    subst hcs
    simp only [if_true] at hz
    subst hx
    have hw := hsz ((((lits (H := H) .u8 (zs.take len0)).length + (lits (H := H) .u8 (zs.drop len0)).length)) * Try.prog.bytesOf 5) (by simp [DataW.weights, Try.underlying27])
    rw [bytes_u8] at hw
    simp only [lits, List.length_map, List.length_take, List.length_drop, reachBytes] at hw
    obtain ⟨l, rfl⟩ := ints_u8 zs hwz
    rw [List.length_map] at hz
    have hll : (l.take len0).length = len0 := by rw [List.length_take]; omega
    refine ⟨⟨some x, l.take len0, cap0⟩, by unfold RowB.v; rw [hll], ?_, by show (l.take len0).length ≤ cap0; omega, by show cap0 ≤ 140737488351232; simp at hw; omega⟩
    have hcc : ∀ j u, (u8s (l.take len0))[j]? = some u → W.cell? (x.add j) = some u := by
      intro j u hu
      have hj : j < (u8s (l.take len0)).length := (List.getElem?_eq_some_iff.1 hu).1
      rw [u8s_length, hll] at hj
      rw [hcell j (by simp; omega), ← hu]
      simp [u8s, hj, List.getElem?_eq_getElem (show j < l.length by omega)]
    by_cases hb : x.block < W.heap.size
    · exact Rd.ofAddr hb hcc
    · intro hn
      obtain ⟨y, r, hyr⟩ := List.exists_cons_of_ne_nil hn
      have := hcc 0 y (by rw [hyr]; rfl)
      have h2 := World.block_lt_of_cell? W _ this
      simp [Addr.add] at h2
      omega
theorem choose_rows {α : Type} [Inhabited α] {p : Nat → α → Prop} (m : Nat) (h : ∀ i, i < m → ∃ q, p i q) : ∃ L : List α, L.length = m ∧ ∀ i (hi : i < L.length), p i L[i] := by
  obtain ⟨f, hf⟩ := choose_lt h
  refine ⟨(List.range m).map f, by simp, fun i hi => ?_⟩
  simp only [List.getElem_map, List.getElem_range]
  exact hf i (by simpa using hi)
theorem trod_struct4 {H : Type} {enc : TypeId × Value → H} {P : Program} {w : World} {base : Nat} {spare : Nat → Bool} {held : Bool} {t : TypeId} {f0 f1 f2 f3 : Field} {fuel : Nat} {cs : List Value} {x : DataW H × List MemPlace}
    (ht : P.underlying t = some (.struct #[f0, f1, f2, f3])) (h : DataW.trod enc P w base spare held fuel t cs = some x) :
    ∃ y0 y1 y2 y3 n, x.1 = .agg [y0.1, y1.1, y2.1, y3.1] ∧ cs.length = P.cellsOf t ∧ DataW.trod enc P w base spare held n f0.type ((cs.drop f0.offset).take (P.cellsOf f0.type)) = some y0 ∧
      DataW.trod enc P w base spare held n f1.type ((cs.drop f1.offset).take (P.cellsOf f1.type)) = some y1 ∧ DataW.trod enc P w base spare held n f2.type ((cs.drop f2.offset).take (P.cellsOf f2.type)) = some y2 ∧
      DataW.trod enc P w base spare held n f3.type ((cs.drop f3.offset).take (P.cellsOf f3.type)) = some y3 := by
  obtain ⟨xs, n, _, rfl, hl, hlen, hf⟩ := DataW.trod_struct ht h
  match xs, hlen with
  | [y0, y1, y2, y3], _ => exact ⟨y0, y1, y2, y3, n, by simp, hl, by simpa using hf 0 f0 rfl, by simpa using hf 1 f1 rfl, by simpa using hf 2 f2 rfl, by simpa using hf 3 f3 rfl⟩
/-- One operation. -/
structure OpR where
  kind : Int
  n : Int
  k : RowB
  v : RowB
structure OpR.ok (o : OpR) (W : World) (B : Nat) : Prop where
  num : -9223372036854775808 ≤ o.n ∧ o.n ≤ 9223372036854775807
  k : o.k.ok W B
  v : o.v.ok W B
instance : Inhabited OpR := ⟨⟨0, 0, default, default⟩⟩
def OpR.cells (o : OpR) : List Value := [.int .i64 o.kind, .int .i64 o.n, .slice o.k.A o.k.l.length o.k.c, .slice o.v.A o.v.l.length o.v.c]
def opsC (L : List OpR) : List Value := L.flatMap OpR.cells
theorem opsC_len (L : List OpR) : (opsC L).length = L.length * 4 := by
  induction L with
  | nil => rfl
  | cons a L ih => simp only [opsC, List.flatMap_cons, List.length_append] at ih ⊢; rw [ih]; simp [OpR.cells]; omega
theorem opsC_get (L : List OpR) : ∀ (i : Nat) (h : i < L.length) (j : Nat), j < 4 → (opsC L)[i * 4 + j]? = (L[i].cells)[j]? := by
  induction L with
  | nil => intro i h; exact absurd h (by simp)
  | cons a L ih =>
    intro i h j hj
    cases i with
    | zero =>
      show (a.cells ++ opsC L)[0 * 4 + j]? = _
      rw [List.getElem?_append_left (by simp [OpR.cells]; omega)]
      simp
    | succ i =>
      show (a.cells ++ opsC L)[(i + 1) * 4 + j]? = _
      rw [List.getElem?_append_right (by simp [OpR.cells]; omega)]
      have : (i + 1) * 4 + j - a.cells.length = i * 4 + j := by simp [OpR.cells]; omega
      rw [this, ih i (by simpa using h) j hj]
      simp
theorem cells_op : Try.prog.cellsOf 29 = 4 := by kernel_rfl
theorem open_ops {H : Type} {enc : TypeId × Value → H} {W : World} {base : Nat} {v : Value} {d : DataW H} {p : List MemPlace} (hv : Value.okWide Try.prog W .any base 22 v)
    (h : DataW.Trod enc Try.prog W 0 (fun _ => true) true 22 v d p) (hsz : ∀ n ∈ d.weights Try.prog 22, n ≤ reachBytes) :
    ∃ (A : Option Addr) (L : List OpR) (c : Nat), v = .slice A L.length c ∧ Rd W W.heap.size A (opsC L) ∧ (∀ o ∈ L, o.ok W W.heap.size) := by
  obtain ⟨a0, len0, cap0, rfl⟩ := okWide_slice Try.underlying22 hv
  obtain ⟨fuel, hf⟩ := h
  rcases open_slice Try.underlying22 hf with ⟨hcs, _⟩ | ⟨x, len, cap, m, n, D, Pl, hcs, _, hl, hm, hmm, hx, hel⟩
  · simp [Value.cells] at hcs
    obtain ⟨rfl, rfl, rfl⟩ := hcs
    exact ⟨none, [], 0, rfl, Rd.emp _ _ _, by simp⟩
  · simp [Value.cells] at hcs
    obtain ⟨rfl, rfl, rfl⟩ := hcs
    simp only [if_true] at hmm
    subst hmm
    simp only [Prod.mk.injEq] at hx
    obtain ⟨rfl, -⟩ := hx
    rw [cells_op] at hel
    have hel2 : ∀ i, i < len0 → ∃ q : OpR, q.ok W W.heap.size ∧ ∀ j u, q.cells[j]? = some u → W.cell? ((x.add (i * 4)).add j) = some u := by
      intro i hi
      obtain ⟨cs', hc, ht⟩ := hel i (by omega)
      obtain ⟨y0, y1, y2, y3, n', hy, hlen, h0, h1, h2, h3⟩ := trod_struct4 Try.underlying29 ht
      obtain ⟨_, hcl, hat⟩ := World.cells?_some hc
      match cs', hcl with
      | [c0, c1, c2, c3], _ =>
        have g0 : DataW.trod enc Try.prog W 0 (fun _ => true) true n' 3 [c0] = some y0 := by simpa [show Try.prog.cellsOf 3 = 1 from by kernel_rfl] using h0
        have g1 : DataW.trod enc Try.prog W 0 (fun _ => true) true n' 3 [c1] = some y1 := by simpa [show Try.prog.cellsOf 3 = 1 from by kernel_rfl] using h1
        have g2 : DataW.trod enc Try.prog W 0 (fun _ => true) true n' 27 [c2] = some y2 := by simpa [show Try.prog.cellsOf 27 = 1 from by kernel_rfl] using h2
        have g3 : DataW.trod enc Try.prog W 0 (fun _ => true) true n' 27 [c3] = some y3 := by simpa [show Try.prog.cellsOf 27 = 1 from by kernel_rfl] using h3
        have hwt : ∀ (k : Nat) (t : TypeId) (y : DataW H × List MemPlace), (∀ nn ∈ y.1.weights Try.prog t, nn ∈ (D i).weights Try.prog 29) → ∀ nn ∈ y.1.weights Try.prog t, nn ≤ reachBytes := by
          intro _ t y hin nn hnn
          refine hsz nn ?_
          simp only [DataW.weights, Try.underlying22, List.mem_cons, List.mem_append]
          exact .inr (.inl (weightsAll_mem (d := D i) (List.mem_map.2 ⟨i, List.mem_range.2 hi, rfl⟩) _ (hin nn hnn)))
        obtain ⟨z0, e0, _, w0⟩ := DataW.trod_int Try.underlying3 g0
        obtain ⟨z1, e1, _, w1⟩ := DataW.trod_int Try.underlying3 g1
        have hDi : D i = .agg [y0.1, y1.1, y2.1, y3.1] := hy
        obtain ⟨r, hr, hrok⟩ := bytes_trod g2 (hwt 2 27 y2 (fun nn hnn => by rw [hDi]; simp only [DataW.weights, Try.underlying29]; simp [DataW.weightsEach, hnn]))
        obtain ⟨q, hq, hqok⟩ := bytes_trod g3 (hwt 3 27 y3 (fun nn hnn => by rw [hDi]; simp only [DataW.weights, Try.underlying29]; simp [DataW.weightsEach, hnn]))
        simp only [List.cons.injEq, and_true] at e0 e1
        subst e0 e1 hr hq
        refine ⟨⟨z0, z1, r, q⟩, ⟨fits_num w1, hrok, hqok⟩, fun j u hu => ?_⟩
        have hj : j < 4 := by
          have := (List.getElem?_eq_some_iff.1 hu).1
          simpa [OpR.cells] using this
        rw [hat j hj, ← hu]
        rfl
    obtain ⟨L, hL, hk⟩ := choose_rows len0 hel2
    subst hL
    refine ⟨some x, L, m, rfl, ?_, ?_⟩
    · have hcc : ∀ j u, (opsC L)[j]? = some u → W.cell? (x.add j) = some u := by
        intro j u hu
        have hj : j < L.length * 4 := by
          have := (List.getElem?_eq_some_iff.1 hu).1
          rwa [opsC_len] at this
        have hd : j = j / 4 * 4 + j % 4 := by omega
        have hk3 : j / 4 < L.length := by omega
        rw [hd, opsC_get L (j / 4) hk3 (j % 4) (by omega)] at hu
        have := (hk (j / 4) hk3).2 (j % 4) u hu
        rw [addAdd] at this
        rw [hd]
        exact this
      by_cases hb : x.block < W.heap.size
      · exact Rd.ofAddr hb hcc
      · intro hn
        obtain ⟨y, r, hyr⟩ := List.exists_cons_of_ne_nil hn
        have := hcc 0 y (by rw [hyr]; rfl)
        have h2 := World.block_lt_of_cell? W _ this
        simp [Addr.add] at h2
        omega
    · intro q hq
      obtain ⟨i, hi, rfl⟩ := List.mem_iff_getElem.1 hq
      exact (hk i hi).1
end Go.Proofs.Ytklhfegdjadgdaa
