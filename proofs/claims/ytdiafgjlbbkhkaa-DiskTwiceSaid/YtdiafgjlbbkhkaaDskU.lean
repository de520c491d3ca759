/- Scripts of a disk's calls among the arguments, opened. -/
import Derived.Test.YtdiafgjlbbkhkaaDskV
import Derived.Test.YtdiafgjlbbkhkaaPlayA
namespace Go.Proofs.Ytdiafgjlbbkhkaa
open Go.ChangeShapes Go.WideShapes Go.ChangeAt Go.RowKit Go.Deep
set_option maxRecDepth 100000

theorem trod_struct6 {H : Type} {enc : TypeId × Value → H} {P : Program} {w : World} {base : Nat} {spare : Nat → Bool} {held : Bool} {t : TypeId} {f0 f1 f2 f3 f4 f5 : Field} {fuel : Nat} {cs : List Value} {x : DataW H × List MemPlace}
    (ht : P.underlying t = some (.struct #[f0, f1, f2, f3, f4, f5])) (h : DataW.trod enc P w base spare held fuel t cs = some x) :
    ∃ y0 y1 y2 y3 y4 y5 n, x.1 = .agg [y0.1, y1.1, y2.1, y3.1, y4.1, y5.1] ∧ cs.length = P.cellsOf t ∧ DataW.trod enc P w base spare held n f0.type ((cs.drop f0.offset).take (P.cellsOf f0.type)) = some y0 ∧
      DataW.trod enc P w base spare held n f1.type ((cs.drop f1.offset).take (P.cellsOf f1.type)) = some y1 ∧ DataW.trod enc P w base spare held n f2.type ((cs.drop f2.offset).take (P.cellsOf f2.type)) = some y2 ∧
      DataW.trod enc P w base spare held n f3.type ((cs.drop f3.offset).take (P.cellsOf f3.type)) = some y3 ∧ DataW.trod enc P w base spare held n f4.type ((cs.drop f4.offset).take (P.cellsOf f4.type)) = some y4 ∧
      DataW.trod enc P w base spare held n f5.type ((cs.drop f5.offset).take (P.cellsOf f5.type)) = some y5 := by
  obtain ⟨xs, n, _, rfl, hl, hlen, hf⟩ := DataW.trod_struct ht h
  match xs, hlen with
  | [y0, y1, y2, y3, y4, y5], _ => exact ⟨y0, y1, y2, y3, y4, y5, n, by simp, hl, by simpa using hf 0 f0 rfl, by simpa using hf 1 f1 rfl, by simpa using hf 2 f2 rfl, by simpa using hf 3 f3 rfl, by simpa using hf 4 f4 rfl, by simpa using hf 5 f5 rfl⟩
theorem bytes_bool : Try.prog.bytesOf 4 = 1 := by kernel_rfl
theorem flags_trod {H : Type} {enc : TypeId × Value → H} {W : World} {fuel : Nat} {v : Value} {y : DataW H × List MemPlace}
    (hf : DataW.trod enc Try.prog W 0 (fun _ => true) true fuel 29 [v] = some y) (hsz : ∀ n ∈ y.1.weights Try.prog 29, n ≤ reachBytes) :
    ∃ (A : Option Addr) (l : List Bool) (c : Nat), v = .slice A l.length c ∧ Rd W W.heap.size A (l.map Value.bool) ∧ l.length ≤ 140737488351232 := by
  rcases open_bools Try.underlying29 Try.underlying4 (by kernel_rfl) hf with ⟨hcs, _⟩ | ⟨x, len0, cap0, Bf, hcs, _, hl, hm, hx, hcell⟩
  · simp only [List.cons.injEq, and_true] at hcs
    subst hcs
    exact ⟨none, [], 0, rfl, Rd.emp _ _ _, by simp⟩
  · simp only [List.cons.injEq, and_true] at hcs
    subst hcs
    have hw : len0 ≤ 140737488351232 := by
      have hy : y.1 = boolRow (some x) len0 cap0 Bf := by rw [hx]
      have := hsz ((len0 + (cap0 - len0)) * Try.prog.bytesOf 4) (by rw [hy]; simp [boolRow, DataW.weights, Try.underlying29])
      rw [bytes_bool] at this
      simp only [reachBytes] at this
      omega
    refine ⟨some x, (List.range len0).map Bf, cap0, by simp, ?_, by simpa using hw⟩
    have hcc : ∀ j u, (((List.range len0).map Bf).map Value.bool)[j]? = some u → W.cell? (x.add j) = some u := by
      intro j u hu
      have hj : j < len0 := by simpa using (List.getElem?_eq_some_iff.1 hu).1
      rw [hcell j (by omega), ← hu]
      simp [hj]
    by_cases hb : x.block < W.heap.size
    · exact Rd.ofAddr hb hcc
    · intro hn
      obtain ⟨y, r, hyr⟩ := List.exists_cons_of_ne_nil hn
      have := hcc 0 y (by rw [hyr]; rfl)
      have h2 := World.block_lt_of_cell? W _ this
      simp [Addr.add] at h2
      omega
instance : Inhabited OpR := ⟨⟨0, 0, 0, default, false, none, [], 0⟩⟩
def OpR.cells (o : OpR) : List Value := [.int .i64 o.kind, .int .i64 o.n, .int .i64 o.cut, .slice o.b.A o.b.l.length o.b.c, .bool o.raw, .slice o.KA o.keep.length o.kc]
def opsC (L : List OpR) : List Value := L.flatMap OpR.cells
theorem opsC_len (L : List OpR) : (opsC L).length = L.length * 6 := by
  induction L with
  | nil => rfl
  | cons a L ih => simp only [opsC, List.flatMap_cons, List.length_append] at ih ⊢; rw [ih]; simp [OpR.cells]; omega
theorem opsC_get (L : List OpR) : ∀ (i : Nat) (h : i < L.length) (j : Nat), j < 6 → (opsC L)[i * 6 + j]? = (L[i].cells)[j]? := by
  induction L with
  | nil => intro i h; exact absurd h (by simp)
  | cons a L ih =>
    intro i h j hj
    cases i with
    | zero =>
      show (a.cells ++ opsC L)[0 * 6 + j]? = _
      rw [List.getElem?_append_left (by simp [OpR.cells]; omega)]
      simp
    | succ i =>
      show (a.cells ++ opsC L)[(i + 1) * 6 + j]? = _
      rw [List.getElem?_append_right (by simp [OpR.cells]; omega)]
      have : (i + 1) * 6 + j - a.cells.length = i * 6 + j := by simp [OpR.cells]; omega
      rw [this, ih i (by simpa using h) j hj]
      simp
theorem cells_op : Try.prog.cellsOf 38 = 6 := by kernel_rfl
theorem open_ops {H : Type} {enc : TypeId × Value → H} {W : World} {base : Nat} {v : Value} {d : DataW H} {p : List MemPlace} (hv : Value.okWide Try.prog W .any base 22 v)
    (h : DataW.Trod enc Try.prog W 0 (fun _ => true) true 22 v d p) (hsz : ∀ n ∈ d.weights Try.prog 22, n ≤ reachBytes) :
    ∃ (A : Option Addr) (L : List OpR) (c : Nat), v = .slice A L.length c ∧ Rd W W.heap.size A (opsC L) ∧ (∀ o ∈ L, o.ok W W.heap.size) := by
  obtain ⟨a0, len0, cap0, rfl⟩ := okWide_slice Try.underlying22 hv
  obtain ⟨fuel, hf⟩ := h
  rcases open_slice Try.underlying22 hf with ⟨hcs, _⟩ | ⟨x, len, cap, m, n, D, Pl, hcs, _, hl, hm, hmm, hx, hel⟩
  · simp [Value.cells] at hcs
    obtain ⟨rfl, rfl, rfl⟩ := hcs
    exact ⟨none, [], 0, rfl, Rd.emp _ _ _, by simp⟩
  · simp [Value.cells] at hcs
    obtain ⟨rfl, rfl, rfl⟩ := hcs
    simp only [if_true] at hmm
    subst hmm
    simp only [Prod.mk.injEq] at hx
    obtain ⟨rfl, -⟩ := hx
    rw [cells_op] at hel
    have hel2 : ∀ i, i < len0 → ∃ q : OpR, q.ok W W.heap.size ∧ ∀ j u, q.cells[j]? = some u → W.cell? ((x.add (i * 6)).add j) = some u := by
      intro i hi
      obtain ⟨cs', hc, ht⟩ := hel i (by omega)
      obtain ⟨y0, y1, y2, y3, y4, y5, n', hy, hlen, h0, h1, h2, h3, h4, h5⟩ := trod_struct6 Try.underlying38 ht
      obtain ⟨_, hcl, hat⟩ := World.cells?_some hc
      match cs', hcl with
      | [c0, c1, c2, c3, c4, c5], _ =>
        have g0 : DataW.trod enc Try.prog W 0 (fun _ => true) true n' 3 [c0] = some y0 := by simpa [show Try.prog.cellsOf 3 = 1 from by kernel_rfl] using h0
        have g1 : DataW.trod enc Try.prog W 0 (fun _ => true) true n' 3 [c1] = some y1 := by simpa [show Try.prog.cellsOf 3 = 1 from by kernel_rfl] using h1
        have g2 : DataW.trod enc Try.prog W 0 (fun _ => true) true n' 3 [c2] = some y2 := by simpa [show Try.prog.cellsOf 3 = 1 from by kernel_rfl] using h2
        have g3 : DataW.trod enc Try.prog W 0 (fun _ => true) true n' 36 [c3] = some y3 := by simpa [show Try.prog.cellsOf 36 = 1 from by kernel_rfl] using h3
        have g4 : DataW.trod enc Try.prog W 0 (fun _ => true) true n' 4 [c4] = some y4 := by simpa [show Try.prog.cellsOf 4 = 1 from by kernel_rfl] using h4
        have g5 : DataW.trod enc Try.prog W 0 (fun _ => true) true n' 29 [c5] = some y5 := by simpa [show Try.prog.cellsOf 29 = 1 from by kernel_rfl] using h5
        have hwt : ∀ (k : Nat) (t : TypeId) (y : DataW H × List MemPlace), (∀ nn ∈ y.1.weights Try.prog t, nn ∈ (D i).weights Try.prog 38) → ∀ nn ∈ y.1.weights Try.prog t, nn ≤ reachBytes := by
          intro _ t y hin nn hnn
          refine hsz nn ?_
          simp only [DataW.weights, Try.underlying22, List.mem_cons, List.mem_append]
          exact .inr (.inl (weightsAll_mem (d := D i) (List.mem_map.2 ⟨i, List.mem_range.2 hi, rfl⟩) _ (hin nn hnn)))
        obtain ⟨z0, e0, _, w0⟩ := DataW.trod_int Try.underlying3 g0
        obtain ⟨z1, e1, _, w1⟩ := DataW.trod_int Try.underlying3 g1
        obtain ⟨z2, e2, _, _⟩ := DataW.trod_int Try.underlying3 g2
        obtain ⟨b, e4, _⟩ := DataW.trod_bool Try.underlying4 g4
        have hDi : D i = .agg [y0.1, y1.1, y2.1, y3.1, y4.1, y5.1] := hy
        obtain ⟨r, hr, hrok⟩ := bytes_trod g3 (hwt 3 36 y3 (fun nn hnn => by rw [hDi]; simp only [DataW.weights, Try.underlying38]; simp [DataW.weightsEach, hnn]))
        obtain ⟨KA, kl, kc, hk, hkr, hkl⟩ := flags_trod g5 (hwt 5 29 y5 (fun nn hnn => by rw [hDi]; simp only [DataW.weights, Try.underlying38]; simp [DataW.weightsEach, hnn]))
        simp only [List.cons.injEq, and_true] at e0 e1 e2 e4
        subst e0 e1 e2 e4 hr hk
        refine ⟨⟨z0, z1, z2, r, b, KA, kl, kc⟩, ⟨fits_num w1, hrok, hkr, hkl⟩, fun j u hu => ?_⟩
        have hj : j < 6 := by
          have := (List.getElem?_eq_some_iff.1 hu).1
          simpa [OpR.cells] using this
        rw [hat j hj, ← hu]
        rfl
    obtain ⟨L, hL, hk⟩ := choose_rows len0 hel2
    subst hL
    refine ⟨some x, L, m, rfl, ?_, ?_⟩
    · have hcc : ∀ j u, (opsC L)[j]? = some u → W.cell? (x.add j) = some u := by
        intro j u hu
        have hj : j < L.length * 6 := by
          have := (List.getElem?_eq_some_iff.1 hu).1
          rwa [opsC_len] at this
        have hd : j = j / 6 * 6 + j % 6 := by omega
        have hk3 : j / 6 < L.length := by omega
        rw [hd, opsC_get L (j / 6) hk3 (j % 6) (by omega)] at hu
        have := (hk (j / 6) hk3).2 (j % 6) u hu
        rw [addAdd] at this
        rw [hd]
        exact this
      by_cases hb : x.block < W.heap.size
      · exact Rd.ofAddr hb hcc
      · intro hn
        obtain ⟨y, r, hyr⟩ := List.exists_cons_of_ne_nil hn
        have := hcc 0 y (by rw [hyr]; rfl)
        have h2 := World.block_lt_of_cell? W _ this
        simp [Addr.add] at h2
        omega
    · intro q hq
      obtain ⟨i, hi, rfl⟩ := List.mem_iff_getElem.1 hq
      exact (hk i hi).1
end Go.Proofs.Ytdiafgjlbbkhkaa
