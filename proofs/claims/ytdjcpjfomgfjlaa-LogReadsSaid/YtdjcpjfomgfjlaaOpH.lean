/- Rows of three numbers among the arguments, opened. -/
import Derived.Test.YtdjcpjfomgfjlaaJnA
namespace Go.Proofs.Ytdjcpjfomgfjlaa
open Go.ChangeShapes Go.WideShapes Go.ChangeAt Go.RowKit Go.Deep
set_option maxRecDepth 100000

/-- Three numbers. -/
structure Tri where
  a : Int
  b : Int
  c : Int
instance : Inhabited Tri := ⟨⟨0, 0, 0⟩⟩
def Tri.cells (o : Tri) : List Value := [.int .i64 o.a, .int .i64 o.b, .int .i64 o.c]
def tris (L : List Tri) : List Value := L.flatMap Tri.cells
theorem tris_len (L : List Tri) : (tris L).length = L.length * 3 := by
  induction L with
  | nil => rfl
  | cons a L ih => simp only [tris, List.flatMap_cons, List.length_append] at ih ⊢; rw [ih]; simp [Tri.cells]; omega
theorem tris_get (L : List Tri) : ∀ (i : Nat) (h : i < L.length) (j : Nat), j < 3 → (tris L)[i * 3 + j]? = (L[i].cells)[j]? := by
  induction L with
  | nil => intro i h; exact absurd h (by simp)
  | cons a L ih =>
    intro i h j hj
    cases i with
    | zero =>
      show (a.cells ++ tris L)[0 * 3 + j]? = _
      rw [List.getElem?_append_left (by simp [Tri.cells]; omega)]
      simp
    | succ i =>
      show (a.cells ++ tris L)[(i + 1) * 3 + j]? = _
      rw [List.getElem?_append_right (by simp [Tri.cells]; omega)]
      have : (i + 1) * 3 + j - a.cells.length = i * 3 + j := by simp [Tri.cells]; omega
      rw [this, ih i (by simpa using h) j hj]
      simp
theorem cells_tri : Try.prog.cellsOf 66 = 3 := by kernel_rfl
def Tri.ok (q : Tri) : Prop := (-9223372036854775808 ≤ q.a ∧ q.a ≤ 9223372036854775807) ∧ (-9223372036854775808 ≤ q.b ∧ q.b ≤ 9223372036854775807) ∧ (-9223372036854775808 ≤ q.c ∧ q.c ≤ 9223372036854775807)
theorem trod_arr3 {H : Type} {enc : TypeId × Value → H} {W : World} {fuel : Nat} {c0 c1 c2 : Value} {x : DataW H × List MemPlace} (h : DataW.trod enc Try.prog W 0 (fun _ => true) true fuel 66 [c0, c1, c2] = some x) :
    ∃ y0 y1 y2 n, DataW.trod enc Try.prog W 0 (fun _ => true) true n 3 [c0] = some y0 ∧ DataW.trod enc Try.prog W 0 (fun _ => true) true n 3 [c1] = some y1 ∧ DataW.trod enc Try.prog W 0 (fun _ => true) true n 3 [c2] = some y2 := by
  obtain ⟨xs, m, _, hx, _, hlen, hg⟩ := DataW.trod_array Try.underlying66 h
  match xs, hlen with
  | [y0, y1, y2], _ =>
    have g0 := hg 0 (by omega)
    have g1 := hg 1 (by omega)
    have g2 := hg 2 (by omega)
    rw [show Try.prog.cellsOf 3 = 1 from by kernel_rfl] at g0 g1 g2
    exact ⟨y0, y1, y2, m, by simpa using g0, by simpa using g1, by simpa using g2⟩
theorem open_tris {H : Type} {enc : TypeId × Value → H} {W : World} {base : Nat} {v : Value} {d : DataW H} {p : List MemPlace} (hv : Value.okWide Try.prog W .any base 64 v)
    (h : DataW.Trod enc Try.prog W 0 (fun _ => true) true 64 v d p) :
    ∃ (A : Option Addr) (L : List Tri) (c : Nat), v = .slice A L.length c ∧ Rd W W.heap.size A (tris L) ∧ (∀ o ∈ L, o.ok) := by
  obtain ⟨a0, len0, cap0, rfl⟩ := okWide_slice Try.underlying64 hv
  obtain ⟨fuel, hf⟩ := h
  rcases open_slice Try.underlying64 hf with ⟨hcs, _⟩ | ⟨x, len, cap, m, n, D, Pl, hcs, _, hl, hm, hmm, hx, hel⟩
  · simp [Value.cells] at hcs
    obtain ⟨rfl, rfl, rfl⟩ := hcs
    exact ⟨none, [], 0, rfl, Rd.emp _ _ _, by simp⟩
  · simp [Value.cells] at hcs
    obtain ⟨rfl, rfl, rfl⟩ := hcs
    simp only [if_true] at hmm
    subst hmm
    rw [cells_tri] at hel
    have hel2 : ∀ i, i < len0 → ∃ q : Tri, q.ok ∧ ∀ j u, q.cells[j]? = some u → W.cell? ((x.add (i * 3)).add j) = some u := by
      intro i hi
      obtain ⟨cs', hc, ht⟩ := hel i (by omega)
      obtain ⟨_, hcl, hat⟩ := World.cells?_some hc
      match cs', hcl with
      | [c0, c1, c2], _ =>
        obtain ⟨y0, y1, y2, n', g0, g1, g2⟩ := trod_arr3 ht
        obtain ⟨z0, e0, _, w0⟩ := DataW.trod_int Try.underlying3 g0
        obtain ⟨z1, e1, _, w1⟩ := DataW.trod_int Try.underlying3 g1
        obtain ⟨z2, e2, _, w2⟩ := DataW.trod_int Try.underlying3 g2
        simp only [List.cons.injEq, and_true] at e0 e1 e2
        subst e0 e1 e2
        refine ⟨⟨z0, z1, z2⟩, ⟨fits_num w0, fits_num w1, fits_num w2⟩, fun j u hu => ?_⟩
        have hj : j < 3 := by
          have := (List.getElem?_eq_some_iff.1 hu).1
          simpa [Tri.cells] using this
        rw [hat j hj, ← hu]
        rfl
    obtain ⟨L, hL, hk⟩ := choose_rows len0 hel2
    subst hL
    refine ⟨some x, L, m, rfl, ?_, ?_⟩
    · have hcc : ∀ j u, (tris L)[j]? = some u → W.cell? (x.add j) = some u := by
        intro j u hu
        have hj : j < L.length * 3 := by
          have := (List.getElem?_eq_some_iff.1 hu).1
          rwa [tris_len] at this
        have hd : j = j / 3 * 3 + j % 3 := by omega
        have hk3 : j / 3 < L.length := by omega
        rw [hd, tris_get L (j / 3) hk3 (j % 3) (by omega)] at hu
        have := (hk (j / 3) hk3).2 (j % 3) u hu
        rw [addAdd] at this
        rw [hd]
        exact this
      by_cases hb : x.block < W.heap.size
      · exact Rd.ofAddr hb hcc
      · intro hn
        obtain ⟨y, r, hyr⟩ := List.exists_cons_of_ne_nil hn
        have := hcc 0 y (by rw [hyr]; rfl)
        have h2 := World.block_lt_of_cell? W _ this
        simp [Addr.add] at h2
        omega
    · intro q hq
      obtain ⟨i, hi, rfl⟩ := List.mem_iff_getElem.1 hq
      exact (hk i hi).1
end Go.Proofs.Ytdjcpjfomgfjlaa
