/- JoOp, what this seat can fill of it. -/
import Derived.Test.YtgjjdmkoamjdpaaJnE
import Derived.Test.YtgjjdmkoamjdpaaJnD
import Derived.Deep.Strs
namespace Go.Proofs.Ytgjjdmkoamjdpaa
/- Views, lists of edges and edges among the arguments, opened. -/
open Go.ChangeShapes Go.WideShapes Go.ChangeAt Go.RowKit Go.Deep
set_option maxRecDepth 100000

/-- A list of edges of whatever length. -/
def EdsRaw (w : World) (A : Option Addr) (c : Nat) (l : List Ed) : Prop := Rd w w.heap.size A (edsC l) ∧ l.length ≤ c ∧ ∀ e ∈ l, e.Ok
def VW.Raw (w : World) (x : VW) : Prop := (Rd w w.heap.size x.oA (strs x.v.out) ∧ x.v.out.length ≤ x.oc) ∧ Rd w w.heap.size x.aA (atsC x.v.atoms) ∧ x.v.atoms.length ≤ x.ac
theorem EdsRaw.below {w w' : World} {A : Option Addr} {c : Nat} {l : List Ed} (h : EdsRaw w A c l) (hb : Below w.heap.size w w') : EdsRaw w' A c l := ⟨(h.1.below hb (Nat.le_refl _)).more hb.size, h.2⟩
theorem EdsRaw.ok {w : World} {A : Option Addr} {c : Nat} {l : List Ed} (h : EdsRaw w A c l) (hs : l.length ≤ 200) : Eds w A c l := ⟨h.1, h.2.1, h.2.2, hs⟩
theorem VW.Raw.below {w w' : World} {x : VW} (h : x.Raw w) (hb : Below w.heap.size w w') : x.Raw w' :=
  ⟨⟨(h.1.1.below hb (Nat.le_refl _)).more hb.size, h.1.2⟩, (h.2.1.below hb (Nat.le_refl _)).more hb.size, h.2.2⟩
theorem VW.Raw.ok {w : World} {x : VW} (h : x.Raw w) (h1 : x.v.out.length ≤ 100) (h2 : x.v.atoms.length ≤ 100) : x.Ok w := ⟨⟨h.1.1, h.1.2, h1⟩, h.2.1, h.2.2, h2⟩
theorem str_list (s : ByteArray) : s = ⟨s.data.toList.toArray⟩ := by cases s; simp
theorem fits64 {n : Int} (h : (Lit.int .i64 n).wf = true) : I64 n := by
  have b1 : IntKind.i64.min = -9223372036854775808 := by decide +kernel
  have b2 : IntKind.i64.max = 9223372036854775807 := by decide +kernel
  simp [Lit.wf] at h
  unfold I64
  omega
theorem edge_trod {H : Type} {enc : TypeId × Value → H} {W : World} {fuel : Nat} {cs : List Value} {y : DataW H × List MemPlace}
    (hf : DataW.trod enc Try.prog W 0 (fun _ => true) true fuel 34 cs = some y) : ∃ a : Ed, cs = edC a ∧ a.Ok := by
  obtain ⟨y0, y1, y2, m, _, hlen, h0, h1, h2⟩ := trod_struct3 Try.underlying34 hf
  have h3 : Try.prog.cellsOf 34 = 3 := by kernel_rfl
  have h4 : Try.prog.cellsOf 9 = 1 := by kernel_rfl
  have h5 : Try.prog.cellsOf 3 = 1 := by kernel_rfl
  match cs, hlen.trans h3 with
  | [c0, c1, c2], _ =>
    have g0 : DataW.trod enc Try.prog W 0 (fun _ => true) true m 3 [c0] = some y0 := by simpa [h5] using h0
    have g1 : DataW.trod enc Try.prog W 0 (fun _ => true) true m 9 [c1] = some y1 := by simpa [h4] using h1
    have g2 : DataW.trod enc Try.prog W 0 (fun _ => true) true m 3 [c2] = some y2 := by simpa [h5] using h2
    obtain ⟨z0, e0, _, w0⟩ := DataW.trod_int Try.underlying3 g0
    obtain ⟨s1, e1, _, w1⟩ := DataW.trod_string Try.underlying9 g1
    obtain ⟨z2, e2, _, w2⟩ := DataW.trod_int Try.underlying3 g2
    simp only [List.cons.injEq, and_true] at e0 e1 e2
    subst e0 e1 e2
    exact ⟨⟨z0, s1.data.toList, z2⟩, by unfold edC; simp, fits64 w0, fits64 w2, by simpa using w1⟩
/-- A list of three cells each. -/
theorem row3_trod {α : Type} [Inhabited α] (f : α → List Value) (hf3 : ∀ a, (f a).length = 3) (Q : α → Prop) {t e : TypeId} (ht : Try.prog.underlying t = some (.slice e)) (h3 : Try.prog.cellsOf e = 3) {H : Type} {enc : TypeId × Value → H} {W : World} {fuel : Nat} {v : Value} {y : DataW H × List MemPlace}
    (hel : ∀ (fuel : Nat) (cs : List Value) (y : DataW H × List MemPlace), DataW.trod enc Try.prog W 0 (fun _ => true) true fuel e cs = some y → ∃ a : α, cs = f a ∧ Q a)
    (hf : DataW.trod enc Try.prog W 0 (fun _ => true) true fuel t [v] = some y) : ∃ (A : Option Addr) (l : List α) (c : Nat), v = .slice A l.length c ∧ Rd W W.heap.size A (l.flatMap f) ∧ l.length ≤ c ∧ ∀ a ∈ l, Q a := by
  rcases open_slice ht hf with ⟨hcs, _⟩ | ⟨x, len, cap, m, n, D, Pl, hcs, _, hl, hm, hmm, hx, hes⟩
  · simp only [List.cons.injEq, and_true] at hcs
    subst hcs
    exact ⟨none, [], 0, rfl, Rd.emp _ _ _, Nat.le_refl _, fun _ h => (nomatch h)⟩
  · simp only [List.cons.injEq, and_true] at hcs
    subst hcs
    simp only [if_true] at hmm
    subst hmm
    rw [h3] at hes
    have hel2 : ∀ i, i < len → ∃ q : α, Q q ∧ ∀ j u, (f q)[j]? = some u → W.cell? ((x.add (i * 3)).add j) = some u := by
      intro i hi
      obtain ⟨cs', hc, htr⟩ := hes i (by omega)
      obtain ⟨a, rfl, hQ⟩ := hel n cs' _ htr
      obtain ⟨_, hcl, hat⟩ := World.cells?_some hc
      refine ⟨a, hQ, fun j u hu => ?_⟩
      have hj : j < 3 := by have := (List.getElem?_eq_some_iff.1 hu).1; rw [hf3] at this; exact this
      rw [hat j hj, ← hu]
    obtain ⟨L, hL, hk⟩ := choose_rows len hel2
    subst hL
    refine ⟨some x, L, m, rfl, rd_addr fun j u hu => ?_, hl, fun a ha => ?_⟩
    · have hlen : (L.flatMap f).length = L.length * 3 := by
        clear hk hel2 hes hl hx hu hf
        induction L with
        | nil => rfl
        | cons a L ih => rw [List.flatMap_cons, List.length_append, ih, hf3, List.length_cons]; omega
      have hj : j < L.length * 3 := by
        have := (List.getElem?_eq_some_iff.1 hu).1
        rwa [hlen] at this
      have hd : j = j / 3 * 3 + j % 3 := by omega
      have hk3 : j / 3 < L.length := by omega
      rw [hd, flat3_at f hf3 L (j / 3) (j % 3) hk3 (by omega)] at hu
      have := (hk (j / 3) hk3).2 (j % 3) u hu
      rw [addAdd] at this
      rw [hd]
      exact this
    · obtain ⟨i, hi, rfl⟩ := List.mem_iff_getElem.1 ha
      exact (hk i hi).1
theorem open_edges {H : Type} {enc : TypeId × Value → H} {W : World} {base : Nat} {v : Value} {d : DataW H} {p : List MemPlace} (hv : Value.okWide Try.prog W .any base 22 v)
    (h : DataW.Trod enc Try.prog W 0 (fun _ => true) true 22 v d p) : ∃ (A : Option Addr) (l : List Ed) (c : Nat), v = .slice A l.length c ∧ EdsRaw W A c l := by
  obtain ⟨a0, len0, cap0, rfl⟩ := okWide_slice Try.underlying22 hv
  obtain ⟨fuel, hf⟩ := h
  obtain ⟨A, l, c, e, h1, h2, h3⟩ := row3_trod edC (fun _ => rfl) Ed.Ok Try.underlying22 (by kernel_rfl) (fun _ _ _ h => edge_trod h) hf
  exact ⟨A, l, c, e, h1, h2, h3⟩
theorem open_edge {H : Type} {enc : TypeId × Value → H} {W : World} {base : Nat} {v : Value} {d : DataW H} {p : List MemPlace} (hv : Value.okWide Try.prog W .any base 34 v)
    (h : DataW.Trod enc Try.prog W 0 (fun _ => true) true 34 v d p) : ∃ e : Ed, v = edV e ∧ e.Ok := by
  obtain ⟨cs, rfl, hcs⟩ : ∃ cs : Array Value, v = .agg cs ∧ cs.size = Try.prog.cellsOf 34 := by
    simp only [Value.okWide, Try.underlying34] at hv
    obtain ⟨cs, h1, h2, _⟩ := hv
    exact ⟨cs, h1, h2⟩
  obtain ⟨l⟩ := cs
  obtain ⟨fuel, hf⟩ := h
  have hf' : DataW.trod enc Try.prog W 0 (fun _ => true) true fuel 34 l = some (d, p) := by simpa [Value.cells] using hf
  obtain ⟨a, rfl, hk⟩ := edge_trod hf'
  exact ⟨a, rfl, hk⟩
theorem trod_struct5 {H : Type} {enc : TypeId × Value → H} {P : Program} {w : World} {base : Nat} {spare : Nat → Bool} {held : Bool} {t : TypeId} {f0 f1 f2 f3 f4 : Field} {fuel : Nat} {cs : List Value} {x : DataW H × List MemPlace}
    (ht : P.underlying t = some (.struct #[f0, f1, f2, f3, f4])) (h : DataW.trod enc P w base spare held fuel t cs = some x) :
    ∃ y0 y1 y2 y3 y4 n, DataW.trod enc P w base spare held n f0.type ((cs.drop f0.offset).take (P.cellsOf f0.type)) = some y0 ∧
      DataW.trod enc P w base spare held n f1.type ((cs.drop f1.offset).take (P.cellsOf f1.type)) = some y1 ∧ DataW.trod enc P w base spare held n f2.type ((cs.drop f2.offset).take (P.cellsOf f2.type)) = some y2 ∧
      DataW.trod enc P w base spare held n f3.type ((cs.drop f3.offset).take (P.cellsOf f3.type)) = some y3 ∧ DataW.trod enc P w base spare held n f4.type ((cs.drop f4.offset).take (P.cellsOf f4.type)) = some y4 := by
  obtain ⟨xs, n, _, rfl, hl, hlen, hf⟩ := DataW.trod_struct ht h
  match xs, hlen with
  | [y0, y1, y2, y3, y4], _ => exact ⟨y0, y1, y2, y3, y4, n, by simpa using hf 0 f0 rfl, by simpa using hf 1 f1 rfl, by simpa using hf 2 f2 rfl, by simpa using hf 3 f3 rfl, by simpa using hf 4 f4 rfl⟩
/-- No text is longer than a text can be. -/
structure Vw.Lens (v : Vw) : Prop where
  name : v.name.length ≤ maxLen
  label : v.label.length ≤ maxLen
  out : ∀ s ∈ v.out, s.length ≤ maxLen
  ats : ∀ a ∈ v.atoms, a.fr.length ≤ maxLen ∧ a.lab.length ≤ maxLen ∧ a.to.length ≤ maxLen
end Go.Proofs.Ytgjjdmkoamjdpaa
