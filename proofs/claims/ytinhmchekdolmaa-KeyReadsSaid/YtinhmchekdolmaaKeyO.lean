/- What the arguments of this seat's statements are, opened to lists: bytes, parts. -/
import Derived.Test.YtinhmchekdolmaaProg
import Derived.Test.YtinhmchekdolmaaKeyC
import Derived.ProofKit
import Derived.SizedLaws
import Derived.Deep.Slices
import Derived.Deep.Fields
import Derived.Deep.Strs
import Derived.ChangeSame
import Derived.OpenShut
import Derived.KernelRfl
namespace Go.Proofs.Ytinhmchekdolmaa
open Go.ChangeShapes Go.WideShapes Go.ChangeAt Go.RowKit Go.Deep

theorem weights_of {H : Type} {ts : List TypeId} {ds : List (DataW H)} (h : (DataW.weightsEach Try.prog ts ds).all (· ≤ reachBytes) = true) {j : Nat} {t : TypeId} {d : DataW H} (ht : ts[j]? = some t) (hd : ds[j]? = some d) :
    ∀ n ∈ d.weights Try.prog t, n ≤ reachBytes := fun n hn => by
  have := List.all_eq_true.1 h _ (DataW.weights_mem_each ht hd n hn)
  simpa using this
theorem weightsAll_mem {H : Type} {P : Program} {e : TypeId} : ∀ {l : List (DataW H)} {d : DataW H}, d ∈ l → ∀ n ∈ d.weights P e, n ∈ DataW.weightsAll P e l
  | [], _, h, _, _ => by cases h
  | x :: r, d, h, n, hn => by
    simp only [DataW.weightsAll, List.mem_append]
    rcases List.mem_cons.1 h with rfl | h
    · exact .inl hn
    · exact .inr (weightsAll_mem h n hn)

theorem bytes_u8 : Try.prog.bytesOf 5 = 1 := by kernel_rfl
theorem bytes_part : Try.prog.bytesOf 38 = 32 := by kernel_rfl
theorem cells_part : Try.prog.cellsOf 38 = 3 := by kernel_rfl

/-- Numbers that fit a byte are bytes. -/
theorem ints_u8 : ∀ (zs : List Int), (∀ n ∈ zs, (Lit.int .u8 n).wf = true) → ∃ l : List UInt8, zs = l.map (fun b => (b.toNat : Int))
  | [], _ => ⟨[], rfl⟩
  | z :: zs, h => by
    obtain ⟨l, rfl⟩ := ints_u8 zs fun n hn => h n (List.mem_cons_of_mem _ hn)
    have hz := h z (List.mem_cons_self ..)
    have hb : 0 ≤ z ∧ z ≤ 255 := by
      have b1 : IntKind.u8.min = 0 := by decide +kernel
      have b2 : IntKind.u8.max = 255 := by decide +kernel
      simp [Lit.wf] at hz
      omega
    refine ⟨UInt8.ofNat z.toNat :: l, ?_⟩
    simp [UInt8.toNat_ofNat']
    omega

theorem open_bytes {H : Type} {enc : TypeId × Value → H} {W : World} {base : Nat} {v : Value} {d : DataW H} {p : List MemPlace} (hv : Value.okWide Try.prog W .any base 26 v)
    (h : DataW.Trod enc Try.prog W 0 (fun _ => true) true 26 v d p) (hsz : ∀ n ∈ d.weights Try.prog 26, n ≤ reachBytes) :
    ∃ (A : Option Addr) (l : List UInt8) (c : Nat), v = .slice A l.length c ∧ Rd W W.heap.size A (u8s l) ∧ l.length ≤ c ∧ c ≤ 140737488351232 := by
  obtain ⟨a0, len0, cap0, rfl⟩ := okWide_slice Try.underlying26 hv
  obtain ⟨fuel, hf⟩ := h
  rcases open_ints Try.underlying26 Try.underlying5 (by kernel_rfl) hf with ⟨hcs, _⟩ | ⟨x, len, c, zs, hcs, _, hl, hm, hz, hx, hcell, hwz⟩
  · simp [Value.cells] at hcs
    obtain ⟨rfl, rfl, rfl⟩ := hcs
    exact ⟨none, [], 0, rfl, Rd.emp _ _ _, by simp, by omega⟩
  · simp [Value.cells] at hcs
    obtain ⟨rfl, rfl, rfl⟩ := hcs
    simp only [if_true] at hz
    simp only [Prod.mk.injEq] at hx
    obtain ⟨rfl, -⟩ := hx
    have hw := hsz ((((lits (H := H) .u8 (zs.take len0)).length + (lits (H := H) .u8 (zs.drop len0)).length)) * Try.prog.bytesOf 5) (by simp [DataW.weights, Try.underlying26])
    rw [bytes_u8] at hw
    simp only [lits, List.length_map, List.length_take, List.length_drop, reachBytes] at hw
    obtain ⟨l, rfl⟩ := ints_u8 zs hwz
    rw [List.length_map] at hz
    have hll : (l.take len0).length = len0 := by rw [List.length_take]; omega
    refine ⟨some x, l.take len0, cap0, by rw [hll], ?_, by omega, by simp at hw; omega⟩
    have hcc : ∀ j u, (u8s (l.take len0))[j]? = some u → W.cell? (x.add j) = some u := by
      intro j u hu
      have hj : j < (u8s (l.take len0)).length := (List.getElem?_eq_some_iff.1 hu).1
      rw [u8s_length, hll] at hj
      rw [hcell j (by simp; omega), ← hu]
      simp [u8s, hj, List.getElem?_eq_getElem (show j < l.length by omega)]
    by_cases hb : x.block < W.heap.size
    · exact Rd.ofAddr hb hcc
    · intro hn
      obtain ⟨y, r, hyr⟩ := List.exists_cons_of_ne_nil hn
      have := hcc 0 y (by rw [hyr]; rfl)
      have h2 := World.block_lt_of_cell? W _ this
      simp [Addr.add] at h2
      omega

theorem chooseParts {p : Nat → KPart → Prop} : ∀ (m : Nat), (∀ i, i < m → ∃ q, p i q) → ∃ ks : List KPart, ks.length = m ∧ ∀ i (h : i < ks.length), p i ks[i]
  | 0, _ => ⟨[], rfl, fun i h => absurd h (by simp)⟩
  | m + 1, hp => by
    obtain ⟨ks, hl, hk⟩ := chooseParts m fun i hi => hp i (by omega)
    obtain ⟨q, hq⟩ := hp m (by omega)
    refine ⟨ks ++ [q], by simp [hl], fun i h => ?_⟩
    rcases Nat.lt_or_ge i ks.length with h1 | h1
    · rw [List.getElem_append_left h1]; exact hk i h1
    · have : i = m := by simp at h; omega
      subst this
      rw [List.getElem_append_right h1]
      simpa [hl] using hq

theorem open_parts {H : Type} {enc : TypeId × Value → H} {W : World} {base : Nat} {v : Value} {d : DataW H} {p : List MemPlace} (hv : Value.okWide Try.prog W .any base 22 v)
    (h : DataW.Trod enc Try.prog W 0 (fun _ => true) true 22 v d p) (hsz : ∀ n ∈ d.weights Try.prog 22, n ≤ reachBytes) :
    ∃ (A : Option Addr) (ks : List KPart) (c : Nat), v = .slice A ks.length c ∧ Rd W W.heap.size A (pcs ks) ∧ (∀ q ∈ ks, q.fits) ∧ ks.length ≤ c ∧ c ≤ 4398046511104 := by
  obtain ⟨a0, len0, cap0, rfl⟩ := okWide_slice Try.underlying22 hv
  obtain ⟨fuel, hf⟩ := h
  rcases open_slice Try.underlying22 hf with ⟨hcs, _⟩ | ⟨x, len, cap, m, n, D, Pl, hcs, _, hl, hm, hmm, hx, hel⟩
  · simp [Value.cells] at hcs
    obtain ⟨rfl, rfl, rfl⟩ := hcs
    exact ⟨none, [], 0, rfl, Rd.emp _ _ _, by simp, by simp, by omega⟩
  · simp [Value.cells] at hcs
    obtain ⟨rfl, rfl, rfl⟩ := hcs
    simp only [if_true] at hmm
    subst hmm
    simp only [Prod.mk.injEq] at hx
    obtain ⟨rfl, -⟩ := hx
    rw [cells_part] at hel
    have hw := hsz ((((List.range len0).map D).length + ((List.range (m - len0)).map fun j => D (len0 + j)).length) * Try.prog.bytesOf 38) (by simp [DataW.weights, Try.underlying22])
    rw [bytes_part] at hw
    simp only [List.length_map, List.length_range, reachBytes] at hw
    have hel2 : ∀ i, i < len0 → ∃ q : KPart, q.fits ∧ ∀ j u, q.cells.toList[j]? = some u → W.cell? ((x.add (i * 3)).add j) = some u := by
      intro i hi
      obtain ⟨cs', hc, ht⟩ := hel i (by omega)
      obtain ⟨y0, y1, y2, n', hy, hlen, h0, h1, h2⟩ := trod_struct3 Try.underlying38 ht
      obtain ⟨_, hcl, hat⟩ := World.cells?_some hc
      match cs', hcl with
      | [c0, c1, c2], _ =>
        have g0 : DataW.trod enc Try.prog W 0 (fun _ => true) true n' 4 [c0] = some y0 := by simpa [show Try.prog.cellsOf 4 = 1 from by kernel_rfl] using h0
        have g1 : DataW.trod enc Try.prog W 0 (fun _ => true) true n' 9 [c1] = some y1 := by simpa [show Try.prog.cellsOf 9 = 1 from by kernel_rfl] using h1
        have g2 : DataW.trod enc Try.prog W 0 (fun _ => true) true n' 3 [c2] = some y2 := by simpa [show Try.prog.cellsOf 3 = 1 from by kernel_rfl] using h2
        obtain ⟨b, e0, _⟩ := DataW.trod_bool Try.underlying4 g0
        obtain ⟨s, e1, hy1, _⟩ := DataW.trod_string Try.underlying9 g1
        obtain ⟨z, e2, hy2, hzw⟩ := DataW.trod_int Try.underlying3 g2
        simp only [List.cons.injEq, and_true] at e0 e1 e2
        subst e0 e1 e2
        simp only [Prod.mk.injEq] at hy
        refine ⟨⟨b, s, z⟩, ⟨?_, ?_⟩, ?_⟩
        · have hs := hsz s.data.toList.length (by
            simp only [DataW.weights, Try.underlying22, List.mem_cons, List.mem_append]
            refine .inr (.inl (weightsAll_mem (d := D i) (List.mem_map.2 ⟨i, List.mem_range.2 hi, rfl⟩) _ ?_))
            rw [hy.1, hy1]
            simp [DataW.weights, Try.underlying38, DataW.weightsEach])
          have : s.data.toList.length = s.size := by simp
          simp only [reachBytes] at hs
          show s.size ≤ _
          omega
        · have b1 : IntKind.i64.min = -9223372036854775808 := by decide +kernel
          have b2 : IntKind.i64.max = 9223372036854775807 := by decide +kernel
          simp [Lit.wf] at hzw
          show -9223372036854775808 ≤ z ∧ z ≤ 9223372036854775807
          omega
        · intro j u hu
          have hj : j < 3 := by
            have := (List.getElem?_eq_some_iff.1 hu).1
            simpa [KPart.cells] using this
          rw [hat j hj, ← hu]
          rfl
    obtain ⟨ks, hkl, hk⟩ := chooseParts len0 hel2
    subst hkl
    refine ⟨some x, ks, m, rfl, ?_, ?_, by omega, by omega⟩
    · have hcc : ∀ j u, (pcs ks)[j]? = some u → W.cell? (x.add j) = some u := by
        intro j u hu
        have hj : j < ks.length * 3 := by
          have := (List.getElem?_eq_some_iff.1 hu).1
          rwa [pcs_length] at this
        have hd : j = j / 3 * 3 + j % 3 := by omega
        have hk3 : j / 3 < ks.length := by omega
        rw [hd, pcs_get ks (j / 3) hk3 (j % 3) (by omega)] at hu
        have := (hk (j / 3) hk3).2 (j % 3) u hu
        rw [addAdd] at this
        rw [hd]
        exact this
      by_cases hb : x.block < W.heap.size
      · exact Rd.ofAddr hb hcc
      · intro hn
        obtain ⟨y, r, hyr⟩ := List.exists_cons_of_ne_nil hn
        have := hcc 0 y (by rw [hyr]; rfl)
        have h2 := World.block_lt_of_cell? W _ this
        simp [Addr.add] at h2
        omega
    · intro q hq
      obtain ⟨i, hi, rfl⟩ := List.mem_iff_getElem.1 hq
      exact (hk i hi).1

theorem fits_num {n : Int} (h : (Lit.int .i64 n).wf = true) : -9223372036854775808 ≤ n ∧ n ≤ 9223372036854775807 := by
  have b1 : IntKind.i64.min = -9223372036854775808 := by decide +kernel
  have b2 : IntKind.i64.max = 9223372036854775807 := by decide +kernel
  simp [Lit.wf] at h
  omega
theorem open_arr2 {H : Type} {enc : TypeId × Value → H} {W : World} {base : Nat} {v : Value} {d : DataW H} {p : List MemPlace} {t e : TypeId} (ht : Try.prog.underlying t = some (.array 2 e)) (hc : Try.prog.cellsOf t = 2) (he : Try.prog.cellsOf e = 1)
    (hv : Value.okWide Try.prog W .any base t v) (h : DataW.Trod enc Try.prog W 0 (fun _ => true) true t v d p) :
    ∃ (c0 c1 : Value) (y0 y1 : DataW H × List MemPlace) (m : Nat), v = .agg #[c0, c1] ∧ d = .agg [y0.1, y1.1] ∧ DataW.trod enc Try.prog W 0 (fun _ => true) true m e [c0] = some y0 ∧ DataW.trod enc Try.prog W 0 (fun _ => true) true m e [c1] = some y1 := by
  obtain ⟨cs, rfl, hcs⟩ : ∃ cs : Array Value, v = .agg cs ∧ cs.size = Try.prog.cellsOf t := by
    simp only [Value.okWide, ht] at hv
    obtain ⟨cs, h1, h2, _⟩ := hv
    exact ⟨cs, h1, h2⟩
  obtain ⟨l⟩ := cs
  match l, hcs.trans hc with
  | [c0, c1], _ =>
    obtain ⟨fuel, hf⟩ := h
    obtain ⟨xs, m, _, hx, _, hlen, hg⟩ := DataW.trod_array ht hf
    match xs, hlen with
    | [y0, y1], _ =>
      simp only [Prod.mk.injEq] at hx
      have g0 := hg 0 (by omega)
      have g1 := hg 1 (by omega)
      rw [he] at g0 g1
      exact ⟨c0, c1, y0, y1, m, rfl, by simpa using hx.1, by simpa [Value.cells] using g0, by simpa [Value.cells] using g1⟩

theorem open_ints2 {H : Type} {enc : TypeId × Value → H} {W : World} {base : Nat} {v : Value} {d : DataW H} {p : List MemPlace} (hv : Value.okWide Try.prog W .any base 50 v)
    (h : DataW.Trod enc Try.prog W 0 (fun _ => true) true 50 v d p) :
    ∃ m n : Int, v = .agg #[.int .i64 m, .int .i64 n] ∧ (-9223372036854775808 ≤ m ∧ m ≤ 9223372036854775807) ∧ (-9223372036854775808 ≤ n ∧ n ≤ 9223372036854775807) := by
  obtain ⟨c0, c1, y0, y1, m, rfl, _, g0, g1⟩ := open_arr2 Try.underlying50 (by kernel_rfl) (by kernel_rfl) hv h
  obtain ⟨a, e0, _, wa⟩ := DataW.trod_int Try.underlying3 g0
  obtain ⟨b, e1, _, wb⟩ := DataW.trod_int Try.underlying3 g1
  simp only [List.cons.injEq, and_true] at e0 e1
  subst e0 e1
  exact ⟨a, b, rfl, fits_num wa, fits_num wb⟩

theorem open_strs2 {H : Type} {enc : TypeId × Value → H} {W : World} {base : Nat} {v : Value} {d : DataW H} {p : List MemPlace} (hv : Value.okWide Try.prog W .any base 51 v)
    (h : DataW.Trod enc Try.prog W 0 (fun _ => true) true 51 v d p) (hsz : ∀ n ∈ d.weights Try.prog 51, n ≤ reachBytes) :
    ∃ s t : ByteArray, v = .agg #[.string s, .string t] ∧ s.size ≤ 140737488351232 ∧ t.size ≤ 140737488351232 := by
  obtain ⟨c0, c1, y0, y1, m, rfl, rfl, g0, g1⟩ := open_arr2 Try.underlying51 (by kernel_rfl) (by kernel_rfl) hv h
  obtain ⟨a, e0, h0, _⟩ := DataW.trod_string Try.underlying9 g0
  obtain ⟨b, e1, h1, _⟩ := DataW.trod_string Try.underlying9 g1
  simp only [List.cons.injEq, and_true] at e0 e1
  subst e0 e1 h0 h1
  have s0 := hsz a.data.toList.length (by simp [DataW.weights, Try.underlying51, DataW.weightsAll])
  have s1 := hsz b.data.toList.length (by simp [DataW.weights, Try.underlying51, DataW.weightsAll])
  have l0 : a.data.toList.length = a.size := by simp
  have l1 : b.data.toList.length = b.size := by simp
  simp only [reachBytes] at s0 s1
  exact ⟨a, b, rfl, by omega, by omega⟩
end Go.Proofs.Ytinhmchekdolmaa
