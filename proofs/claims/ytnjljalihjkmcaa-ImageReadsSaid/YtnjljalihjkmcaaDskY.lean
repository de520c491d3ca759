/- Lists of bytes among the arguments, opened. -/
import Derived.Test.YtnjljalihjkmcaaDskZ
namespace Go.Proofs.Ytnjljalihjkmcaa
open Go.ChangeShapes Go.WideShapes Go.ChangeAt Go.RowKit Go.Deep
set_option maxRecDepth 100000

theorem bytes_u8 : Try.prog.bytesOf 5 = 1 := by kernel_rfl
/-- Numbers that fit a byte are bytes. -/
theorem ints_u8 : ∀ (zs : List Int), (∀ n ∈ zs, (Lit.int .u8 n).wf = true) → ∃ l : List UInt8, zs = l.map (fun b => (b.toNat : Int))
  | [], _ => ⟨[], rfl⟩
  | z :: zs, h => by
    obtain ⟨l, rfl⟩ := ints_u8 zs fun n hn => h n (List.mem_cons_of_mem _ hn)
    have hz := h z (List.mem_cons_self ..)
    have hb : 0 ≤ z ∧ z ≤ 255 := by
      have b1 : IntKind.u8.min = 0 := by decide +kernel
      have b2 : IntKind.u8.max = 255 := by decide +kernel
      simp [Lit.wf] at hz
      omega
    refine ⟨UInt8.ofNat z.toNat :: l, ?_⟩
    simp [UInt8.toNat_ofNat']
    omega

theorem open_bytes {H : Type} {enc : TypeId × Value → H} {W : World} {base : Nat} {v : Value} {d : DataW H} {p : List MemPlace} (hv : Value.okWide Try.prog W .any base 45 v)
    (h : DataW.Trod enc Try.prog W 0 (fun _ => true) true 45 v d p) (hsz : ∀ n ∈ d.weights Try.prog 45, n ≤ reachBytes) :
    ∃ (A : Option Addr) (l : List UInt8) (c : Nat), v = .slice A l.length c ∧ Rd W W.heap.size A (u8s l) ∧ l.length ≤ c ∧ c ≤ 140737488351232 := by
  obtain ⟨a0, len0, cap0, rfl⟩ := okWide_slice Try.underlying45 hv
  obtain ⟨fuel, hf⟩ := h
  rcases open_ints Try.underlying45 Try.underlying5 (by kernel_rfl) hf with ⟨hcs, _⟩ | ⟨x, len, c, zs, hcs, _, hl, hm, hz, hx, hcell, hwz⟩
  · simp [Value.cells] at hcs
    obtain ⟨rfl, rfl, rfl⟩ := hcs
    exact ⟨none, [], 0, rfl, Rd.emp _ _ _, by simp, by omega⟩
  · simp [Value.cells] at hcs
    obtain ⟨rfl, rfl, rfl⟩ := hcs
    simp only [if_true] at hz
    simp only [Prod.mk.injEq] at hx
    obtain ⟨rfl, -⟩ := hx
    have hw := hsz ((((lits (H := H) .u8 (zs.take len0)).length + (lits (H := H) .u8 (zs.drop len0)).length)) * Try.prog.bytesOf 5) (by simp [DataW.weights, Try.underlying45])
    rw [bytes_u8] at hw
    simp only [lits, List.length_map, List.length_take, List.length_drop, reachBytes] at hw
    obtain ⟨l, rfl⟩ := ints_u8 zs hwz
    rw [List.length_map] at hz
    have hll : (l.take len0).length = len0 := by rw [List.length_take]; omega
    refine ⟨some x, l.take len0, cap0, by rw [hll], ?_, by omega, by simp at hw; omega⟩
    have hcc : ∀ j u, (u8s (l.take len0))[j]? = some u → W.cell? (x.add j) = some u := by
      intro j u hu
      have hj : j < (u8s (l.take len0)).length := (List.getElem?_eq_some_iff.1 hu).1
      rw [u8s_length, hll] at hj
      rw [hcell j (by simp; omega), ← hu]
      simp [u8s, hj, List.getElem?_eq_getElem (show j < l.length by omega)]
    by_cases hb : x.block < W.heap.size
    · exact Rd.ofAddr hb hcc
    · intro hn
      obtain ⟨y, r, hyr⟩ := List.exists_cons_of_ne_nil hn
      have := hcc 0 y (by rw [hyr]; rfl)
      have h2 := World.block_lt_of_cell? W _ this
      simp [Addr.add] at h2
      omega

end Go.Proofs.Ytnjljalihjkmcaa
