/- Arguments opened: numbers of 32 bits. -/
import Derived.Test.YtinhmchekdolmaaDoorValU
import Derived.Test.YtinhmchekdolmaaDoorValDressedW
namespace Go.Proofs.YtinhmchekdolmaaDoor
open Go.ChangeShapes Go.WideShapes Go.ChangeAt Go.RowKit Go.Deep
set_option maxRecDepth 100000
theorem bytes_u32 : Tryd.prog.bytesOf 57 = 4 := by kernel_rfl
theorem ints_u32 : ∀ (zs : List Int), (∀ n ∈ zs, (Lit.int .u32 n).wf = true) → ∃ l : List Nat, zs = l.map (fun (b : Nat) => (b : Int)) ∧ ∀ x ∈ l, x < 4294967296
  | [], _ => ⟨[], rfl, by simp⟩
  | z :: zs, h => by
    obtain ⟨l, rfl, hl⟩ := ints_u32 zs fun n hn => h n (List.mem_cons_of_mem _ hn)
    have hz := h z (List.mem_cons_self ..)
    have hb : 0 ≤ z ∧ z ≤ 4294967295 := by
      have b1 : IntKind.u32.min = 0 := by decide +kernel
      have b2 : IntKind.u32.max = 4294967295 := by decide +kernel
      simp [Lit.wf] at hz
      omega
    refine ⟨z.toNat :: l, ?_, ?_⟩
    · simp
      omega
    · intro x hx
      rcases List.mem_cons.mp hx with rfl | hx
      · omega
      · exact hl x hx

theorem open_u32s {H : Type} {enc : TypeId × Value → H} {W : World} {base : Nat} {v : Value} {d : DataW H} {p : List MemPlace} (hv : Value.okWide Tryd.prog W .any base 56 v)
    (h : DataW.Trod enc Tryd.prog W 0 (fun _ => true) true 56 v d p) (hsz : ∀ n ∈ d.weights Tryd.prog 56, n ≤ reachBytes) :
    ∃ (A : Option Addr) (l : List Nat) (c : Nat), v = .slice A l.length c ∧ Rd W W.heap.size A (u32s l) ∧ l.length ≤ c ∧ c ≤ 140737488351232 ∧ ∀ x ∈ l, x < 4294967296 := by
  obtain ⟨a0, len0, cap0, rfl⟩ := okWide_slice Tryd.underlying56 hv
  obtain ⟨fuel, hf⟩ := h
  rcases open_ints Tryd.underlying56 Tryd.underlying57 (by kernel_rfl) hf with ⟨hcs, _⟩ | ⟨x, len, c, zs, hcs, _, hl, hm, hz, hx, hcell, hwz⟩
  · simp [Value.cells] at hcs
    obtain ⟨rfl, rfl, rfl⟩ := hcs
    exact ⟨none, [], 0, rfl, Rd.emp _ _ _, by simp, by omega, by simp⟩
  · simp [Value.cells] at hcs
    obtain ⟨rfl, rfl, rfl⟩ := hcs
    simp only [if_true] at hz
    simp only [Prod.mk.injEq] at hx
    obtain ⟨rfl, -⟩ := hx
    have hw := hsz ((((lits (H := H) .u32 (zs.take len0)).length + (lits (H := H) .u32 (zs.drop len0)).length)) * Tryd.prog.bytesOf 57) (by simp [DataW.weights, Tryd.underlying56])
    rw [bytes_u32] at hw
    simp only [lits, List.length_map, List.length_take, List.length_drop, reachBytes] at hw
    obtain ⟨l, rfl, hlb⟩ := ints_u32 zs hwz
    rw [List.length_map] at hz
    have hll : (l.take len0).length = len0 := by rw [List.length_take]; omega
    refine ⟨some x, l.take len0, cap0, by rw [hll], ?_, by omega, by simp at hw; omega, fun y hy => hlb y (List.mem_of_mem_take hy)⟩
    have hcc : ∀ j u, (u32s (l.take len0))[j]? = some u → W.cell? (x.add j) = some u := by
      intro j u hu
      have hj : j < (u32s (l.take len0)).length := (List.getElem?_eq_some_iff.1 hu).1
      rw [u32s_length, hll] at hj
      rw [hcell j (by simp; omega), ← hu]
      simp [u32s, hj, List.getElem?_eq_getElem (show j < l.length by omega)]
    by_cases hb : x.block < W.heap.size
    · exact Rd.ofAddr hb hcc
    · intro hn
      obtain ⟨y, r, hyr⟩ := List.exists_cons_of_ne_nil hn
      have := hcc 0 y (by rw [hyr]; rfl)
      have h2 := World.block_lt_of_cell? W _ this
      simp [Addr.add] at h2
      omega

end Go.Proofs.YtinhmchekdolmaaDoor
