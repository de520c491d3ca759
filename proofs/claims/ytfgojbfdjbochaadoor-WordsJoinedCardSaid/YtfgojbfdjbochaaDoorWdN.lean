/- The blanks of layer 8's statements (gaps). -/
import Derived.Test.YtfgojbfdjbochaaDoorWdM
namespace Go.Proofs.YtfgojbfdjbochaaDoor
open Go.RowKit Go.Maps

def gapV : Array Value := #[.string ⟨#[32]⟩, .string ⟨#[9]⟩, .string ⟨#[10]⟩, .string ⟨#[194, 160]⟩, .string ⟨#[227, 128, 128]⟩, .string ⟨#[35, 120, 40, 195, 169, 10]⟩, .string ⟨#[13, 10]⟩, .string ⟨#[32, 32]⟩]
theorem resGaps {w : World} {b : Nat} (h : w.heap[b]? = some (.cells gapV 43 (0, 0))) (tmps : Array Value) (h2 : tmps.getD 0 undef = .pointer (some ⟨b, 0, none⟩)) :
    (results Tryd.f15 tmps).run Tryd.prog w = .ok (.agg gapV) w := by
  have c0 : w.cell? ⟨b, 0, none⟩ = some (.string ⟨#[32]⟩) := cell_of_row w b 0 _ _ _ h
  have c1 : w.cell? ⟨b, 1, none⟩ = some (.string ⟨#[9]⟩) := cell_of_row w b 1 _ _ _ h
  have c2 : w.cell? ⟨b, 2, none⟩ = some (.string ⟨#[10]⟩) := cell_of_row w b 2 _ _ _ h
  have c3 : w.cell? ⟨b, 3, none⟩ = some (.string ⟨#[194, 160]⟩) := cell_of_row w b 3 _ _ _ h
  have c4 : w.cell? ⟨b, 4, none⟩ = some (.string ⟨#[227, 128, 128]⟩) := cell_of_row w b 4 _ _ _ h
  have c5 : w.cell? ⟨b, 5, none⟩ = some (.string ⟨#[35, 120, 40, 195, 169, 10]⟩) := cell_of_row w b 5 _ _ _ h
  have c6 : w.cell? ⟨b, 6, none⟩ = some (.string ⟨#[13, 10]⟩) := cell_of_row w b 6 _ _ _ h
  have c7 : w.cell? ⟨b, 7, none⟩ = some (.string ⟨#[32, 32]⟩) := cell_of_row w b 7 _ _ _ h
  have h2' := h2
  simp only [Array.getD_eq_getD_getElem?] at h2'
  simp [results, Tryd.results15, go_sem, h2', c0, c1, c2, c3, c4, c5, c6, c7, gapV]
set_option maxRecDepth 100000 in
theorem gaps_any (w : World) : Calls Tryd.prog 15 #[] w fun e w' => e = .returned (.agg gapV) ∧ Below w.heap.size w w' := by
  go_enter Tryd.func15, Tryd.ntmps15
  go_wp2
  exact bodyPost_ret (resGaps (heap_alloc_new w _) _ rfl) rfl ⟨rfl, (Below.refl _ _).alloc (Nat.le_refl _) _⟩
theorem idxG (k : Nat) (hk : k < 8) (w : World) : (Instr.index 43 (.agg gapV) (.int .u8 (k : Int))).run Tryd.prog w = .ok (.string ⟨(gapB k).toArray⟩) w := by
  have hcase : k = 0 ∨ k = 1 ∨ k = 2 ∨ k = 3 ∨ k = 4 ∨ k = 5 ∨ k = 6 ∨ k = 7 := by omega
  rcases hcase with rfl | rfl | rfl | rfl | rfl | rfl | rfl | rfl
  all_goals simp [Instr.index, run_underlying Tryd.underlying43, asIntOf, go_sem, gapV, gapB]
theorem idxGb (b : UInt8) (w : World) : (Instr.index 43 (.agg gapV) (.int .u8 ((b.toNat : Int).tmod 8))).run Tryd.prog w = .ok (.string ⟨(gapB (b.toNat % 8)).toArray⟩) w := by
  have := idxG (b.toNat % 8) (by omega) w
  have e : (((b.toNat % 8 : Nat)) : Int) = (b.toNat : Int).tmod 8 := by rw [Int.tmod_eq_emod_of_nonneg (by omega)]; omega
  rw [e] at this
  exact this
theorem gapB_len (k : Nat) : (gapB k).length ≤ 6 := by
  by_cases h : k < 8
  · exact (gap_is k h).2.2
  · unfold gapB
    rw [List.getD_eq_getElem?_getD, List.getElem?_eq_none (by simp; omega)]
    simp
theorem gapsB_take (ks : List Nat) (k : Nat) (h : k < ks.length) : gapsB (ks.take (k + 1)) = gapsB (ks.take k) ++ gapB ks[k] := by
  unfold gapsB
  rw [List.take_succ_eq_append_getElem h, List.flatMap_append, List.flatMap_singleton]
theorem gapsB_len : ∀ ks : List Nat, (gapsB ks).length ≤ 6 * ks.length
  | [] => by simp [gapsB]
  | k :: ks => by
    have h1 := gapB_len k
    have h2 := gapsB_len ks
    have e : gapsB (k :: ks) = gapB k ++ gapsB ks := rfl
    rw [e, List.length_append, List.length_cons]
    omega
theorem plc_le : ∀ (rs : List Nat) (p : Nat × Nat), 1 ≤ p.2 → (plc p rs).1 + (plc p rs).2 ≤ p.1 + p.2 + rs.length
  | [], p, _ => by simp [plc]
  | r :: rs, p, h => by
    have h1 := bh_le p r (p.1 + p.2) (Nat.le_refl _) h
    have h2 := plc_le rs (bh p r) h1.2
    rw [plc_cons, List.length_cons]
    omega
theorem bytes_eq (s : ByteArray) : s = ⟨s.data.toList.toArray⟩ := by
  cases s
  simp
/-- The cell of a byte of a slice. -/
theorem u8s_cell {w : World} {B : Nat} {A : Option Addr} {l : List UInt8} (h : Rd w B A (u8s l)) {k : Nat} (hk : k < l.length) : ∃ ab ao, A = some ⟨ab, ao, none⟩ ∧ ab < B ∧ w.cell? ⟨ab, ao + k, none⟩ = some (.int .u8 (l[k].toNat : Int)) := by
  obtain ⟨b, o, e, hb, hc⟩ := h.get (k := k) (by rw [u8s_length]; exact hk)
  rw [u8s_get l k hk] at hc
  exact ⟨b, o, e, hb, hc⟩
end Go.Proofs.YtfgojbfdjbochaaDoor
