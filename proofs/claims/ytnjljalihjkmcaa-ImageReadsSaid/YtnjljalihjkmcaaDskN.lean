/- The law's Bytes. -/
import Derived.Test.YtnjljalihjkmcaaDskM
import Derived.Deep.OwnRows
namespace Go.Proofs.Ytnjljalihjkmcaa
open Go.RowKit Go.Maps

/-- A sector's bytes, by going round in these. -/
def bytesL (b : List UInt8) : List UInt8 := (List.range 64).map fun i => if b.length = 0 then 0 else b.getD (i % b.length) 0
theorem bytesL_len (b : List UInt8) : (bytesL b).length = 64 := by simp [bytesL]
theorem bytesL_get (b : List UInt8) (k : Nat) (h : k < 64) : (bytesL b)[k]'(by rw [bytesL_len]; exact h) = if b.length = 0 then 0 else b.getD (k % b.length) 0 := by simp [bytesL]
def rowK (b : List UInt8) (k : Nat) : List UInt8 := (bytesL b).take k ++ List.replicate (64 - k) 0
theorem rowK_len (b : List UInt8) (k : Nat) (h : k ≤ 64) : (rowK b k).length = 64 := by simp [rowK, bytesL_len]; omega
theorem rowK_set (b : List UInt8) (k : Nat) (h : k < 64) (x : UInt8) (hx : x = (bytesL b)[k]'(by rw [bytesL_len]; exact h)) : (rowK b k).set k x = rowK b (k + 1) := by
  subst hx
  apply List.ext_getElem
  · simp [rowK, bytesL_len]; omega
  · intro j h1 h2
    simp only [rowK, List.getElem_set, List.getElem_append, List.length_take, bytesL_len, List.getElem_take, List.getElem_replicate]
    split
    · subst_vars
      rw [dif_pos (by omega)]
    · by_cases hj : j < k
      · rw [dif_pos (by omega), dif_pos (by omega)]
      · rw [dif_neg (by omega), dif_neg (by omega)]
theorem rowK_nil (b : List UInt8) (hb : b.length = 0) (k : Nat) (h : k < 64) : rowK b k = rowK b (k + 1) := by
  have h0 := rowK_set b k h 0 (by rw [bytesL_get b k h, if_pos hb])
  rw [← h0]
  apply List.ext_getElem
  · simp
  · intro j h1 h2
    rw [List.getElem_set]
    split
    · subst_vars
      simp [rowK, List.getElem_append, bytesL_len]
      intro h3
      omega
    · rfl
theorem rowK_end (b : List UInt8) : rowK b 64 = bytesL b := by
  unfold rowK
  rw [List.take_of_length_le (by rw [bytesL_len]; omega)]
  simp

theorem made64 : madeCells #[Value.int .u8 0] 64 = (u8s zero64).toArray := by kernel_rfl
theorem bytes_end {w w3 : World} {b : List UInt8} {k : Nat} (hk : k < 64) (hg : w3.heap[w.heap.size]? = some (.cells (u8s (rowK b (k + 1))).toArray 5)) (hb : Below w.heap.size w w3) :
    (∃ k_1 : Nat, k_1 ≤ 64 ∧ Value.int IntKind.i64 ((k : Int) + 1) = Value.int IntKind.i64 (k_1 : Int) ∧ w3.heap[w.heap.size]? = some (.cells (u8s (rowK b k_1)).toArray 5) ∧ Below w.heap.size w w3) ∧
      64 - (intOf (Value.int IntKind.i64 ((k : Int) + 1))).toNat < 64 - (intOf (Value.int IntKind.i64 (k : Int))).toNat :=
  ⟨⟨k + 1, hk, by simp, hg, hb⟩, by simp [intOf]; omega⟩

set_option maxRecDepth 100000 in
set_option maxHeartbeats 1000000 in
theorem bytes_any (A : Option Addr) (b : List UInt8) (c B : Nat) (w : World) (hr : Rd w B A (u8s b)) (hB : B ≤ w.heap.size) (hb : b.length ≤ 4611686018427387904) :
    Calls Try.prog 22 #[.slice A b.length c] w fun e w' => e = .returned (.slice (some ⟨w.heap.size, 0, none⟩) 64 64) ∧ w'.heap[w.heap.size]? = some (.cells (u8s (bytesL b)).toArray 5) ∧ Below w.heap.size w w' := by
  have hmk : (Instr.makeSlice 45 (.int .i64 64) (.int .i64 64)).run Try.prog w = .ok (.slice (some ⟨w.heap.size, 0, none⟩) 64 64) (w.alloc (.cells (u8s (rowK b 0)).toArray 5)) := by
    have h := run_make_row' (P := Try.prog) 45 5 (.int .u8 0) 1 Try.underlying45 infoU8 rfl .i64 .i64 64 (by omega) (by omega) w
    have e : madeCells #[Value.int .u8 0] 64 = (u8s (rowK b 0)).toArray := by
      have : rowK b 0 = zero64 := by simp [rowK, zero64]
      rw [this]; exact made64
    rw [e] at h
    exact h
  have hB1 : Below w.heap.size w (w.alloc (.cells (u8s (rowK b 0)).toArray 5)) := (Below.refl _ w).alloc (Nat.le_refl _) _
  have hg1 : (w.alloc (.cells (u8s (rowK b 0)).toArray 5)).heap[w.heap.size]? = some (.cells (u8s (rowK b 0)).toArray 5) := heap_alloc_new w _
  have HR := Lib.hid hr
  have H1 := Lib.hid (And.intro hB1 hg1)
  have HB := Lib.hid (And.intro hB hb)
  clear hr hB1 hg1 hB hb
  go_enter Try.func22, Try.ntmps22
  go_wp2
  go_loopw [4, 8] (fun _ i wr => ∃ k : Nat, k ≤ 64 ∧ i = .int .i64 (k : Int) ∧ wr.heap[w.heap.size]? = some (.cells (u8s (rowK b k)).toArray 5) ∧ Below w.heap.size w wr)
    (fun _ i _ => 64 - (intOf i).toNat)
  case atStart => exact ⟨0, by omega, rfl, H1.out.2, H1.out.1⟩
  case round =>
    obtain ⟨k, hk, rfl, hg, hb⟩ := hrel
    have HX := Lib.hid (And.intro hk (And.intro hg hb))
    have hkI : (k : Int) ≤ 64 := by omega
    by_cases hk64 : k < 64
    · have hkl : (k : Int) < 64 := by omega
      by_cases hb0 : b.length = 0
      · have hrow := rowK_nil b hb0 k hk64
        have hbI : ¬ (0 < (b.length : Int)) := by omega
        clear hg hb
        go_wp2_with go_in
        exact bytes_end hk64 (hrow ▸ HX.out.2.1) HX.out.2.2
      · obtain ⟨ab, ao, rfl, hab, hcell⟩ := HR.out.get (k := k % b.length) (by rw [u8s_len]; exact Nat.mod_lt _ (by omega))
        have hml : k % b.length < (u8s b).length := by rw [u8s_len]; exact Nat.mod_lt _ (by omega)
        have hcw : wr.cell? ⟨ab, ao + k % b.length, none⟩ = some (u8s b)[k % b.length] := by
          rw [← hcell]; exact hb.cell (p := ⟨ab, ao + k % b.length, none⟩) (by have := HB.out.1; show ab < _; omega)
        rw [u8s_get b (k % b.length) (Nat.mod_lt _ (by omega))] at hcw
        have hold := cell_of_row wr w.heap.size k _ _ _ hg
        have hfz := frozen_of_row wr w.heap.size k _ _ hg
        have hx : b[k % b.length]'(Nat.mod_lt _ (by omega)) = (bytesL b)[k]'(by rw [bytesL_len]; exact hk64) := by
          rw [bytesL_get b k hk64, if_neg hb0]
          simp [List.getD_eq_getElem?_getD, Nat.mod_lt k (show 0 < b.length by omega)]
        have hset := rowK_set b k hk64 _ hx
        obtain ⟨x, hxe⟩ : ∃ x, x = b[k % b.length]'(Nat.mod_lt _ (by omega)) := ⟨_, rfl⟩
        rw [← hxe] at hcw hset
        have hg2 := heap_setCell_same wr w.heap.size k _ _ (.int .u8 (x.toNat : Int)) hg
        have hb2 := hb.setCell (p := ⟨w.heap.size, k, none⟩) (Nat.le_refl _) (.int .u8 (x.toNat : Int))
        have hcs : (u8s (rowK b k)).toArray.setIfInBounds k (.int .u8 (x.toNat : Int)) = (u8s (rowK b (k + 1))).toArray := by
          rw [← hset, u8s_set]; simp
        rw [hcs] at hg2
        have hold2 : wr.cell? ⟨w.heap.size, k, none⟩ = some ((u8s (rowK b k))[k]'(by rw [u8s_len, rowK_len b k hk]; exact hk64)) := by
          rw [hold]; simp
        have hmod : Int.tmod (k : Int) (b.length : Int) = ((k % b.length : Nat) : Int) := rfl
        have hlt : ((k % b.length : Nat) : Int) < (b.length : Int) := by have := Nat.mod_lt k (show 0 < b.length by omega); omega
        have hbI : 0 < (b.length : Int) := by omega
        have hbn : ¬ ((b.length : Int) = 0) := by omega
        have HG := Lib.hid (And.intro hg2 hb2)
        generalize (u8s (rowK b k))[k]'_ = old at hold2
        clear hg hb hml hold hcs hset hxe hx hcell hab hg2 hb2
        go_wp2_with go_in
        exact bytes_end hk64 HG.out.1 HG.out.2
    · obtain rfl : k = 64 := by omega
      clear hg hb
      go_wp2
      go_ret
      have h := HX.out.2
      rw [rowK_end] at h
      exact ⟨rfl, h.1, h.2⟩
end Go.Proofs.Ytnjljalihjkmcaa
