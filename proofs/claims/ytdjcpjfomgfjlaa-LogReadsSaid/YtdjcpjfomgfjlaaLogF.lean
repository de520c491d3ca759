/- headOf. -/
import Derived.Test.YtdjcpjfomgfjlaaLogE
namespace Go.Proofs.Ytdjcpjfomgfjlaa
open Go.RowKit Go.Maps

theorem be8_get (s k : Nat) (h : k < 8) : (be8 s)[k]'(by rw [be8_len]; exact h) = UInt8.ofNat (s / 2 ^ (56 - 8 * k)) := by
  match k, h with
  | 0, _ => rfl
  | 1, _ => rfl
  | 2, _ => rfl
  | 3, _ => rfl
  | 4, _ => rfl
  | 5, _ => rfl
  | 6, _ => rfl
  | 7, _ => simp [be8]
/-- A head, of whose Seq k bytes are written. -/
def hdK (s k : Nat) : List UInt8 := 82 :: ((be8 s).take k ++ (List.replicate (62 - k) 0 ++ [165]))
theorem hdK_len (s k : Nat) (h : k ≤ 8) : (hdK s k).length = 64 := by simp [hdK, be8_len]; omega
theorem hdK_set (s k : Nat) (h : k < 8) (x : UInt8) (hx : x = (be8 s)[k]'(by rw [be8_len]; exact h)) : (hdK s k).set (1 + k) x = hdK s (k + 1) := by
  unfold hdK
  rw [Nat.add_comm 1 k, List.set_cons_succ]
  congr 1
  have hl : ((be8 s).take k).length = k := by rw [List.length_take, be8_len]; omega
  rw [List.set_append_right _ _ (by omega), hl, Nat.sub_self, List.take_succ_eq_append_getElem (by rw [be8_len]; exact h), ← hx, List.append_assoc]
  congr 1
  rw [show 62 - k = (62 - (k + 1)) + 1 by omega, List.replicate_succ]
  rfl
theorem hdK_end (s n : Nat) : ((hdK s 8).set 9 (UInt8.ofNat (n / 256))).set 10 (UInt8.ofNat n) = headL s n := rfl
theorem hdK_zero (s : Nat) : (zero64.set 0 82).set 63 165 = hdK s 0 := rfl
theorem mod256 (n : Nat) : ((UInt8.ofNat n).toNat : Int) = (n : Int) % 256 := by
  rw [UInt8.toNat_ofNat']
  simp
theorem row_set {w : World} {b i : Nat} {l : List UInt8} {t : TypeId} (h : w.heap[b]? = some (.cells (u8s l).toArray t (0, 0))) (x : UInt8) : (w.setCell ⟨b, i, none⟩ (.int .u8 (x.toNat : Int))).heap[b]? = some (.cells (u8s (l.set i x)).toArray t (0, 0)) := by
  have := heap_setCell_same w b i _ _ (.int .u8 (x.toNat : Int)) h
  rw [u8s_set]
  simpa using this
theorem row_cell {w : World} {b : Nat} {l : List UInt8} {t : TypeId} (h : w.heap[b]? = some (.cells (u8s l).toArray t (0, 0))) {i : Nat} (hi : i < l.length) : ∃ v, w.cell? ⟨b, i, none⟩ = some v := by
  refine ⟨(u8s l)[i]'(by rw [u8s_len]; exact hi), ?_⟩
  rw [cell_of_row w b i _ _ _ h, List.getElem?_toArray, List.getElem?_eq_getElem (by rw [u8s_len]; exact hi)]
theorem new64_row {w w' : World} {g : Nat} {l : List UInt8} {t : TypeId} (hg : w.heap.size ≤ g) (h : w'.heap[g]? = some (.cells (u8s l).toArray t (0, 0))) (hl : l.length = 64) (hb : Below w.heap.size w w') : New64 w w' l (.returned (.slice (some ⟨g, 0, none⟩) 64 64)) := by
  have hlt := (Array.getElem?_eq_some_iff.1 h).1
  refine ⟨g, rfl, hg, hlt, fun _ => ⟨g, 0, rfl, hlt, fun j u hu => ?_⟩, hl, hb⟩
  rw [cell_of_row _ _ _ _ _ _ h]
  simpa using hu

set_option maxRecDepth 100000 in
set_option maxHeartbeats 1000000 in
theorem headOf_any (s n : Nat) (w : World) (hs : s ≤ 4611686018427387904) (hn : n ≤ 65535) :
    Calls Try.prog 75 #[.int .i64 (s : Int), .int .i64 (n : Int)] w fun e w' => New64 w w' (headL s n) e := by
  have hmk := make64 w
  have h0 : ((u8s zero64).set 0 (.int .u8 82)).set 63 (.int .u8 165) = u8s (hdK s 0) := rfl
  have hg : (w.alloc (.cells (((u8s zero64).set 0 (.int .u8 82)).set 63 (.int .u8 165)).toArray 5)).heap[w.heap.size]? = some (.cells (u8s (hdK s 0)).toArray 5 (0, 0)) := by rw [h0]; exact heap_alloc_new w _
  have hB1 : Below w.heap.size w (w.alloc (.cells (((u8s zero64).set 0 (.int .u8 82)).set 63 (.int .u8 165)).toArray 5)) := (Below.refl _ w).alloc (Nat.le_refl _) _
  have HG := Lib.hid (And.intro hg hB1)
  have HS := Lib.hid (And.intro hs hn)
  have hs' : (s : Int) ≤ 4611686018427387904 := by omega
  have hn' : (n : Int) ≤ 65535 := by omega
  clear hB1 hg h0 hs hn
  go_enter Try.func75, Try.ntmps75
  go_wp2
  go_loopw [6, 12] (fun _ i wr => ∃ k : Nat, k ≤ 8 ∧ i = .int .i64 (k : Int) ∧ wr.heap[w.heap.size]? = some (.cells (u8s (hdK s k)).toArray 5 (0, 0)) ∧ Below w.heap.size w wr)
    (fun _ i _ => 8 - (intOf i).toNat)
  case atStart => exact ⟨0, by omega, rfl, HG.out.1, HG.out.2⟩
  case round =>
    obtain ⟨k, hk, rfl, hg, hb⟩ := hrel
    by_cases hk8 : k < 8
    · have hkI : (k : Int) < 8 := by omega
      have hk9 : 8 * (k : Int) ≤ 56 := by omega
      obtain ⟨x, hx⟩ : ∃ x, x = (be8 s)[k]'(by rw [be8_len]; exact hk8) := ⟨_, rfl⟩
      have hxv : (s : Int) / 2 ^ (56 - 8 * k) % 256 = (x.toNat : Int) := by
        rw [hx, be8_get s k hk8, mod256]
        simp
      obtain ⟨v1, hv1⟩ := row_cell (i := 1 + k) hg (by rw [hdK_len s k (by omega)]; omega)
      have zf1 := frozen_of_row wr w.heap.size (1 + k) _ _ hg
      have hg2 := row_set (i := 1 + k) hg x
      rw [hdK_set s k hk8 x hx] at hg2
      have HX := Lib.hid (And.intro hg2 (And.intro (hb.setCell (p := ⟨w.heap.size, 1 + k, none⟩) (Nat.le_refl _) (.int .u8 (x.toNat : Int))) hxv))
      have hi1 : (1 : Int) + (k : Int) < 64 := by omega
      have hi2 : (0 : Int) ≤ 1 + (k : Int) := by omega
      have hi3 : ((1 : Int) + (k : Int)).toNat = 1 + k := by omega
      clear hg hb hg2 hxv hx
      go_wp2_with go_in
      rw [HX.out.2.2]
      exact ⟨⟨k + 1, by omega, by simp, HX.out.1, HX.out.2.1⟩, by simp [intOf]; omega⟩
    · obtain rfl : k = 8 := by omega
      obtain ⟨v9, hv9⟩ := row_cell (i := 9) hg (by rw [hdK_len s 8 (by omega)]; omega)
      have hg9 := row_set (i := 9) hg (UInt8.ofNat (n / 256))
      obtain ⟨v10, hv10⟩ := row_cell (i := 10) hg9 (by rw [List.length_set, hdK_len s 8 (by omega)]; omega)
      have zf9 := frozen_of_row wr w.heap.size 9 _ _ hg
      have zf10 := frozen_of_row _ w.heap.size 10 _ _ hg9
      have hg10 := row_set (i := 10) hg9 (UInt8.ofNat n)
      rw [hdK_end] at hg10
      have hb10 := (hb.setCell (p := ⟨w.heap.size, 9, none⟩) (Nat.le_refl _) (.int .u8 ((UInt8.ofNat (n / 256)).toNat : Int))).setCell (p := ⟨w.heap.size, 10, none⟩) (Nat.le_refl _) (.int .u8 ((UInt8.ofNat n).toNat : Int))
      have m1 : ((UInt8.ofNat (n / 256)).toNat : Int) = (n : Int) / 256 := by rw [mod256]; simp; omega
      rw [mod256 n] at hg10 hb10
      rw [m1] at hg10 hb10 hv10 zf10
      have HX := Lib.hid (And.intro hg10 hb10)
      clear hg hb hg9 hg10 hb10 m1
      go_wp2_with go_in

      go_ret
      exact new64_row (Nat.le_refl _) HX.out.1 (headL_len _ _) HX.out.2
end Go.Proofs.Ytdjcpjfomgfjlaa
