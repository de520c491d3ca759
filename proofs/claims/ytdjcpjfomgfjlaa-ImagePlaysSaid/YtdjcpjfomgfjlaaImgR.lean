/- The document's image: Head, area. -/
import Derived.Test.YtdjcpjfomgfjlaaJnF
import Derived.Test.YtdjcpjfomgfjlaaLogW
namespace Go.Proofs.Ytdjcpjfomgfjlaa
open Go.RowKit Go.Maps

/-- A head, of whose Seq the last k bytes are written; of whose size. -/
def hdI (s : Nat) : Nat → List UInt8
  | 0 => (zero64.set 0 73).set 63 90
  | k + 1 => (hdI s k).set (8 - k) (UInt8.ofNat (s / 256 ^ k))
def hdJ (l : List UInt8) (n : Nat) : Nat → List UInt8
  | 0 => l
  | k + 1 => (hdJ l n k).set (12 - k) (UInt8.ofNat (n / 256 ^ k))
theorem hdI_len (s : Nat) : ∀ k, (hdI s k).length = 64
  | 0 => rfl
  | k + 1 => by rw [hdI, List.length_set, hdI_len s k]
theorem hdJ_len (l : List UInt8) (h : l.length = 64) (n : Nat) : ∀ k, (hdJ l n k).length = 64
  | 0 => h
  | k + 1 => by rw [hdJ, List.length_set, hdJ_len l h n k]
theorem hdI_end (s n : Nat) : hdJ (hdI s 8) n 4 = headI s n := by
  simp [hdI, hdJ, zero64, headI, be8, be4, List.replicate_succ]
set_option maxRecDepth 100000 in
set_option maxHeartbeats 1000000 in
theorem rHeadI_any (s n : Nat) (w : World) (hs : s ≤ 9223372036854775807) (hn : n ≤ 9223372036854775807) :
    Calls Try.prog 66 #[.int .i64 (s : Int), .int .i64 (n : Int)] w fun e w' => e = .returned (.string ⟨(headI s n).toArray⟩) ∧ Below w.heap.size w w' := by
  have hmk := make64 w
  have h0 : ((u8s zero64).set 0 (.int .u8 73)).set 63 (.int .u8 90) = u8s (hdI s 0) := rfl
  have hg : (w.alloc (.cells (((u8s zero64).set 0 (.int .u8 73)).set 63 (.int .u8 90)).toArray 5)).heap[w.heap.size]? = some (.cells (u8s (hdI s 0)).toArray 5 (0, 0)) := by rw [h0]; exact heap_alloc_new w _
  have hB1 : Below w.heap.size w (w.alloc (.cells (((u8s zero64).set 0 (.int .u8 73)).set 63 (.int .u8 90)).toArray 5)) := (Below.refl _ w).alloc (Nat.le_refl _) _
  have HG := Lib.hid (And.intro hg (And.intro hB1 (And.intro hs hn)))
  clear hB1 hg h0 hs hn
  go_enter Try.func66, Try.ntmps66
  go_wp2
  go_loopw [0, 6] (fun z i wr => ∃ k : Nat, k ≤ 8 ∧ i = .int .i64 (8 - (k : Int)) ∧ z = .int .i64 ((s / 256 ^ k : Nat) : Int) ∧ wr.heap[w.heap.size]? = some (.cells (u8s (hdI s k)).toArray 5 (0, 0)) ∧ Below w.heap.size w wr)
    (fun _ i _ => (intOf i).toNat)
  case atStart => exact ⟨0, by omega, rfl, by simp, HG.out.1, HG.out.2.1⟩
  case round =>
    obtain ⟨k, hk, rfl, rfl, hg, hb⟩ := hrel
    by_cases hk8 : k < 8
    · have hkI : (0 : Int) < 8 - (k : Int) := by omega
      have hkJ : (8 : Int) - (k : Int) < 64 := by omega
      have hkN : ((8 : Int) - (k : Int)).toNat = 8 - k := by omega
      have hk0 : (0 : Int) ≤ 8 - (k : Int) := by omega
      obtain ⟨S, hS⟩ : ∃ S, S = s / 256 ^ k := ⟨_, rfl⟩
      have hS1 : s / 256 ^ (k + 1) = S / 256 := by rw [hS, Nat.pow_succ, Nat.div_div_eq_div_mul]
      have hSl : S ≤ 9223372036854775807 := by rw [hS]; exact Nat.le_trans (Nat.div_le_self _ _) HG.out.2.2.1
      rw [← hS]
      have hm : (S : Int).tmod 256 = ((S % 256 : Nat) : Int) := by rw [Int.tmod_eq_emod_of_nonneg (by omega)]; omega
      have hd : (S : Int).tdiv 256 = ((S / 256 : Nat) : Int) := by rw [Int.tdiv_eq_ediv_of_nonneg (by omega)]; omega
      have hx : ((S % 256 : Nat) : Int) = ((UInt8.ofNat S).toNat : Int) := by rw [mod256]; omega
      obtain ⟨v1, hv1⟩ := row_cell (i := 8 - k) hg (by rw [hdI_len]; omega)
      have zf1 := frozen_of_row wr w.heap.size (8 - k) _ _ hg
      have hg2 := row_set (i := 8 - k) hg (UInt8.ofNat S)
      have hg3 : (wr.setCell ⟨w.heap.size, 8 - k, none⟩ (.int .u8 ((UInt8.ofNat S).toNat : Int))).heap[w.heap.size]? = some (.cells (u8s (hdI s (k + 1))).toArray 5 (0, 0)) := by rw [hdI, ← hS]; exact hg2
      have HX := Lib.hid (And.intro hg3 (And.intro (hb.setCell (p := ⟨w.heap.size, 8 - k, none⟩) (Nat.le_refl _) (.int .u8 ((UInt8.ofNat S).toNat : Int))) (And.intro hx hS1)))
      clear hg hb hg2 hg3 hx hS1 hS
      go_wp2_with go_in
      rw [show (S : Int) % 256 = ((UInt8.ofNat S).toNat : Int) from (mod256 S).symm]
      exact ⟨⟨k + 1, by omega, by simp; omega, by rw [HX.out.2.2.2]; simp, HX.out.1, HX.out.2.1⟩, by simp [intOf]; omega⟩
    · obtain rfl : k = 8 := by omega
      have HY := Lib.hid (And.intro hg hb)
      clear hg hb
      go_wp2
      go_loopw [1, 7] (fun z i wr => ∃ k : Nat, k ≤ 4 ∧ i = .int .i64 (12 - (k : Int)) ∧ z = .int .i64 ((n / 256 ^ k : Nat) : Int) ∧ wr.heap[w.heap.size]? = some (.cells (u8s (hdJ (hdI s 8) n k)).toArray 5 (0, 0)) ∧ Below w.heap.size w wr)
        (fun _ i _ => (intOf i).toNat)
      case atStart => exact ⟨0, by omega, rfl, by simp, HY.out.1, HY.out.2⟩
      case round =>
        obtain ⟨k, hk, rfl, rfl, hg, hb⟩ := hrel
        by_cases hk8 : k < 4
        · have hkI : (8 : Int) < 12 - (k : Int) := by omega
          have hkJ : (12 : Int) - (k : Int) < 64 := by omega
          have hkN : ((12 : Int) - (k : Int)).toNat = 12 - k := by omega
          have hk0 : (0 : Int) ≤ 12 - (k : Int) := by omega
          obtain ⟨S, hS⟩ : ∃ S, S = n / 256 ^ k := ⟨_, rfl⟩
          have hS1 : n / 256 ^ (k + 1) = S / 256 := by rw [hS, Nat.pow_succ, Nat.div_div_eq_div_mul]
          have hSl : S ≤ 9223372036854775807 := by rw [hS]; exact Nat.le_trans (Nat.div_le_self _ _) HG.out.2.2.2
          rw [← hS]
          have hm : (S : Int).tmod 256 = ((S % 256 : Nat) : Int) := by rw [Int.tmod_eq_emod_of_nonneg (by omega)]; omega
          have hd : (S : Int).tdiv 256 = ((S / 256 : Nat) : Int) := by rw [Int.tdiv_eq_ediv_of_nonneg (by omega)]; omega
          have hx : ((S % 256 : Nat) : Int) = ((UInt8.ofNat S).toNat : Int) := by rw [mod256]; omega
          obtain ⟨v1, hv1⟩ := row_cell (i := 12 - k) hg (by rw [hdJ_len _ (hdI_len _ _)]; omega)
          have zf1 := frozen_of_row wr w.heap.size (12 - k) _ _ hg
          have hg2 := row_set (i := 12 - k) hg (UInt8.ofNat S)
          have hg3 : (wr.setCell ⟨w.heap.size, 12 - k, none⟩ (.int .u8 ((UInt8.ofNat S).toNat : Int))).heap[w.heap.size]? = some (.cells (u8s (hdJ (hdI s 8) n (k + 1))).toArray 5 (0, 0)) := by rw [hdJ, ← hS]; exact hg2
          have HX := Lib.hid (And.intro hg3 (And.intro (hb.setCell (p := ⟨w.heap.size, 12 - k, none⟩) (Nat.le_refl _) (.int .u8 ((UInt8.ofNat S).toNat : Int))) (And.intro hx hS1)))
          clear hg hb hg2 hg3 hx hS1 hS
          go_wp2_with go_in
          rw [show (S : Int) % 256 = ((UInt8.ofNat S).toNat : Int) from (mod256 S).symm]
          exact ⟨⟨k + 1, by omega, by simp; omega, by rw [HX.out.2.2.2]; simp, HX.out.1, HX.out.2.1⟩, by simp [intOf]; omega⟩
        · obtain rfl : k = 4 := by omega
          rw [hdI_end] at hg
          have hst : (convert 45 9 (.slice (some ⟨w.heap.size, 0, none⟩) 64 64)).run Try.prog wr = .ok (.string ⟨(headI s n).toArray⟩) wr :=
            strAt (B := wr.heap.size) (fun _ => ⟨w.heap.size, 0, rfl, heap_lt hg, fun j u hu => by rw [cell_of_row _ _ _ _ _ _ hg]; simpa using hu⟩) (by rw [headI_len])
          have HX := Lib.hid hb
          clear hg hb
          go_wp2_with go_in
          go_ret
          exact ⟨rfl, HX.out⟩
end Go.Proofs.Ytdjcpjfomgfjlaa
