/- An image in memory: Open. -/
import Derived.Test.YtdjcpjfomgfjlaaImgE
namespace Go.Proofs.Ytdjcpjfomgfjlaa
open Go.RowKit Go.Maps

/-- May an image's areas lie there? -/
def FitsI (size : Nat) (first count : Int) : Prop := 2 ≤ count ∧ 2 * count ≤ (size : Int) ∧ 0 ≤ first ∧ first + 2 * count ≤ (size : Int)
set_option maxRecDepth 100000 in
set_option maxHeartbeats 2000000 in
theorem openI_bad {w : World} {p bs bw T : Nat} {M : DM} (hD : DiskM w p bs bw M T) (hz : M.size ≤ 4096) (first count : Int) (hb : ¬ FitsI M.size first count) :
    Calls Try.prog 29 #[.pointer (some ⟨p, 0, none⟩), .int .i64 first, .int .i64 count] w fun e w' => e = .returned (.tuple #[.pointer none, .int .i64 1]) ∧ w = w' := by
  have hsz := sizeM hD
  obtain ⟨N, hN⟩ : ∃ N, N = M.size := ⟨_, rfl⟩
  rw [← hN] at hsz hb hz
  have HSZ := Lib.hid hsz
  have hq : (N : Int).tdiv 2 = ((N / 2 : Nat) : Int) := by rw [Int.tdiv_eq_ediv_of_nonneg (by omega)]; omega
  have hNI : (N : Int) ≤ 4096 := by omega
  have hc : count < 2 ∨ (¬ count < 2 ∧ ((N / 2 : Nat) : Int) < count) ∨ (¬ count < 2 ∧ ¬ ((N / 2 : Nat) : Int) < count ∧ first < 0) ∨ (¬ count < 2 ∧ ¬ ((N / 2 : Nat) : Int) < count ∧ ¬ first < 0 ∧ (N : Int) - 2 * count < first) := by
    unfold FitsI at hb; omega
  have hh : ((N / 2 : Nat) : Int) ≤ 2048 := by omega
  clear hsz hb hz hN hD
  generalize N / 2 = H at *
  rcases hc with h1 | ⟨h1, h2⟩ | ⟨h1, h2, h3⟩ | ⟨h1, h2, h3, h4⟩
  all_goals
    go_enter Try.func29, Try.ntmps29
    go_wp2_with (go_at_call 38; (with_reducible refine HSZ.out.mono ?_); rintro e w1 ⟨rfl, rfl⟩)
    go_ret2
    exact ⟨rfl, rfl⟩
set_option maxRecDepth 100000 in
set_option maxHeartbeats 2000000 in
theorem openI_any {w : World} {p bs bw T : Nat} {M : DM} (hD : DiskM w p bs bw M T) (hz : M.size ≤ 4096) (first count : Nat) (hf : FitsI M.size first count) :
    Calls Try.prog 29 #[.pointer (some ⟨p, 0, none⟩), .int .i64 (first : Int), .int .i64 (count : Int)] w fun e w' => ∃ q, e = .returned (.tuple #[.pointer (some ⟨q, 0, none⟩), .int .i64 0]) ∧ w.heap.size ≤ q ∧ ImgAt w' q p first count ∧ Below w.heap.size w w' := by
  have hsz := sizeM hD
  obtain ⟨N, hN⟩ : ∃ N, N = M.size := ⟨_, rfl⟩
  rw [← hN] at hsz hf hz
  have HSZ := Lib.hid hsz
  have hq : (N : Int).tdiv 2 = ((N / 2 : Nat) : Int) := by rw [Int.tdiv_eq_ediv_of_nonneg (by omega)]; omega
  have hNI : (N : Int) ≤ 4096 := by omega
  unfold FitsI at hf
  have h1 : ¬ (count : Int) < 2 := by omega
  have h2 : ¬ ((N / 2 : Nat) : Int) < (count : Int) := by omega
  have h3 : ¬ (first : Int) < 0 := by omega
  have h4 : ¬ (N : Int) - 2 * (count : Int) < (first : Int) := by omega
  have hh : ((N / 2 : Nat) : Int) ≤ 2048 := by omega
  have hcI : (count : Int) ≤ 2048 := by omega
  have HC := Lib.hid (show 2 ≤ count by omega)
  clear hsz hf hz hN hD
  generalize N / 2 = H at *
  have hb0 : Below w.heap.size w (w.alloc (.cells #[.pointer (some ⟨p, 0, none⟩), .int .i64 (first : Int), .int .i64 (count : Int)] 116)) := (Below.refl _ _).alloc (Nat.le_refl _) _
  have hg0 := heap_alloc_new w (.cells #[.pointer (some ⟨p, 0, none⟩), .int .i64 (first : Int), .int .i64 (count : Int)] 116)
  have HB := Lib.hid (And.intro hb0 hg0)
  clear hb0 hg0
  go_enter Try.func29, Try.ntmps29
  go_wp2_with (go_at_call 38; (with_reducible refine HSZ.out.mono ?_); rintro e w1 ⟨rfl, rfl⟩)
  go_ret2
  exact ⟨w.heap.size, rfl, Nat.le_refl _, ⟨HB.out.2, HC.out⟩, HB.out.1⟩
end Go.Proofs.Ytdjcpjfomgfjlaa
