/- A tree's list: ranges cut in two, beginnings of ranges (plain). -/
import Derived.Test.YtklhfegdjadgdaaTreR
namespace Go.Proofs.Ytklhfegdjadgdaa

theorem rng_eq (lo to : List UInt8) (L : List Pr) (h : L.length ≤ 1000) : rngL lo to 1000 L = (L.take (endL to L)).drop (rankL lo L) := by
  have h1 := endL_le to L
  unfold rngL
  split
  · rename_i h2
    rw [List.drop_eq_nil_of_le]
    rw [List.length_take]
    omega
  · rename_i h2
    unfold cutI
    rw [show ((rankL lo L : Int) + min (1000 : Int) ((endL to L : Int) - (rankL lo L : Int))).toNat = endL to L by omega, show ((rankL lo L : Int)).toNat = rankL lo L by omega]
theorem rng_most (lo to : List UInt8) (most : Int) (L : List Pr) (h : L.length ≤ 1000) : rngL lo to most L = (rngL lo to 1000 L).take most.toNat := by
  have h1 := endL_le to L
  rw [rng_eq lo to L h]
  unfold rngL
  split
  · rename_i h2
    rcases h2 with h2 | h2
    · rw [show most.toNat = 0 by omega, List.take_zero]
    · rw [List.drop_eq_nil_of_le (by rw [List.length_take]; omega), List.take_nil]
  · rename_i h2
    unfold cutI
    apply List.ext_getElem?
    intro i
    simp only [List.getElem?_drop, List.getElem?_take]
    repeat' split
    all_goals first | rfl | (exfalso; omega) | (congr 1; done) | (rw [show ((rankL lo L : Int)).toNat = rankL lo L by omega])
theorem rank_mono {a b : List UInt8} (L : List Pr) (h : ¬ cmpB b a < 0) : rankL a L ≤ rankL b L := by
  unfold rankL
  rw [← List.countP_eq_length_filter, ← List.countP_eq_length_filter]
  apply List.countP_mono_left
  intro p _ hp
  have h1 := of_decide_eq_true hp
  apply decide_eq_true
  by_cases h2 : cmpB a b < 0
  · exact cmp_trans h1 h2
  · have : cmpB a b = 0 := by have := cmp_swap a b; omega
    rw [← cmp_eq this]
    exact h1
theorem take_halves (L : List Pr) {F M E : Nat} (h1 : F ≤ M) (h2 : M ≤ E) : (L.take E).drop F = (L.take M).drop F ++ (L.take E).drop M := by
  apply List.ext_getElem?
  intro i
  simp only [List.getElem?_append, List.getElem?_drop, List.getElem?_take, List.length_drop, List.length_take]
  by_cases hi : i < min M L.length - F
  · rw [if_pos hi, if_pos (by omega), if_pos (by omega)]
  · rw [if_neg hi]
    by_cases hL : F + i < L.length
    · rw [show M + (i - (min M L.length - F)) = F + i by omega]
    · rw [List.getElem?_eq_none (by omega : L.length ≤ F + i)]
      rw [List.getElem?_eq_none (by omega : L.length ≤ M + (i - (min M L.length - F)))]
      simp
end Go.Proofs.Ytklhfegdjadgdaa
