/- The document's image: Fits. -/
import Derived.Test.YtdjcpjfomgfjlaaImgT
import Derived.Test.YtdjcpjfomgfjlaaImgF
namespace Go.Proofs.Ytdjcpjfomgfjlaa
open Go.RowKit Go.Maps

instance (size : Nat) (first count : Int) : Decidable (FitsI size first count) := by unfold FitsI; infer_instance
set_option maxRecDepth 100000 in
set_option maxHeartbeats 1000000 in
theorem rfits_any (size : Nat) (hs : size ≤ 4096) (first count : Int) (h1 : -9223372036854775808 ≤ first ∧ first ≤ 9223372036854775807) (h2 : -9223372036854775808 ≤ count ∧ count ≤ 9223372036854775807) (w : World) :
    Calls Try.prog 30 #[.int .i64 (size : Int), .int .i64 first, .int .i64 count] w fun e w' => e = .returned (.bool (decide (FitsI size first count))) ∧ w = w' := by
  have hsI : (size : Int) ≤ 4096 := by omega
  by_cases c1 : 0 ≤ first
  · by_cases c2 : 2 ≤ count
    · by_cases c3 : first ≤ (size : Int)
      · have hd : ((size : Int) - first).tdiv 2 = ((size : Int) - first) / 2 := Int.tdiv_eq_ediv_of_nonneg (by omega)
        by_cases c4 : count ≤ ((size : Int) - first) / 2
        · have e : decide (FitsI size first count) = true := decide_eq_true (by unfold FitsI; omega)
          have HE := Lib.hid e
          rw [e]
          clear e HE
          go_enter Try.func30, Try.ntmps30
          go_wp2_with (fail)
          go_ret
          exact ⟨rfl, rfl⟩
        · have e : decide (FitsI size first count) = false := decide_eq_false (by unfold FitsI; omega)
          rw [e]
          clear e
          go_enter Try.func30, Try.ntmps30
          go_wp2_with (fail)
          go_ret
          exact ⟨rfl, rfl⟩
      · have e : decide (FitsI size first count) = false := decide_eq_false (by unfold FitsI; omega)
        rw [e]
        clear e
        go_enter Try.func30, Try.ntmps30
        go_wp2_with (fail)
        go_ret
        exact ⟨rfl, rfl⟩
    · have e : decide (FitsI size first count) = false := decide_eq_false (by unfold FitsI; omega)
      rw [e]
      clear e
      go_enter Try.func30, Try.ntmps30
      go_wp2_with (fail)
      go_ret
      exact ⟨rfl, rfl⟩
  · have e : decide (FitsI size first count) = false := decide_eq_false (by unfold FitsI; omega)
    rw [e]
    clear e
    go_enter Try.func30, Try.ntmps30
    go_wp2_with (fail)
    go_ret
    exact ⟨rfl, rfl⟩
end Go.Proofs.Ytdjcpjfomgfjlaa
