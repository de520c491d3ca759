/- What Pairs comes to of few edges, plainly. -/
import Derived.Test.YtgjjdmkoamjdpaaJnL
import Derived.Test.YtgjjdmkoamjdpaaJnG
namespace Go.Proofs.Ytgjjdmkoamjdpaa

theorem pairsC_few {lab : Nm} {E : List Pr} (hn : isNm lab = true) (h : E.length ≤ 40) : pairsC lab E = 0 ∧ pairsR lab E = spanL E := by
  have h1 := spanL_few E
  have h2 : E.length * E.length ≤ 40 * 40 := Nat.mul_le_mul h h
  unfold pairsC pairsR
  rw [if_neg (by rw [hn]; decide), if_neg (by omega), if_neg (by rw [hn]; decide), if_neg (by omega)]
  exact ⟨rfl, rfl⟩
theorem pairsC_no {lab : Nm} {E : List Pr} (hn : isNm lab = false) : pairsC lab E = 1 ∧ pairsR lab E = [] := by
  unfold pairsC pairsR
  rw [if_pos hn, if_pos hn]
  exact ⟨rfl, rfl⟩
end Go.Proofs.Ytgjjdmkoamjdpaa
