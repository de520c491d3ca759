/- KeyOwn: what its loops write (rows that are written beside others). -/
import Derived.Test.YtinhmchekdolmaaProg
import Derived.Test.YtinhmchekdolmaaKeyS
import Derived.Test.YtinhmchekdolmaaKeyL
import Derived.WalkKit
import Derived.WalkSpells
namespace Go.Proofs.Ytinhmchekdolmaa
open Go.RowKit

theorem grown_below {w w' : World} {g B : Nat} (h : w.grownBy w' (some g)) (hg : B ≤ g) (hB : B ≤ w.heap.size) : Below B w w' :=
  (Below.refl _ _).grown h hB (fun k hk => by injection hk with hk; omega)
theorem grownBy_trans {a b c : World} {g : Nat} (h : a.grownBy b (some g)) (k : b.grownBy c (some g)) : a.grownBy c (some g) := World.grownBy.trans h k

theorem own_keptBy {w w' : World} {base g size n : Nat} {e : TypeId} {v : Value} {xs : List Value} (h : w.ownsRow base e size v n xs) (hg : w.grownBy w' (some g)) (hlt : g < base) : w'.ownsRow base e size v n xs := by
  refine World.ownsRow.kept h hg ?_
  rcases hv : v.ownBlock with _ | k
  · exact .inl rfl
  · refine .inr ?_
    intro e
    injection e with e
    have := (World.ownsRow.lt h k hv).1
    omega

theorem store3 {w : World} {base g cap n j : Nat} {e : TypeId} {xs : List Value} (h : w.ownsRow base e 3 (.slice (some ⟨g, 0, none⟩) n cap) n xs) (u0 u1 u2 : Value) :
    w.grownBy (((w.setCell ⟨g, j, none⟩ u0).setCell ⟨g, j + 1, none⟩ u1).setCell ⟨g, j + 2, none⟩ u2) (some g) ∧
      ∃ xs', (((w.setCell ⟨g, j, none⟩ u0).setCell ⟨g, j + 1, none⟩ u1).setCell ⟨g, j + 2, none⟩ u2).ownsRow base e 3 (.slice (some ⟨g, 0, none⟩) n cap) n xs' := by
  have a := h.stored j u0
  have b := a.1.stored (j + 1) u1
  have c := b.1.stored (j + 2) u2
  exact ⟨World.grownBy.trans (World.grownBy.trans a.2 b.2) c.2, _, c.1⟩

theorem wrapS (n : Int) (h0 : 0 ≤ n) (h1 : n < 9223372036854775808) : wrap64 n = n := by unfold wrap64; omega

theorem wrapUp {k n : Nat} (h : k < n) (hn : (n : Int) ≤ 9223372036854775807) : wrap64 ((k : Int) + 1) = ((k + 1 : Nat) : Int) := by
  rw [wrapS _ (by omega) (by omega)]; rfl

theorem lenInt {n : Nat} (h : n ≤ maxLen) : (n : Int) ≤ 9223372036854775807 := by
  unfold maxLen at h; omega

theorem rowLen {w : World} {base e size n : Nat} {v : Value} {xs : List Value} (h : w.ownsRow base e size v n xs) : (n : Int) ≤ 9223372036854775807 := by
  obtain ⟨A, c, -, h1, h2, -⟩ := own_shape h
  exact lenInt (Nat.le_trans h1 h2)

theorem rdKey_len : ∀ (f : Nat) (l : List UInt8) (ks : List KPart), rdKey f l = some ks → ks.length ≤ l.length
  | f, [], ks, h => by
    have : ks = [] := by cases f <;> simp [rdKey] at h <;> exact h
    subst this; simp
  | 0, _ :: _, ks, h => by simp [rdKey] at h
  | f + 1, b :: l, ks, h => by
    rw [rdKey] at h
    split at h
    · cases h
    · rename_i p r he
      obtain ⟨x, hx, rfl⟩ := Option.map_eq_some_iff.1 h
      have h1 := rdKey_len f r x hx
      have h2 := rdP_short _ _ _ he
      simp at h2 ⊢
      omega
theorem decK_len (l : List UInt8) : (decK l).length ≤ 200 := by
  unfold decK
  split
  · simp
  · rcases h : rdKey l.length l with _ | ks
    · simp
    · have := rdKey_len _ _ _ h
      simp
      omega

theorem stepBelow {w wr wk w' : World} {b g : Nat} (h : Below w.heap.size w wr) (hk : Below wr.heap.size wr wk) (hg : wk.grownBy w' (some g)) (h1 : b ≤ g) (h2 : w.heap.size ≤ b) : Below w.heap.size w w' := by
  have h3 := h.size
  have h4 := hk.size
  exact (h.trans (hk.mono h3)).trans (grown_below hg (by omega) (by omega))

theorem stepRd {wr wk w' : World} {b g : Nat} {A : Option Addr} {l : List Value} (h : Rd wr b A l) (hk : Below wr.heap.size wr wk) (hg : wk.grownBy w' (some g)) (h1 : b ≤ g) (h2 : b ≤ wr.heap.size) : Rd w' b A l := by
  have h4 := hk.size
  exact (h.below hk (by omega)).grown hg (by omega) (by intro g' e; injection e with e; omega)

theorem stepSize {wr wk w' : World} {b g : Nat} (hk : Below wr.heap.size wr wk) (hg : wk.grownBy w' (some g)) (h2 : b ≤ wr.heap.size) : b ≤ w'.heap.size := by
  have h4 := hk.size
  have h5 := hg.size
  omega

theorem stepMeasure {k n : Nat} (h : k < n) (hn : (n : Int) ≤ 9223372036854775807) : n - (intOf (.int .i64 (wrap64 ((k : Int) + 1)))).toNat < n - (intOf (.int .i64 (k : Int))).toNat := by
  rw [wrapUp h hn]
  simp only [intOf, Int.toNat_natCast]
  omega

end Go.Proofs.Ytinhmchekdolmaa
