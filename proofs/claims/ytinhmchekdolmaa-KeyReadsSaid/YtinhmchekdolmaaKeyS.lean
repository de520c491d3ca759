/- rhizomelaw01.same, of a key and its copy. -/
import Derived.Test.YtinhmchekdolmaaProg
import Derived.Test.YtinhmchekdolmaaKeyP
import Derived.WalkKit
import Derived.WalkSpells
import Derived.WalkLawsBesides
import Derived.Laws.StructEq
import Derived.Deep.QuietTactic
import Derived.BigQuiet
import Derived.KernelRfl
import Derived.Lib.Hide
namespace Go.Proofs.Ytinhmchekdolmaa
open Go.RowKit

set_option maxRecDepth 100000 in
set_option maxHeartbeats 1000000 in
theorem same_any (A1 A2 : Option Addr) (ks : List KPart) (n1 n2 c1 c2 B : Nat) (w : World) (hn1 : n1 = ks.length) (hn2 : n2 = ks.length) (hr1 : Rd w B A1 (pcs ks)) (hr2 : Rd w B A2 (pcs ks)) (hl : ks.length ≤ 4611686018427387904) :
    Calls Try.prog 16 #[.slice A1 n1 c1, .slice A2 n2 c2] w fun e w' => e = .returned (.bool true) ∧ ∃ m, w' = w.drewN m := by
  subst hn1 hn2
  go_enter Try.func16, Try.ntmps16
  go_wp2
  go_loopw [8] (fun i wr => ∃ k : Nat, k ≤ ks.length ∧ i = .int .i64 (k : Int) ∧ ∃ m, wr = w.drewN m) (fun i _ => ks.length - (intOf i).toNat)
  case atStart => exact ⟨0, by omega, rfl, 0, rfl⟩
  case round =>
    obtain ⟨k, hk, rfl, m, rfl⟩ := hrel
    rcases Nat.lt_or_ge k ks.length with h8 | h8
    · obtain ⟨q, hq⟩ : ∃ q, q = ks[k] := ⟨_, rfl⟩
      obtain ⟨b1, o1, rfl, -, c10, c11, c12⟩ := hr1.part h8
      obtain ⟨b2, o2, rfl, -, c20, c21, c22⟩ := hr2.part h8
      rw [← hq] at c10 c11 c12 c20 c21 c22
      clear hq
      go_wp2_with fail
      go_quiet (fail)
      go_wp2
      go_roundw
      case rel => exact ⟨k + 1, by omega, by go_num, m + nq, rfl⟩
      case measure => simp [intOf]; omega
    · obtain rfl : k = ks.length := by omega
      go_wp2
      go_ret
      exact ⟨by simp, m, rfl⟩
end Go.Proofs.Ytinhmchekdolmaa
