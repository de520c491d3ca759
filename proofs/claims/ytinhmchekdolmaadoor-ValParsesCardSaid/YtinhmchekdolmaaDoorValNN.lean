/- The reference's Bytes, digit. -/
import Derived.Test.YtinhmchekdolmaaDoorProg
import Derived.Test.YtinhmchekdolmaaDoorValLL
import Derived.Test.YtinhmchekdolmaaDoorValF
import Derived.WalkKit
import Derived.WalkSpells
import Derived.WalkLawsBesides
import Derived.Deep.QuietTactic
import Derived.BigQuiet
import Derived.KernelRfl
import Derived.Lib.Hide
namespace Go.Proofs.YtinhmchekdolmaaDoor
open Go.RowKit

theorem u8z (z : Int) (h0 : 0 ≤ z) (h1 : z < 256) : ((z.toNat % 2 ^ 8 : Nat) : Int) = z := by omega
theorem str_new (w : World) (l : List UInt8) (xs : List Value) (hx : xs = u8s l) :
    (convert 26 9 (.slice (some ⟨w.heap.size, 0, none⟩) l.length l.length)).run Tryd.prog (w.alloc (.cells xs.toArray 5)) = .ok (.string ⟨l.toArray⟩) (w.alloc (.cells xs.toArray 5)) := by
  subst hx
  exact strAt0 (Rd.new w _ _ _) rfl

set_option maxRecDepth 100000 in
set_option maxHeartbeats 1000000 in
theorem refBytes_any (n : Nat) (w : World) (h : okR n) :
    Calls Tryd.prog 28 #[.int .i64 (n : Int)] w fun e w' => e = .returned (.string ⟨(Lib.encodeRune (n : Int)).toArray⟩) ∧ Below w.heap.size w w' := by
  unfold okR at h
  have hBZ : ∀ (o : Obj), Below w.heap.size w (w.alloc o) := fun o => (Below.refl _ _).alloc (Nat.le_refl _) _
  obtain ⟨R, hR⟩ : ∃ R, R = Lib.encodeRune (n : Int) := ⟨_, rfl⟩
  rw [← hR]
  unfold Lib.encodeRune at hR
  by_cases c1 : n ≤ 127
  · rw [Lib.encodeRuneZ_one (by omega) (by omega)] at hR
    have q := str_new w R [.int .u8 (n : Int)] (by
      rw [hR]
      simp only [u8s, List.map_cons, List.map_nil, Nat.toUInt8, UInt8.toNat_ofNat']
      congr 2; omega)
    rw [show R.length = 1 by rw [hR]; rfl] at q
    have h1 : (n : Int) < 128 := by omega
    clear hR c1 h
    go_enter Tryd.func28, Tryd.ntmps28
    go_wp2
    go_ret
    exact ⟨rfl, hBZ _⟩
  · by_cases c2 : n ≤ 2047
    · rw [Lib.encodeRuneZ_two (by omega) (by omega)] at hR
      have q := str_new w R [.int .u8 (192 + (n : Int) / 64), .int .u8 (128 + (n : Int) % 64)] (by
        rw [hR]
        simp only [u8s, List.map_cons, List.map_nil, Nat.toUInt8, UInt8.toNat_ofNat']
        rw [u8z _ (by omega) (by omega), u8z _ (by omega) (by omega)])
      rw [show R.length = 2 by rw [hR]; rfl] at q
      have h1 : ¬ (n : Int) < 128 := by omega
      have h2 : (n : Int) < 2048 := by omega
      clear hR c1 c2 h
      go_enter Tryd.func28, Tryd.ntmps28
      go_wp2
      go_ret
      exact ⟨rfl, hBZ _⟩
    · by_cases c3 : n ≤ 65535
      · rw [Lib.encodeRuneZ_three (by omega)] at hR
        have q := str_new w R [.int .u8 (224 + (n : Int) / 4096), .int .u8 (128 + (n : Int) / 64 % 64), .int .u8 (128 + (n : Int) % 64)] (by
          rw [hR]
          simp only [u8s, List.map_cons, List.map_nil, Nat.toUInt8, UInt8.toNat_ofNat']
          rw [u8z _ (by omega) (by omega), u8z _ (by omega) (by omega), u8z _ (by omega) (by omega)])
        rw [show R.length = 3 by rw [hR]; rfl] at q
        have h1 : ¬ (n : Int) < 128 := by omega
        have h2 : ¬ (n : Int) < 2048 := by omega
        have h3 : (n : Int) < 65536 := by omega
        clear hR c1 c2 c3 h
        go_enter Tryd.func28, Tryd.ntmps28
        go_wp2
        go_ret
        exact ⟨rfl, hBZ _⟩
      · rw [Lib.encodeRuneZ_four (by omega) (by omega)] at hR
        have q := str_new w R [.int .u8 (240 + (n : Int) / 262144), .int .u8 (128 + (n : Int) / 4096 % 64), .int .u8 (128 + (n : Int) / 64 % 64), .int .u8 (128 + (n : Int) % 64)] (by
          rw [hR]
          simp only [u8s, List.map_cons, List.map_nil, Nat.toUInt8, UInt8.toNat_ofNat']
          rw [u8z _ (by omega) (by omega), u8z _ (by omega) (by omega), u8z _ (by omega) (by omega), u8z _ (by omega) (by omega)])
        rw [show R.length = 4 by rw [hR]; rfl] at q
        have h1 : ¬ (n : Int) < 128 := by omega
        have h2 : ¬ (n : Int) < 2048 := by omega
        have h3 : ¬ (n : Int) < 65536 := by omega
        have h4 : (n : Int) ≤ 1114111 := by omega
        clear hR c1 c2 c3 h
        go_enter Tryd.func28, Tryd.ntmps28
        go_wp2
        go_ret
        exact ⟨rfl, hBZ _⟩

set_option maxRecDepth 100000 in
set_option maxHeartbeats 1000000 in
theorem refDigit_any (b : Nat) (w : World) (hb : b < 256) : Calls Tryd.prog 57 #[.int .u8 (b : Int)] w fun e w' => e = .returned (.int .i64 (hexZ b)) ∧ w = w' := by
  have hz : hexZ b = if 48 ≤ b ∧ b ≤ 57 then (b : Int) - 48 else if 97 ≤ b ∧ b ≤ 102 then (b : Int) - 97 + 10 else if 65 ≤ b ∧ b ≤ 70 then (b : Int) - 65 + 10 else -1 := rfl
  by_cases h1 : 48 ≤ b ∧ b ≤ 57
  · have h1a : (48 : Int) ≤ b := by omega
    have h1b : (b : Int) ≤ 57 := by omega
    rw [if_pos h1] at hz
    rw [hz]
    clear hz h1
    go_enter Tryd.func57, Tryd.ntmps57
    go_wp2
    go_ret
    exact ⟨rfl, rfl⟩
  · have h1' : ¬ ((48 : Int) ≤ b ∧ (b : Int) ≤ 57) := by omega
    rw [if_neg h1] at hz
    by_cases h2 : 97 ≤ b ∧ b ≤ 102
    · have h2a : (97 : Int) ≤ b := by omega
      have h2b : (b : Int) ≤ 102 := by omega
      have h2c : ¬ (b : Int) ≤ 57 := by omega
      have h2d : (48 : Int) ≤ b := by omega
      rw [if_pos h2] at hz
      rw [hz]
      clear hz h1 h2 h1'
      go_enter Tryd.func57, Tryd.ntmps57
      go_wp2
      go_ret
      exact ⟨rfl, rfl⟩
    · rw [if_neg h2] at hz
      have h2' : ¬ ((97 : Int) ≤ b ∧ (b : Int) ≤ 102) := by omega
      by_cases h3 : 65 ≤ b ∧ b ≤ 70
      · have h3a : (65 : Int) ≤ b := by omega
        have h3b : (b : Int) ≤ 70 := by omega
        have h2c : ¬ (b : Int) ≤ 57 := by omega
        have h2d : (48 : Int) ≤ b := by omega
        have h2e : ¬ (97 : Int) ≤ b := by omega
        rw [if_pos h3] at hz
        rw [hz]
        clear hz h1 h2 h3 h1' h2'
        go_enter Tryd.func57, Tryd.ntmps57
        go_wp2
        go_ret
        exact ⟨rfl, rfl⟩
      · rw [if_neg h3] at hz
        have h3' : ¬ ((65 : Int) ≤ b ∧ (b : Int) ≤ 70) := by omega
        rw [hz]
        clear hz h1 h2 h3
        go_enter Tryd.func57, Tryd.ntmps57
        go_wp2
        all_goals first
          | (exfalso; omega)
          | (go_ret; exact ⟨rfl, rfl⟩)
end Go.Proofs.YtinhmchekdolmaaDoor
