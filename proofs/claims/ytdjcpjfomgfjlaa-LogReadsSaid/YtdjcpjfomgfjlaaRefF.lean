/- Lists of numbers that are the same. -/
import Derived.Test.YtdjcpjfomgfjlaaRefE
import Derived.Test.YtdjcpjfomgfjlaaJnC
namespace Go.Proofs.Ytdjcpjfomgfjlaa
open Go.RowKit Go.Maps

set_option maxRecDepth 100000 in
set_option maxHeartbeats 2000000 in
theorem ints_same (w : World) (A B : Option Addr) (L : List Nat) (c d b1 b2 : Nat) (h1 : Rd w b1 A (ints L)) (h2 : Rd w b2 B (ints L)) (hb1 : b1 ≤ w.heap.size) (hb2 : b2 ≤ w.heap.size) (hl : L.length ≤ 4096) :
    Calls Try.prog 58 #[.slice A L.length c, .slice B L.length d] w fun e w' => e = .returned (.bool true) ∧ Below w.heap.size w w' := by
  have HH := Lib.hid (And.intro h1 (And.intro h2 (And.intro hb1 (And.intro hb2 hl))))
  clear h1 h2 hb1 hb2 hl
  go_enter Try.func58, Try.ntmps58
  go_wp2_with go_in
  go_loopw [5, 13] (fun _ i wr => ∃ k : Nat, k ≤ L.length ∧ i = .int .i64 (k : Int) ∧ Below w.heap.size w wr)
    (fun _ i _ => L.length - (intOf i).toNat)
  case atStart => exact ⟨0, by omega, rfl, Below.refl _ _⟩
  case round =>
    obtain ⟨k, hk, rfl, hb⟩ := hrel
    by_cases hkl : k < L.length
    · have hkI : (k : Int) < (L.length : Int) := by omega
      have hkb : (k : Int) < 4096 := by have := HH.out.2.2.2.2; omega
      obtain ⟨p1, o1, rfl, hp1, hc1⟩ := HH.out.1.get (k := k) (by simpa using hkl)
      obtain ⟨p2, o2, rfl, hp2, hc2⟩ := HH.out.2.1.get (k := k) (by simpa using hkl)
      have e1 : wr.cell? ⟨p1, o1 + k, none⟩ = some (.int .i64 (L[k] : Int)) := by
        rw [← ints_get L k hkl, ← hc1]; exact hb.cell (p := ⟨p1, o1 + k, none⟩) (by have := HH.out.2.2.1; show p1 < _; omega)
      have e2 : wr.cell? ⟨p2, o2 + k, none⟩ = some (.int .i64 (L[k] : Int)) := by
        rw [← ints_get L k hkl, ← hc2]; exact hb.cell (p := ⟨p2, o2 + k, none⟩) (by have := HH.out.2.2.2.1; show p2 < _; omega)
      obtain ⟨x, hx⟩ : ∃ x, x = L[k] := ⟨_, rfl⟩
      rw [← hx] at e1 e2
      have HB := Lib.hid (And.intro hb hkl)
      clear hb hkl hc1 hc2 hp1 hp2 hx
      go_upto_region 6 with go_in
      go_quiet (fail)
      go_wp2_with go_in
      exact ⟨⟨k + 1, HB.out.2, by simp, Below.drewN' HB.out.1 _⟩, by simp [intOf]; have := HB.out.2; omega⟩
    · obtain rfl : k = L.length := by omega
      have HB := Lib.hid hb
      clear hb
      go_wp2_with go_in
      go_ret
      exact ⟨rfl, HB.out⟩
end Go.Proofs.Ytdjcpjfomgfjlaa
