/- The document's less. -/
import Derived.Test.YtgjjdmkoamjdpaaSpGE
namespace Go.Proofs.Ytgjjdmkoamjdpaa
open Go.RowKit Go.Maps Go.Sort

set_option maxRecDepth 100000 in
set_option maxHeartbeats 2000000 in
theorem less13_any (a b : TV) (w : World) (ha : a.Ok w) (hb : b.Ok w) (hl : a.l.length = b.l.length) : Calls Try.prog 16 #[.slice a.A a.l.length a.c, .slice b.A b.l.length b.c] w fun e w' => e = .returned (.bool (decide (cmpI a.l b.l < 0))) ∧ Below w.heap.size w w' := by
  obtain ⟨R, hR⟩ : ∃ R, R = decide (cmpI a.l b.l < 0) := ⟨_, rfl⟩
  rw [← hR]
  have hs := ha.sm
  obtain ⟨n, hn⟩ : ∃ n, n = a.l.length := ⟨_, rfl⟩
  have hn2 : b.l.length = n := by omega
  rw [hn2, ← hn]
  have HA := Lib.hid (And.intro ha (And.intro hb (And.intro hR (And.intro hn.symm hn2))))
  rw [← hn] at hs
  clear ha hb hR hl hn hn2
  go_enter Try.func16, Try.ntmps16
  go_wp2_with (fail)
  go_loopw [8] (fun v8 wr => ∃ k : Nat, k ≤ n ∧ v8 = .int .i64 (k : Int) ∧ Hid (R = decide (cmpI (a.l.drop k) (b.l.drop k) < 0) ∧ Below w.heap.size w wr)) (fun v8 _ => n - (intOf v8).toNat)
  case atStart => exact ⟨0, by omega, rfl, Lib.hid ⟨HA.out.2.2.1, Below.refl _ _⟩⟩
  case round =>
    obtain ⟨k, hk, rfl, hrel⟩ := hrel
    rename World => wr
    by_cases hlt : k < n
    · have hkI : (k : Int) < (n : Int) := by omega
      have hka : k < a.l.length := by rw [HA.out.2.2.2.1]; exact hlt
      have hkb : k < b.l.length := by rw [HA.out.2.2.2.2]; exact hlt
      obtain ⟨xb, xo, hxa, _, c0⟩ := (HA.out.1.below hrel.out.2).cell hka
      obtain ⟨yb, yo, hya, _, d0⟩ := (HA.out.2.1.below hrel.out.2).cell hkb
      have hRR := hrel.out.1
      rw [List.drop_eq_getElem_cons hka, List.drop_eq_getElem_cons hkb, cmpI_cons] at hRR
      have HB := Lib.hid hrel.out.2
      rw [hxa, hya]
      generalize a.l[k] = x at c0 hRR
      generalize b.l[k] = y at d0 hRR
      clear hrel hxa hya hka hkb
      by_cases h1 : x < y
      · rw [if_pos h1] at hRR
        have HE := Lib.hid (show R = true from by rw [hRR]; rfl)
        have h2 : ¬ x = y := by omega
        clear hRR
        go_upto_region 4 with (fail)
        go_quiet (fail)
        go_upto_region 5 with (fail)
        go_quiet (fail)
        go_wp2_with (fail)
        go_ret
        exact ⟨by rw [HE.out]; rfl, by first | exact Below.drewN' (Below.drewN' HB.out _) _ | exact Below.drewN' HB.out _⟩
      · rw [if_neg h1] at hRR
        by_cases h3 : y < x
        · rw [if_pos h3] at hRR
          have HE := Lib.hid (show R = false from by rw [hRR]; rfl)
          have h2 : ¬ x = y := by omega
          clear hRR
          go_upto_region 4 with (fail)
          go_quiet (fail)
          go_upto_region 5 with (fail)
          go_quiet (fail)
          go_wp2_with (fail)
          go_ret
          exact ⟨by rw [HE.out]; rfl, by first | exact Below.drewN' (Below.drewN' HB.out _) _ | exact Below.drewN' HB.out _⟩
        · rw [if_neg h3] at hRR
          have HE := Lib.hid hRR
          obtain rfl : x = y := by omega
          clear hRR h1 h3
          go_upto_region 4 with (fail)
          go_quiet (fail)
          go_wp2_with (fail)
          go_roundw
          case rel => exact ⟨k + 1, by omega, by go_num, Lib.hid ⟨HE.out, Below.drewN' HB.out _⟩⟩
          case measure => simp [intOf]; omega
    · have hkI : ¬ (k : Int) < (n : Int) := by omega
      have HE := Lib.hid (show R = false from by
        have h := hrel.out.1
        rw [List.drop_of_length_le (by have := HA.out.2.2.2.1; omega), List.drop_of_length_le (by have := HA.out.2.2.2.2; omega)] at h
        rw [h]; rfl)
      have HB := Lib.hid hrel.out.2
      clear hrel
      go_wp2_with (fail)
      go_ret
      exact ⟨by rw [HE.out]; rfl, HB.out⟩
end Go.Proofs.Ytgjjdmkoamjdpaa
