/- The document's Ints. -/
import Derived.Test.YtgjjdmkoamjdpaaJnC
namespace Go.Proofs.Ytgjjdmkoamjdpaa
open Go.RowKit Go.Maps

set_option maxRecDepth 100000 in
set_option maxHeartbeats 2000000 in
theorem ints_any (x y : TV) (w : World) (hx : x.Ok w) (hy : y.Ok w) :
    Calls Try.prog 7 #[.slice x.A x.l.length x.c, .slice y.A y.l.length y.c] w fun e w' => e = .returned (.bool (decide (x.l = y.l))) ∧ Below w.heap.size w w' := by
  obtain ⟨R, hR⟩ : ∃ R, R = decide (x.l = y.l) := ⟨_, rfl⟩
  rw [← hR]
  have hxs := hx.sm
  by_cases hlen : x.l.length = y.l.length
  · have HH := Lib.hid (And.intro hx (And.intro hy (And.intro hR hlen)))
    rw [← hlen]
    clear hx hy hR hlen
    go_enter Try.func7, Try.ntmps7
    go_wp2_with (fail)
    go_loopw [13] (fun i wr => ∃ k : Nat, k ≤ x.l.length ∧ i = .int .i64 (k : Int) ∧ Hid (x.l.take k = y.l.take k ∧ Below w.heap.size w wr)) (fun i _ => x.l.length - (intOf i).toNat)
    case atStart => exact ⟨0, by omega, rfl, Lib.hid ⟨rfl, Below.refl _ _⟩⟩
    case round =>
      obtain ⟨k, hk, rfl, hrel⟩ := hrel
      by_cases hkl : k < x.l.length
      · have hkI : (k : Int) < (x.l.length : Int) := by omega
        have hky : k < y.l.length := by rw [← HH.out.2.2.2]; exact hkl
        obtain ⟨p1, o1, hA1, _, c1⟩ := (HH.out.1.below hrel.out.2).cell hkl
        obtain ⟨p2, o2, hA2, _, c2⟩ := (HH.out.2.1.below hrel.out.2).cell hky
        have ht1 : x.l.take (k + 1) = x.l.take k ++ [x.l[k]] := List.take_succ_eq_append_getElem hkl
        have ht2 : y.l.take (k + 1) = y.l.take k ++ [y.l[k]] := List.take_succ_eq_append_getElem hky
        have hne : x.l[k] ≠ y.l[k] → x.l ≠ y.l := fun h1 h2 => h1 (by simp only [h2])
        rw [hA1, hA2]
        generalize x.l[k] = a at c1 ht1 hne
        generalize y.l[k] = b at c2 ht2 hne
        have B := Lib.hid hrel.out.2
        have E := Lib.hid hrel.out.1
        clear hA1 hA2 hky hrel
        by_cases hab : a = b
        · subst hab
          have T := Lib.hid (show x.l.take (k + 1) = y.l.take (k + 1) from by rw [ht1, ht2, E.out])
          clear ht1 ht2 hne
          go_upto_region 6 with (fail)
          go_quiet (fail)
          go_wp2_with (fail)
          go_roundw
          case rel => exact ⟨k + 1, by omega, by go_num, Lib.hid ⟨T.out, Below.drewN' B.out _⟩⟩
          case measure => simp [intOf]; omega
        · have F := Lib.hid (show R = false from by rw [HH.out.2.2.1]; exact decide_eq_false (hne hab))
          have hb : (a != b) = true := by simp [hab]
          clear ht1 ht2 hne hab
          go_upto_region 6 with (fail)
          go_quiet (fail)
          go_wp2_with (fail)
          go_ret
          exact ⟨by rw [F.out]; rfl, Below.drewN' B.out _⟩
      · obtain rfl : k = x.l.length := by omega
        have hkI : ¬ (x.l.length : Int) < (x.l.length : Int) := by omega
        have F := Lib.hid (show R = true from by
          have h := hrel.out.1
          rw [List.take_length, HH.out.2.2.2, List.take_length] at h
          rw [HH.out.2.2.1]; exact decide_eq_true h)
        have B := Lib.hid hrel.out.2
        clear hrel
        go_wp2_with (fail)
        go_ret
        exact ⟨by rw [F.out]; rfl, B.out⟩
  · have F := Lib.hid (show R = false from by rw [hR]; exact decide_eq_false fun h => hlen (by rw [h]))
    have hlI : ((x.l.length : Int) != (y.l.length : Int)) = true := by simp; omega
    clear hR hlen hx hy
    go_enter Try.func7, Try.ntmps7
    go_wp2_with (fail)
    go_ret
    exact ⟨by rw [F.out]; rfl, Below.refl _ _⟩
end Go.Proofs.Ytgjjdmkoamjdpaa
