/- The law SpanRings, walked. -/
import Derived.Test.YtmldiojlglpoiaaSpGF
import Derived.Test.YtmldiojlglpoiaaJnO
import Derived.Test.YtmldiojlglpoiaaJoOp
namespace Go.Proofs.Ytmldiojlglpoiaa
open Go.RowKit Go.Maps Go.Sort

theorem EdsRaw.esR {w : World} {A : Option Addr} {c : Nat} {l : List Ed} (h : EdsRaw w A c l) (hs : l.length ≤ 1000) : Es w A c l := ⟨h.1, h.2.1, hs⟩
set_option maxRecDepth 100000 in
set_option maxHeartbeats 8000000 in
theorem spanRings_walk (lab : Nm) (A : Option Addr) (l : List Ed) (c : Nat) (W : World) (he : EdsRaw W A c l) (hlm : lab.length ≤ maxLen) : Calls Try.prog 5 #[.string ⟨lab.toArray⟩, .slice A l.length c] W fun e w' => e = .returned (.bool true) ∧ Below W.heap.size W w' := by
  have HAW := Lib.hid awake13_any
  by_cases h20 : l.length ≤ 20
  · have hlI : ¬ (20 : Int) < (l.length : Int) := by omega
    by_cases h300 : lab.length ≤ 300
    · have hnI : ¬ (300 : Int) < (lab.length : Int) := by omega
      have HE := Lib.hid (And.intro (he.esR (by omega)) (And.intro h20 hlm))
      clear he h20 h300
      cases hn : isNm lab with
      | false =>
        have HR1 := Lib.hid fun WW (hW : Below W.heap.size W WW) => (show Calls Try.prog 23 #[.string ⟨lab.toArray⟩, .slice A l.length c] WW fun e w' => e = .returned (.tuple #[.slice none 0 0, .int .i64 1]) ∧ Below WW.heap.size WW w' from (Rings_any lab A c l WW (HE.out.1.below hW)).mono fun e w' h => by
          rcases h with ⟨_, h2, h3⟩ | ⟨h1, _⟩
          · exact ⟨h2, h3⟩
          · rw [hn] at h1; cases h1)
        have HR2 := Lib.hid fun WW (hW : Below W.heap.size W WW) => (show Calls Try.prog 24 #[.string ⟨lab.toArray⟩, .slice A l.length c] WW fun e w' => e = .returned (.tuple #[.slice none 0 0, .int .i64 1]) ∧ Below WW.heap.size WW w' from (rrings_any lab A c l WW (HE.out.1.below hW) HE.out.2.1 HE.out.2.2).mono fun e w' h => by
          rcases h with ⟨_, h2, h3⟩ | ⟨h1, _⟩
          · exact ⟨h2, h3⟩
          · rw [hn] at h1; cases h1)
        clear hn
        go_enter Try.func5, Try.ntmps5
        go_upto_region 7 with (first
          | (go_at_call 15; (with_reducible refine (HAW.out _).mono ?_); rintro e w1 ⟨rfl, hb1⟩; have B1 := Lib.hid hb1; clear hb1)
          | (go_at_call 23; (with_reducible refine (HR1.out _ B1.out).mono ?_); rintro e w2 ⟨rfl, b2⟩; have B2 := Lib.hid (B1.out.trans (lower' b2 B1.out.size)); clear b2)
          | (go_at_call 24; (with_reducible refine (HR2.out _ B2.out).mono ?_); rintro e w3 ⟨rfl, b3⟩; have B3 := Lib.hid (B2.out.trans (lower' b3 B2.out.size)); clear b3))
        go_wp2_with (fail)
        go_loopw [47] (fun v wr => v = .int .i64 0 ∧ wr = w3) (fun _ _ => 0)
        case atStart => exact ⟨rfl, rfl⟩
        case round =>
          obtain ⟨rfl, hrel⟩ := hrel
          have HW := Lib.hid hrel
          clear hrel
          go_wp2_with (fail)
          go_ret
          exact ⟨rfl, by rw [HW.out]; exact B3.out⟩
      | true =>
        have HR1 := Lib.hid fun WW (hW : Below W.heap.size W WW) => (show Calls Try.prog 23 #[.string ⟨lab.toArray⟩, .slice A l.length c] WW fun e w' => ∃ y : LV, e = .returned (.tuple #[.slice y.A y.ts.length y.c, .int .i64 0]) ∧ y.Ok w' ∧ (∀ S, ClosOk (prsL lab l) S → tus y.ts = ringsR S) ∧ Below WW.heap.size WW w' from (Rings_any lab A c l WW (HE.out.1.below hW)).mono fun e w' h => by
          rcases h with ⟨h1, _⟩ | ⟨_, h2⟩
          · rw [hn] at h1; cases h1
          · exact h2)
        have HR2 := Lib.hid fun WW (hW : Below W.heap.size W WW) => (show Calls Try.prog 24 #[.string ⟨lab.toArray⟩, .slice A l.length c] WW fun e w' => ∃ y : LV, e = .returned (.tuple #[.slice y.A y.ts.length y.c, .int .i64 0]) ∧ y.Ok w' ∧ (∃ S, ClosOk (prsL lab l) S ∧ tus y.ts = ringsR S) ∧ Below WW.heap.size WW w' from (rrings_any lab A c l WW (HE.out.1.below hW) HE.out.2.1 HE.out.2.2).mono fun e w' h => by
          rcases h with ⟨h1, _⟩ | ⟨_, h2⟩
          · rw [hn] at h1; cases h1
          · exact h2)
        clear hn
        go_enter Try.func5, Try.ntmps5
        go_upto_region 5 with (first
          | (go_at_call 15; (with_reducible refine (HAW.out _).mono ?_); rintro e w1 ⟨rfl, hb1⟩; have B1 := Lib.hid hb1; clear hb1)
          | (go_at_call 23; (with_reducible refine (HR1.out _ B1.out).mono ?_); rintro e w2 ⟨y, rfl, y2, t2, b2⟩; have Y2 := Lib.hid (And.intro y2 t2); have B2 := Lib.hid (B1.out.trans (lower' b2 B1.out.size)); clear y2 t2 b2)
          | (go_at_call 24; (with_reducible refine (HR2.out _ B2.out).mono ?_); rintro e w3 ⟨z, rfl, z3, t3, b3⟩; have Z3 := Lib.hid (And.intro z3 (And.intro t3 (Y2.out.1.below b3))); have B3 := Lib.hid (B2.out.trans (lower' b3 B2.out.size)); clear z3 t3 b3))
        clear HR1 HR2 HAW
        obtain ⟨S, hS, hzt⟩ := Z3.out.2.1
        have hyt := Y2.out.2 S hS
        have hyz : tus y.ts = tus z.ts := hyt.trans hzt.symm
        have hlen : y.ts.length = z.ts.length := by rw [← tus_len y.ts, ← tus_len z.ts, hyz]
        have HYZ := Lib.hid hyz
        have HOK := Lib.hid (And.intro Z3.out.2.2 Z3.out.1)
        have hys := Z3.out.2.2.sm
        clear hS hzt hyt hyz Y2 Z3
        rw [hlen]
        obtain ⟨n, hn⟩ : ∃ n, n = z.ts.length := ⟨_, rfl⟩
        rw [← hn]
        have HLN := Lib.hid (And.intro (hlen.trans hn.symm) hn)
        rw [hlen, ← hn] at hys
        clear hlen hn
        go_wp2_with (fail)
        go_loopw [47] (fun v wr => ∃ k : Nat, k ≤ n ∧ v = .int .i64 (k : Int) ∧ Hid (Below w3.heap.size w3 wr)) (fun v _ => n - (intOf v).toNat)
        case atStart => exact ⟨0, by omega, rfl, Lib.hid (Below.refl _ _)⟩
        case round =>
          obtain ⟨k, hk, rfl, hrel⟩ := hrel
          rename World => wr
          by_cases hlt : k < n
          · have hkI : (k : Int) < (n : Int) := by omega
            have hky : k < y.ts.length := by rw [HLN.out.1]; exact hlt
            have hkz : k < z.ts.length := by rw [← HLN.out.2]; exact hlt
            have hyo := HOK.out.1.below hrel.out
            have hzo := HOK.out.2.below hrel.out
            obtain ⟨b, o, hA, hbl, c0⟩ := hyo.cell hky
            obtain ⟨b2, o2, hA2, hbl2, d0⟩ := hzo.cell hkz
            have hii := fun WW (hW : Below wr.heap.size wr WW) => ints_any y.ts[k] z.ts[k] WW ((hyo.at hky).below hW) ((hzo.at hkz).below hW)
            rw [show decide (y.ts[k].l = z.ts[k].l) = true from decide_eq_true (by
              have h1 := tus_at y.ts k hky
              have h2 := tus_at z.ts k hkz
              rw [← h1, ← h2]
              simp only [HYZ.out])] at hii
            have HI := Lib.hid hii
            have KS := Lib.hid fun W' (h : Below wr.heap.size wr W') => (⟨(h.cell (p := ⟨b, o + k, none⟩) hbl).trans c0, (h.cell (p := ⟨b2, o2 + k, none⟩) hbl2).trans d0⟩ : W'.cell? ⟨b, o + k, none⟩ = some (.slice y.ts[k].A y.ts[k].l.length y.ts[k].c) ∧ W'.cell? ⟨b2, o2 + k, none⟩ = some (.slice z.ts[k].A z.ts[k].l.length z.ts[k].c))
            rw [hA, hA2]
            generalize y.ts[k] = p at HI KS
            generalize z.ts[k] = q at HI KS
            have HB := Lib.hid hrel.out
            clear hyo hzo hA hA2 hbl hbl2 c0 d0 hii hrel hky hkz
            go_upto_region 10 with (fail)
            go_region_held3 (fun W => W.cell? ⟨b, o + k, none⟩ = some (.slice p.A p.l.length p.c) ∧ W.cell? ⟨b2, o2 + k, none⟩ = some (.slice q.A q.l.length q.c)) (first | with_reducible assumption | exact KS.out _ (Below.refl _ _).drew | exact KS.out _ B6.out)
              (first | (go_at_call 22; (with_reducible refine (HI.out _ (Below.refl _ _).drew).mono ?_); rintro e w6 ⟨rfl, b6⟩; have B6 := Lib.hid ((Below.refl wr.heap.size wr).drew.trans (b6 : Below wr.heap.size _ _)); clear b6))
            all_goals
              go_wp2_with (fail)
              go_roundw
              case rel => exact ⟨k + 1, by omega, by go_num, Lib.hid (HB.out.trans (lower' B6.out HB.out.size))⟩
              case measure => simp [intOf]; omega
          · have hkI : ¬ (k : Int) < (n : Int) := by omega
            have HB := Lib.hid (B3.out.trans (lower' hrel.out B3.out.size))
            clear hrel
            go_wp2_with (fail)
            go_ret
            exact ⟨rfl, HB.out⟩
    · have hnI : (300 : Int) < (lab.length : Int) := by omega
      clear he h20 h300
      go_enter Try.func5, Try.ntmps5
      go_upto_region 2 with (go_at_call 15; (with_reducible refine (HAW.out _).mono ?_); rintro e w1 ⟨rfl, hb1⟩; have B1 := Lib.hid hb1; clear hb1)
      go_wp2_with (go_at_call 15; (with_reducible refine (HAW.out _).mono ?_); rintro e w2 ⟨rfl, hb2⟩; have B2 := Lib.hid (B1.out.trans (lower' hb2 B1.out.size)); clear hb2)
      go_ret
      exact ⟨rfl, B2.out⟩
  · have hlI : (20 : Int) < (l.length : Int) := by omega
    clear he h20
    go_enter Try.func5, Try.ntmps5
    go_upto_region 2 with (go_at_call 15; (with_reducible refine (HAW.out _).mono ?_); rintro e w1 ⟨rfl, hb1⟩; have B1 := Lib.hid hb1; clear hb1)
    go_wp2_with (go_at_call 15; (with_reducible refine (HAW.out _).mono ?_); rintro e w2 ⟨rfl, hb2⟩; have B2 := Lib.hid (B1.out.trans (lower' hb2 B1.out.size)); clear hb2)
    go_ret
    exact ⟨rfl, B2.out⟩
end Go.Proofs.Ytmldiojlglpoiaa
