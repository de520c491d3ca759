/- TupL, what this seat can fill of it. -/
import Derived.Test.YtobieolonlddlaaJoTK
namespace Go.Proofs.Ytobieolonlddlaa
/- The document's Rises, Same, SameDelta. -/
open Go.RowKit Go.Maps

theorem cmp_m1 {a b : Tu} : cmpI a b = -1 ↔ cmpI a b < 0 := by
  have := cmpI_rng a b
  omega
theorem list_same {a b : List Tu} (hl : a.length = b.length) (h : ∀ i, (ha : i < a.length) → (hb : i < b.length) → cmpI a[i] b[i] = 0) : a = b :=
  List.ext_getElem hl fun i ha hb => cmpI_eq (h i ha hb)
set_option maxRecDepth 100000 in
set_option maxHeartbeats 2000000 in
/-- The document's Same. -/
theorem same10_any (x y : LV) (w : World) (hx : x.Ok w) (hy : y.Ok w) : Calls Try.prog 15 #[.slice x.A x.ts.length x.c, .slice y.A y.ts.length y.c] w fun e w' => e = .returned (.bool (decide (tus x.ts = tus y.ts))) ∧ ∃ n, w' = w.drewN n := by
  obtain ⟨R, hR⟩ : ∃ R, R = decide (tus x.ts = tus y.ts) := ⟨_, rfl⟩
  rw [← hR]
  obtain ⟨nx, hnx⟩ : ∃ n, n = x.ts.length := ⟨_, rfl⟩
  obtain ⟨ny, hny⟩ : ∃ n, n = y.ts.length := ⟨_, rfl⟩
  have hs := hx.sm
  rw [← hnx] at hs ⊢
  rw [← hny]
  have HA := Lib.hid (And.intro hx (And.intro hy (And.intro hR (And.intro hnx hny))))
  clear hx hy hR hnx hny
  by_cases hn : nx = ny
  · subst hn
    go_enter Try.func15, Try.ntmps15
    go_wp2_with (fail)
    go_loopw [13] (fun i wr => ∃ k : Nat, k ≤ nx ∧ i = .int .i64 k ∧ Hid (x.Ok wr ∧ y.Ok wr ∧ ∃ n, wr = w.drewN n) ∧ Hid (∀ i, (h1 : i < x.ts.length) → (h2 : i < y.ts.length) → i < k → cmpI x.ts[i].l y.ts[i].l = 0)) (fun i _ => nx - (intOf i).toNat)
    case atStart => exact ⟨0, by omega, rfl, Lib.hid ⟨HA.out.1, HA.out.2.1, 0, rfl⟩, Lib.hid fun i _ _ h => absurd h (Nat.not_lt_zero _)⟩
    case round =>
      obtain ⟨k, hk, rfl, HW, HF⟩ := hrel
      by_cases hlt : k < nx
      · have h1 : k < x.ts.length := by rw [← HA.out.2.2.2.1]; exact hlt
        have h2 : k < y.ts.length := by rw [← HA.out.2.2.2.2]; exact hlt
        obtain ⟨bx, ox, hxa, _, cx⟩ := HW.out.1.cell h1
        obtain ⟨by', oy, hya, _, cy⟩ := HW.out.2.1.cell h2
        have hc := fun n => rcmp_any x.ts[k] y.ts[k] (wr.drewN n) ((HW.out.1.at h1).drewN n) ((HW.out.2.1.at h2).drewN n)
        have hz : cmpI x.ts[k].l y.ts[k].l = 0 → Hid (∀ i, (h1 : i < x.ts.length) → (h2 : i < y.ts.length) → i < k + 1 → cmpI x.ts[i].l y.ts[i].l = 0) := fun h => Lib.hid fun i g1 g2 gi => by
          by_cases e : i = k
          · subst e; exact h
          · exact HF.out i g1 g2 (by omega)
        have hnz : cmpI x.ts[k].l y.ts[k].l ≠ 0 → R = false := fun h => by
          rw [HA.out.2.2.1, decide_eq_false_iff_not]
          intro e
          apply h
          have g1 := tus_at x.ts k h1
          have g2 := tus_at y.ts k h2
          rw [← g1, ← g2]
          simp only [e, cmpI_refl]
        have g0 : (k : Int) < (nx : Int) := by omega
        have g1 : (0 : Int) ≤ (k : Int) := by omega
        rw [hxa, hya]
        generalize x.ts[k] = a at *
        generalize y.ts[k] = c at *
        obtain ⟨K, hK⟩ : ∃ K, K = cmpI a.l c.l := ⟨_, rfl⟩
        rw [← hK] at hc hz hnz
        have HC := Lib.hid hc
        clear hc hK
        by_cases h0 : K = 0
        · have HZ := hz h0
          clear hz hnz
          subst h0
          go_wp2_with (fail)
          go_quiet ((go_at_call 36; with_reducible exact Calls.quiet_of (HC.out _)))
          go_wp2_with (fail)
          go_roundw
          case rel => exact ⟨k + 1, by omega, by go_num, Lib.hid ⟨HW.out.1.drewN _, HW.out.2.1.drewN _, drew_more HW.out.2.2 _⟩, HZ⟩
          case measure => simp [intOf]; omega
        · have HZ := Lib.hid (hnz h0)
          have h0' : (K == 0) = false := beq_eq_false_iff_ne.2 h0
          clear hz hnz
          go_wp2_with (fail)
          go_quiet ((go_at_call 36; with_reducible exact Calls.quiet_of (HC.out _)))
          go_wp2_with (fail)
          go_ret
          exact ⟨by rw [HZ.out]; rfl, drew_more HW.out.2.2 _⟩
      · have g0 : ¬ (k : Int) < (nx : Int) := by omega
        have hR : R = true := by
          rw [HA.out.2.2.1, decide_eq_true_eq]
          refine list_same (by rw [tus_len, tus_len, ← HA.out.2.2.2.1, ← HA.out.2.2.2.2]) fun i ha hb => ?_
          rw [tus_len] at ha hb
          rw [tus_at x.ts i ha, tus_at y.ts i hb]
          exact HF.out i ha hb (by have := HA.out.2.2.2.1; omega)
        have HR := Lib.hid hR
        clear hR
        go_wp2_with (fail)
        go_ret
        exact ⟨by rw [HR.out]; rfl, HW.out.2.2⟩
  · have hR : R = false := by
      rw [HA.out.2.2.1, decide_eq_false_iff_not]
      intro e
      have := congrArg List.length e
      rw [tus_len, tus_len, ← HA.out.2.2.2.1, ← HA.out.2.2.2.2] at this
      exact hn this
    have hne : ((nx : Int) == (ny : Int)) = false := by rw [beq_eq_false_iff_ne]; omega
    have HR := Lib.hid hR
    clear hR
    go_enter Try.func15, Try.ntmps15
    go_wp2_with (fail)
    go_ret
    exact ⟨by rw [HR.out]; rfl, 0, rfl⟩
end Go.Proofs.Ytobieolonlddlaa
