/- The document's Rises, Same, SameDelta. -/
import Derived.Test.YtpfkkmfhafejfaaTupK
import Derived.Test.YtpfkkmfhafejfaaTupH
namespace Go.Proofs.Ytpfkkmfhafejfaa
open Go.RowKit Go.Maps

theorem cmp_m1 {a b : Tu} : cmpI a b = -1 ↔ cmpI a b < 0 := by
  have := cmpI_rng a b
  omega
set_option maxRecDepth 100000 in
set_option maxHeartbeats 2000000 in
/-- The document's Rises. -/
theorem rrises_any (x : LV) (w : World) (h : x.Ok w) : Calls Try.prog 16 #[.slice x.A x.ts.length x.c] w fun e w' => e = .returned (.bool (risB (tus x.ts))) ∧ ∃ n, w' = w.drewN n := by
  obtain ⟨R, hR⟩ : ∃ R, R = risB (tus x.ts) := ⟨_, rfl⟩
  rw [← hR]
  have hs := h.sm
  obtain ⟨A, ts, c⟩ := x
  dsimp only at *
  have HA := Lib.hid (And.intro h hR)
  clear h hR
  go_enter Try.func16, Try.ntmps16
  go_wp2_with (fail)
  go_loopw [3] (fun i wr => ∃ q : Nat, q ≤ ts.length ∧ i = .int .i64 q ∧ Hid (Lst wr A c ts ∧ ∃ n, wr = w.drewN n) ∧ Hid (∀ j, (hj : j + 1 < ts.length) → j < q → cmpI (ts[j]'(by omega)).l ts[j + 1].l < 0)) (fun i _ => ts.length - (intOf i).toNat)
  case atStart => exact ⟨0, by omega, rfl, Lib.hid ⟨HA.out.1, 0, rfl⟩, Lib.hid fun j _ h => by omega⟩
  case round =>
    obtain ⟨q, hm, rfl, HL, hrel⟩ := hrel
    by_cases hlt : q + 1 < ts.length
    · obtain ⟨b, o, rfl, _, c0⟩ := HL.out.1.cell (k := q) (by omega)
      obtain ⟨b', o', e, _, c1⟩ := HL.out.1.cell (k := q + 1) hlt
      injection e with e
      injection e with e1 e2
      subst e1 e2
      have hc := fun n => rcmp_any (ts[q]'(by omega)) ts[q + 1] (wr.drewN n) ((HL.out.1.at (by omega)).drewN n) ((HL.out.1.at hlt).drewN n)
      have HREL := hrel
      obtain ⟨K, hK⟩ : ∃ K, K = cmpI (ts[q]'(by omega)).l ts[q + 1].l := ⟨_, rfl⟩
      rw [← hK] at hc
      have hm1 : K = -1 ↔ K < 0 := by rw [hK]; exact cmp_m1
      have HK := Lib.hid hK
      clear hK hrel
      generalize ts[q]'(by omega) = x at c0 hc
      generalize ts[q + 1] = y at c1 hc
      have HC := Lib.hid hc
      clear hc
      have g0 : ((q + 1 : Nat) : Int) < (ts.length : Int) := by omega
      have g1 : (0 : Int) ≤ (q : Int) := by omega
      have hw1 : IntKind.i64.wrap ((q : Int) + 1) = (q : Int) + 1 := IntWalk.i64_in _ (by omega)
      have g2 : (q : Int) < (ts.length : Int) := by omega
      have g3 : (q : Int) + 1 < (ts.length : Int) := by omega
      have g4 : (0 : Int) ≤ (q : Int) + 1 := by omega
      have g5 : ((q : Int) + 1).toNat = q + 1 := by omega
      by_cases hk : K < 0
      · obtain rfl : K = -1 := hm1.2 hk
        clear hm1
        go_wp2_with (fail)
        go_quiet ((go_at_call 21; with_reducible exact Calls.quiet_of (HC.out _)))
        go_wp2_with (fail)
        go_roundw
        case rel =>
          refine ⟨q + 1, by omega, by go_num, Lib.hid ⟨HL.out.1.drewN _, drew_more HL.out.2 _⟩, Lib.hid fun j hj hjm => ?_⟩
          by_cases e : j = q
          · subst e
            rw [← HK.out]
            exact hk
          · exact HREL.out j hj (by omega)
        case measure => simp [intOf]; omega
      · have hk1 : (K == -1) = false := by rw [beq_eq_false_iff_ne]; omega
        clear hm1
        go_wp2_with (fail)
        go_quiet ((go_at_call 21; with_reducible exact Calls.quiet_of (HC.out _)))
        go_wp2_with (fail)
        go_ret
        refine ⟨?_, drew_more HL.out.2 _⟩
        rw [HA.out.2, risB_no (i := q) (by rw [tus_len]; exact hlt) (by rw [tus_at ts q (by omega), tus_at ts (q + 1) hlt, ← HK.out]; omega)]
        rfl
    · have g0 : ¬ (q : Int) + 1 < (ts.length : Int) := by omega
      go_wp2_with (fail)
      go_ret
      refine ⟨?_, HL.out.2⟩
      rw [HA.out.2, risB_at fun i hi => ?_]
      · rfl
      · rw [tus_len] at hi
        rw [tus_at ts i (by omega), tus_at ts (i + 1) hi]
        exact hrel.out i hi (by omega)
theorem list_same {a b : List Tu} (hl : a.length = b.length) (h : ∀ i, (ha : i < a.length) → (hb : i < b.length) → cmpI a[i] b[i] = 0) : a = b :=
  List.ext_getElem hl fun i ha hb => cmpI_eq (h i ha hb)
set_option maxRecDepth 100000 in
set_option maxHeartbeats 2000000 in
/-- The document's Same. -/
theorem same10_any (x y : LV) (w : World) (hx : x.Ok w) (hy : y.Ok w) : Calls Try.prog 13 #[.slice x.A x.ts.length x.c, .slice y.A y.ts.length y.c] w fun e w' => e = .returned (.bool (decide (tus x.ts = tus y.ts))) ∧ ∃ n, w' = w.drewN n := by
  obtain ⟨R, hR⟩ : ∃ R, R = decide (tus x.ts = tus y.ts) := ⟨_, rfl⟩
  rw [← hR]
  obtain ⟨nx, hnx⟩ : ∃ n, n = x.ts.length := ⟨_, rfl⟩
  obtain ⟨ny, hny⟩ : ∃ n, n = y.ts.length := ⟨_, rfl⟩
  have hs := hx.sm
  rw [← hnx] at hs ⊢
  rw [← hny]
  have HA := Lib.hid (And.intro hx (And.intro hy (And.intro hR (And.intro hnx hny))))
  clear hx hy hR hnx hny
  by_cases hn : nx = ny
  · subst hn
    go_enter Try.func13, Try.ntmps13
    go_wp2_with (fail)
    go_loopw [13] (fun i wr => ∃ k : Nat, k ≤ nx ∧ i = .int .i64 k ∧ Hid (x.Ok wr ∧ y.Ok wr ∧ ∃ n, wr = w.drewN n) ∧ Hid (∀ i, (h1 : i < x.ts.length) → (h2 : i < y.ts.length) → i < k → cmpI x.ts[i].l y.ts[i].l = 0)) (fun i _ => nx - (intOf i).toNat)
    case atStart => exact ⟨0, by omega, rfl, Lib.hid ⟨HA.out.1, HA.out.2.1, 0, rfl⟩, Lib.hid fun i _ _ h => absurd h (Nat.not_lt_zero _)⟩
    case round =>
      obtain ⟨k, hk, rfl, HW, HF⟩ := hrel
      by_cases hlt : k < nx
      · have h1 : k < x.ts.length := by rw [← HA.out.2.2.2.1]; exact hlt
        have h2 : k < y.ts.length := by rw [← HA.out.2.2.2.2]; exact hlt
        obtain ⟨bx, ox, hxa, _, cx⟩ := HW.out.1.cell h1
        obtain ⟨by', oy, hya, _, cy⟩ := HW.out.2.1.cell h2
        have hc := fun n => rcmp_any x.ts[k] y.ts[k] (wr.drewN n) ((HW.out.1.at h1).drewN n) ((HW.out.2.1.at h2).drewN n)
        have hz : cmpI x.ts[k].l y.ts[k].l = 0 → Hid (∀ i, (h1 : i < x.ts.length) → (h2 : i < y.ts.length) → i < k + 1 → cmpI x.ts[i].l y.ts[i].l = 0) := fun h => Lib.hid fun i g1 g2 gi => by
          by_cases e : i = k
          · subst e; exact h
          · exact HF.out i g1 g2 (by omega)
        have hnz : cmpI x.ts[k].l y.ts[k].l ≠ 0 → R = false := fun h => by
          rw [HA.out.2.2.1, decide_eq_false_iff_not]
          intro e
          apply h
          have g1 := tus_at x.ts k h1
          have g2 := tus_at y.ts k h2
          rw [← g1, ← g2]
          simp only [e, cmpI_refl]
        have g0 : (k : Int) < (nx : Int) := by omega
        have g1 : (0 : Int) ≤ (k : Int) := by omega
        rw [hxa, hya]
        generalize x.ts[k] = a at *
        generalize y.ts[k] = c at *
        obtain ⟨K, hK⟩ : ∃ K, K = cmpI a.l c.l := ⟨_, rfl⟩
        rw [← hK] at hc hz hnz
        have HC := Lib.hid hc
        clear hc hK
        by_cases h0 : K = 0
        · have HZ := hz h0
          clear hz hnz
          subst h0
          go_wp2_with (fail)
          go_quiet ((go_at_call 21; with_reducible exact Calls.quiet_of (HC.out _)))
          go_wp2_with (fail)
          go_roundw
          case rel => exact ⟨k + 1, by omega, by go_num, Lib.hid ⟨HW.out.1.drewN _, HW.out.2.1.drewN _, drew_more HW.out.2.2 _⟩, HZ⟩
          case measure => simp [intOf]; omega
        · have HZ := Lib.hid (hnz h0)
          have h0' : (K == 0) = false := beq_eq_false_iff_ne.2 h0
          clear hz hnz
          go_wp2_with (fail)
          go_quiet ((go_at_call 21; with_reducible exact Calls.quiet_of (HC.out _)))
          go_wp2_with (fail)
          go_ret
          exact ⟨by rw [HZ.out]; rfl, drew_more HW.out.2.2 _⟩
      · have g0 : ¬ (k : Int) < (nx : Int) := by omega
        have hR : R = true := by
          rw [HA.out.2.2.1, decide_eq_true_eq]
          refine list_same (by rw [tus_len, tus_len, ← HA.out.2.2.2.1, ← HA.out.2.2.2.2]) fun i ha hb => ?_
          rw [tus_len] at ha hb
          rw [tus_at x.ts i ha, tus_at y.ts i hb]
          exact HF.out i ha hb (by have := HA.out.2.2.2.1; omega)
        have HR := Lib.hid hR
        clear hR
        go_wp2_with (fail)
        go_ret
        exact ⟨by rw [HR.out]; rfl, HW.out.2.2⟩
  · have hR : R = false := by
      rw [HA.out.2.2.1, decide_eq_false_iff_not]
      intro e
      have := congrArg List.length e
      rw [tus_len, tus_len, ← HA.out.2.2.2.1, ← HA.out.2.2.2.2] at this
      exact hn this
    have hne : ((nx : Int) == (ny : Int)) = false := by rw [beq_eq_false_iff_ne]; omega
    have HR := Lib.hid hR
    clear hR
    go_enter Try.func13, Try.ntmps13
    go_wp2_with (fail)
    go_ret
    exact ⟨by rw [HR.out]; rfl, 0, rfl⟩
set_option maxRecDepth 100000 in
set_option maxHeartbeats 2000000 in
/-- SameDelta. -/
theorem sameD_any (a b c d : LV) (w : World) (ha : a.Ok w) (hb : b.Ok w) (hc : c.Ok w) (hd : d.Ok w) : Calls Try.prog 24 #[.agg #[.slice a.A a.ts.length a.c, .slice b.A b.ts.length b.c], .agg #[.slice c.A c.ts.length c.c, .slice d.A d.ts.length d.c]] w fun e w' => e = .returned (.bool (decide (tus a.ts = tus c.ts ∧ tus b.ts = tus d.ts))) ∧ Below w.heap.size w w' := by
  have h01 := two_new w (.cells #[.slice a.A a.ts.length a.c, .slice b.A b.ts.length b.c] 35) (.cells #[.slice c.A c.ts.length c.c, .slice d.A d.ts.length d.c] 35)
  have hbe := ((Below.refl w.heap.size w).alloc (Nat.le_refl _) (.cells #[.slice a.A a.ts.length a.c, .slice b.A b.ts.length b.c] 35)).alloc (by simp) (.cells #[.slice c.A c.ts.length c.c, .slice d.A d.ts.length d.c] 35)
  have H0 := Lib.hid (And.intro h01.1 (And.intro h01.2 hbe))
  have HS1 := Lib.hid fun W (h : Below w.heap.size w W) => same10_any a c W (ha.below h) (hc.below h)
  have HS2 := Lib.hid fun W (h : Below w.heap.size w W) => same10_any b d W (hb.below h) (hd.below h)
  clear h01 hbe ha hb hc hd
  by_cases e1 : tus a.ts = tus c.ts
  · have ed : decide (tus a.ts = tus c.ts) = true := decide_eq_true e1
    have er : decide (tus a.ts = tus c.ts ∧ tus b.ts = tus d.ts) = decide (tus b.ts = tus d.ts) := by simp [e1]
    rw [er]
    rw [ed] at HS1
    generalize decide (tus b.ts = tus d.ts) = R at *
    clear e1 ed er
    go_enter Try.func24, Try.ntmps24
    go_upto_region 1 with (fail)
    generalize (w.alloc (.cells #[.slice a.A a.ts.length a.c, .slice b.A b.ts.length b.c] 35)).alloc (.cells #[.slice c.A c.ts.length c.c, .slice d.A d.ts.length d.c] 35) = W at H0 ⊢
    have c0 := cell_of_row W w.heap.size 0 _ _ _ H0.out.1
    have c1 := cell_of_row W w.heap.size 1 _ _ _ H0.out.1
    have c2 := cell_of_row W (w.heap.size + 1) 0 _ _ _ H0.out.2.1
    have c3 := cell_of_row W (w.heap.size + 1) 1 _ _ _ H0.out.2.1
    have HC1 := Lib.hid (HS1.out W H0.out.2.2)
    have HC2 := Lib.hid fun n => HS2.out (W.drewN n) (below_draws H0.out.2.2 n)
    clear HS1 HS2
    go_wp2_with (first
      | (go_at_call 13; (with_reducible refine HC1.out.mono ?_); rintro e w1 ⟨rfl, n1, rfl⟩)
      | (go_at_call 13; (with_reducible refine (HC2.out _).mono ?_); rintro e w2 ⟨rfl, n2, rfl⟩))
    go_ret
    exact ⟨rfl, below_draws H0.out.2.2 _⟩
  · have ed : decide (tus a.ts = tus c.ts) = false := decide_eq_false e1
    have er : decide (tus a.ts = tus c.ts ∧ tus b.ts = tus d.ts) = false := by simp [e1]
    rw [er]
    rw [ed] at HS1
    clear e1 ed er HS2
    go_enter Try.func24, Try.ntmps24
    go_upto_region 1 with (fail)
    generalize (w.alloc (.cells #[.slice a.A a.ts.length a.c, .slice b.A b.ts.length b.c] 35)).alloc (.cells #[.slice c.A c.ts.length c.c, .slice d.A d.ts.length d.c] 35) = W at H0 ⊢
    have c0 := cell_of_row W w.heap.size 0 _ _ _ H0.out.1
    have c1 := cell_of_row W w.heap.size 1 _ _ _ H0.out.1
    have c2 := cell_of_row W (w.heap.size + 1) 0 _ _ _ H0.out.2.1
    have c3 := cell_of_row W (w.heap.size + 1) 1 _ _ _ H0.out.2.1
    have HC1 := Lib.hid (HS1.out W H0.out.2.2)
    clear HS1
    go_wp2_with (go_at_call 13; (with_reducible refine HC1.out.mono ?_); rintro e w1 ⟨rfl, n1, rfl⟩)
    go_ret
    exact ⟨rfl, below_draws H0.out.2.2 _⟩
end Go.Proofs.Ytpfkkmfhafejfaa
