/- slices.BinarySearchFunc of tuples, by tuple.Cmp, for one that is there. -/
import Derived.Test.YtgldcahhliokeaaJoW
import Derived.Laws.Shifts
namespace Go.Proofs.Ytgldcahhliokeaa
open Go.RowKit Go.Maps

set_option maxRecDepth 100000 in
set_option maxHeartbeats 4000000 in
theorem bsearch_any (y : LV) (t : TV) (w : World) (hy : y.Ok w) (ht : t.Ok w) (hr : Ris (tus y.ts)) (p : Nat) (hp : p < y.ts.length) (hpt : y.ts[p].l = t.l) :
    Calls Try.prog 35 #[.slice y.A y.ts.length y.c, .slice t.A t.l.length t.c, .func (.func 36) #[] #[]] w fun e w' => e = .returned (.tuple #[.int .i64 (p : Int), .bool true]) ∧ w = w' := by
  have hs := hy.sm
  obtain ⟨cb, co, hA, -, -⟩ := hy.cell hp
  rw [hA]
  have HA := Lib.hid (And.intro hy (And.intro ht (And.intro hr hpt)))
  have HAA := Lib.hid hA
  clear hA
  clear hy ht hr hpt
  go_enter Try.func35, Try.ntmps35
  go_wp2_with (fail)
  go_loop [9, 10] (fun i j => ∃ a b : Nat, a ≤ p ∧ p ≤ b ∧ b ≤ y.ts.length ∧ i = .int .i64 (a : Int) ∧ j = .int .i64 (b : Int)) (fun i j => (intOf j).toNat - (intOf i).toNat)
  case atStart => exact ⟨0, y.ts.length, by omega, by omega, by omega, rfl, rfl⟩
  case round =>
    obtain ⟨a, b, h1, h2, h3, rfl, rfl⟩ := hrel
    by_cases hlt : a < b
    · have hlI : (a : Int) < (b : Int) := by omega
      have hbs : (a : Int) + (b : Int) ≤ 10000 := by omega
      obtain ⟨h, hh, hha, hhb⟩ : ∃ h : Nat, ((a : Int) + (b : Int)) / 2 = (h : Int) ∧ a ≤ h ∧ h < b := ⟨(a + b) / 2, by omega, by omega, by omega⟩
      go_upto_region 5 with (fail)
      try rw [hh]
      clear hh hbs hlI
      have hhl : h < y.ts.length := by omega
      obtain ⟨cb', co', hA', _, c0⟩ := HA.out.1.cell hhl
      rw [HAA.out] at hA'
      injection hA' with hA'
      injection hA' with e8 e9
      subst e8 e9
      have hcall := cmpT_any y.ts[h] t w (HA.out.1.at hhl) HA.out.2.1
      have hl1 : (h : Int) < (y.ts.length : Int) := by omega
      have hsg : cmpI y.ts[h].l t.l < 0 ↔ h < p := by
        have hr := HA.out.2.2.1
        have e1 := tus_at y.ts h hhl
        have e2 := tus_at y.ts p hp
        rw [HA.out.2.2.2] at e2
        unfold Ris at hr
        rw [List.pairwise_iff_getElem] at hr
        constructor
        · intro hc
          rcases Nat.lt_trichotomy h p with h5 | h5 | h5
          · exact h5
          · subst h5
            rw [HA.out.2.2.2, cmpI_refl] at hc
            omega
          · have h6 := hr p h (by rw [tus_len]; exact hp) (by rw [tus_len]; exact hhl) h5
            rw [e1, e2] at h6
            have := cmpI_trans hc h6
            rw [cmpI_refl] at this
            omega
        · intro h5
          have h6 := hr h p (by rw [tus_len]; exact hhl) (by rw [tus_len]; exact hp) h5
          rw [e1, e2] at h6
          exact h6
      generalize y.ts[h] = u at c0 hcall hsg
      obtain ⟨K, hK⟩ : ∃ K, K = cmpI u.l t.l := ⟨_, rfl⟩
      rw [← hK] at hcall hsg
      clear hK
      by_cases hlt2 : h < p
      · have hneg : K < 0 := hsg.2 hlt2
        clear hsg
        go_wp2_with (go_at_call 36; (with_reducible refine hcall.mono ?_); rintro e w' ⟨rfl, rfl⟩)
        go_round
        case rel => exact ⟨h + 1, b, by omega, by omega, by omega, by go_num, rfl⟩
        case measure => simp [intOf]; omega
      · have hneg : ¬ K < 0 := fun h5 => hlt2 (hsg.1 h5)
        clear hsg
        go_wp2_with (go_at_call 36; (with_reducible refine hcall.mono ?_); rintro e w' ⟨rfl, rfl⟩)
        go_round
        case rel => exact ⟨a, h, by omega, by omega, by omega, rfl, by go_num⟩
        case measure => simp [intOf]; omega
    · obtain rfl : a = p := by omega
      have hlI : ¬ (a : Int) < (b : Int) := by omega
      have hl1 : (a : Int) < (y.ts.length : Int) := by omega
      obtain ⟨cb', co', hA', _, c0⟩ := HA.out.1.cell hp
      rw [HAA.out] at hA'
      injection hA' with hA'
      injection hA' with e8 e9
      subst e8 e9
      have hcall := cmpT_any y.ts[a] t w (HA.out.1.at hp) HA.out.2.1
      have hz : cmpI y.ts[a].l t.l = 0 := by rw [HA.out.2.2.2, cmpI_refl]
      rw [hz] at hcall
      clear hz
      generalize y.ts[a] = u at c0 hcall
      go_wp2_with (go_at_call 36; (with_reducible refine hcall.mono ?_); rintro e w' ⟨rfl, rfl⟩)
      go_ret2
      exact ⟨rfl, rfl⟩
end Go.Proofs.Ytgldcahhliokeaa
