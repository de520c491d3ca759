/- The walk of WaitCaught. -/
import Derived.Test.YtiadphgodhfhjabWtR
namespace Go.Proofs.Ytiadphgodhfhjab
open Go.RowKit

set_option maxRecDepth 100000 in
set_option maxHeartbeats 8000000 in
theorem waitCaught_walk (A : Option Addr) (L : List (Int × Int)) (c : Nat) (W : World) (h : PrL W A c L) (hb : L.length ≤ 8796093022208) :
    Calls Try.prog 3 #[.slice A L.length c] W fun e W' => e = .returned (.bool true) ∧ Below W.heap.size W W' := by
  have HA := Lib.hid (fun w => awake_any w)
  by_cases hl : L.length ≤ 600
  · have hlI : (L.length : Int) ≤ 600 := by omega
    have HL := Lib.hid (And.intro h hl)
    have HO := Lib.hid (fun (w : World) (hw : Below W.heap.size W w) => own_any w (h.below hw) (by omega))
    have HK := Lib.hid (fun (R : Int) (hR) (w : World) (hw : Below W.heap.size W w) => look_any w (h.below hw) R hR)
    clear h hl hb
    go_enter Try.func3, Try.ntmps3
    go_upto_region 4 with (first
      | (go_at_call 9; (with_reducible refine (HA.out _).mono ?_); rintro e w1 ⟨rfl, hb1⟩; have H1 := Lib.hid hb1; clear hb1)
      | (go_at_call 10; (with_reducible refine (HO.out _ H1.out).mono ?_); rintro e w2 ⟨A2, c2, rfl, ho2, hb2⟩; have H2 := Lib.hid (And.intro ho2 hb2); clear ho2 hb2))
    obtain ⟨A2', c2', e2, hp2⟩ := H2.out.1.prl
    injection e2 with e2 e3 e4
    subst e2 e4
    clear e3
    have hW2 := H1.out.trans (lower' H2.out.2 H1.out.size)
    have H3 := Lib.hid (And.intro hp2 hW2)
    clear hp2 hW2
    by_cases hg : goodE L
    · have HC := Lib.hid (Caught_yes w2 H3.out.1 hg)
      have HR := Lib.hid (fun (w : World) (hw : Below W.heap.size W w) => rcaught_any w (HL.out.1.below hw) hg)
      have HG := Lib.hid hg
      clear hg
      go_upto_region 6 with (first
        | (go_at_call 11; (with_reducible refine HC.out.mono ?_); rintro e w3 ⟨A3, c3, rfl, ho3, hb3⟩; have H4 := Lib.hid (And.intro ho3 (And.intro hb3 (H3.out.2.trans (lower' hb3 H3.out.2.size)))); clear ho3 hb3)
        | (go_at_call 12; (with_reducible refine (HK.out 0 ⟨fun _ => rfl, fun k => absurd HG.out k⟩ _ H4.out.2.2).mono ?_); rintro e w4 ⟨rfl, h4⟩; subst h4))
      go_wp2_with (fail)
      go_loopg [27] 1000 (fun gk v27 wr => ∃ k : Nat, k ≤ L.length ∧ k + gk = 1000 ∧ v27 = .int .i64 (k : Int) ∧ Hid (Below w4.heap.size w4 wr))
      case atStart => exact ⟨0, by omega, by omega, rfl, Lib.hid (Below.refl _ _)⟩
      case round =>
        obtain ⟨k, hk, hkg, rfl, hrel⟩ := hrel
        have hbW := H4.out.2.2.trans (lower' hrel.out H4.out.2.2.size)
        have HBW := Lib.hid hbW
        clear hbW
        by_cases hlt : k < L.length
        · have hkI : (k : Int) < (L.length : Int) := by omega
          obtain ⟨ab, ao, rfl, -, q0, q1⟩ := (HL.out.1.below HBW.out).cell hlt
          obtain ⟨bb, bo, rfl, -, p0, p1⟩ := ((H3.out.1.below H4.out.2.1).below hrel.out).cell hlt
          obtain ⟨⟨e0, e1⟩, he⟩ : ∃ e, e = L[k] := ⟨_, rfl⟩
          rw [← he] at q0 q1 p0 p1
          dsimp only at q0 q1 p0 p1
          have hq := fun W => neq_pr e0 e1 W
          have HK2 := Lib.hid (And.intro hlt hkg)
          clear he hlt hkg hk
          go_upto_region 9 with (fail)
          go_quiet (fail)
          go_wp2_with (fail)
          go_roundg (gk - 1)
          case rel => exact ⟨k + 1, HK2.out.1, by have := HK2.out; omega, by go_num, Lib.hid (Below.drewN' hrel.out _)⟩
          case measure => have := HK2.out; omega
        · obtain rfl : k = L.length := by omega
          have hz : ¬ (L.length : Int) < (L.length : Int) := by omega
          obtain ⟨A4, c4, e4, hi4⟩ := H4.out.1.il
          injection e4 with e4 e5 e6
          subst e4 e6
          clear e5
          have HI := Lib.hid (hi4.below hrel.out)
          have HRR := Lib.hid (HR.out _ HBW.out)
          have hcl := caught_len (EdR L)
          obtain ⟨Q, hQ⟩ : ∃ Q, Q = caughtL (EdR L) := ⟨_, rfl⟩
          unfold RcPost at HRR
          rw [← hQ] at HRR HI hcl ⊢
          have HQ := Lib.hid hcl
          clear hi4 hQ hcl
          go_wp2_with (first
            | (go_at_call 14; (with_reducible refine HRR.out.mono ?_); rintro e w5 ⟨A5, c5, rfl, ho5, hb5⟩; have H5 := Lib.hid (And.intro ho5 hb5); clear ho5 hb5; obtain ⟨A6, c6, e6, hi6⟩ := H5.out.1.il; injection e6 with e6 e7 e8; subst e6 e8; clear e7; have hin := intsZ_any w5 (HI.out.below H5.out.2) hi6 (by rw [natZ_len]; have := HQ.out; omega); rw [natZ_len] at hin; have HIN := Lib.hid hin; clear hin hi6)
            | (go_at_call 13; (with_reducible refine HIN.out.mono ?_); rintro e w6 ⟨rfl, hb6⟩; have H6 := Lib.hid hb6; clear hb6))
          go_ret
          exact ⟨by simp, (HBW.out.trans (lower' H5.out.2 HBW.out.size)).trans (lower' H6.out (Nat.le_trans HBW.out.size H5.out.2.size))⟩
    · have HC := Lib.hid (Caught_no w2 H3.out.1 (by have := HL.out.2; omega) hg)
      have HG := Lib.hid hg
      clear hg
      go_upto_region 6 with (first
        | (go_at_call 11; (with_reducible refine HC.out.mono ?_); rintro e w3 ⟨rfl, hb3⟩; have H4 := Lib.hid (And.intro hb3 (H3.out.2.trans (lower' hb3 H3.out.2.size))); clear hb3)
        | (go_at_call 12; (with_reducible refine (HK.out 1 ⟨fun k => absurd k HG.out, fun _ => rfl⟩ _ H4.out.2).mono ?_); rintro e w4 ⟨rfl, h4⟩; subst h4))
      go_wp2_with (fail)
      go_loopg [27] 1000 (fun gk v27 wr => ∃ k : Nat, k ≤ L.length ∧ k + gk = 1000 ∧ v27 = .int .i64 (k : Int) ∧ Hid (Below w4.heap.size w4 wr))
      case atStart => exact ⟨0, by omega, by omega, rfl, Lib.hid (Below.refl _ _)⟩
      case round =>
        obtain ⟨k, hk, hkg, rfl, hrel⟩ := hrel
        have hbW := H4.out.2.trans (lower' hrel.out H4.out.2.size)
        have HBW := Lib.hid hbW
        clear hbW
        by_cases hlt : k < L.length
        · have hkI : (k : Int) < (L.length : Int) := by omega
          obtain ⟨ab, ao, rfl, -, q0, q1⟩ := (HL.out.1.below HBW.out).cell hlt
          obtain ⟨bb, bo, rfl, -, p0, p1⟩ := ((H3.out.1.below H4.out.1).below hrel.out).cell hlt
          obtain ⟨⟨e0, e1⟩, he⟩ : ∃ e, e = L[k] := ⟨_, rfl⟩
          rw [← he] at q0 q1 p0 p1
          dsimp only at q0 q1 p0 p1
          have hq := fun W => neq_pr e0 e1 W
          have HK2 := Lib.hid (And.intro hlt hkg)
          clear he hlt hkg hk
          go_upto_region 9 with (fail)
          go_quiet (fail)
          go_wp2_with (fail)
          go_roundg (gk - 1)
          case rel => exact ⟨k + 1, HK2.out.1, by have := HK2.out; omega, by go_num, Lib.hid (Below.drewN' hrel.out _)⟩
          case measure => have := HK2.out; omega
        · obtain rfl : k = L.length := by omega
          have hz : ¬ (L.length : Int) < (L.length : Int) := by omega
          go_wp2_with (fail)
          go_ret
          exact ⟨rfl, HBW.out⟩
  · have hlI : (600 : Int) < (L.length : Int) := by omega
    have hlI2 : (L.length : Int) ≤ 8796093022208 := by omega
    clear h hl hb
    go_enter Try.func3, Try.ntmps3
    go_wp2_with (first
      | (go_at_call 9; (with_reducible refine (HA.out W).mono ?_); rintro e w1 ⟨rfl, hb1⟩; have H1 := Lib.hid hb1; clear hb1)
      | (go_at_call 9; (with_reducible refine (HA.out w1).mono ?_); rintro e w2 ⟨rfl, hb2⟩; have H2 := Lib.hid hb2; clear hb2))
    go_ret
    exact ⟨rfl, H1.out.trans (lower' H2.out H1.out.size)⟩
end Go.Proofs.Ytiadphgodhfhjab
