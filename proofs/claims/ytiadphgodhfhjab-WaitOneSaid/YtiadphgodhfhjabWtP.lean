/- Layer 17: the document's Caught. -/
import Derived.Test.YtiadphgodhfhjabWtO
namespace Go.Proofs.Ytiadphgodhfhjab
open Go.RowKit

theorem idxB {F : List Bool} (h : F.length = 17) {s : Nat} (hs : s ≤ 16) {x : Bool} (hx : F.getD s false = x) (w : World) : (Instr.index 52 (.agg (boolV F)) (.int .i64 (s : Int))).run Try.prog w = .ok (.bool x) w := by
  have hlt : s < F.length := by omega
  rw [List.getD_eq_getElem?_getD, List.getElem?_eq_getElem hlt, Option.getD_some] at hx
  have e : (boolV F)[s]? = some (.bool x) := by simp [boolV, hlt, hx]
  simp [Instr.index, run_underlying Try.underlying52, asIntOf, go_sem, e]
  exact fun h => absurd h (by omega)
theorem idxB' {F : List Bool} (h : F.length = 17) {k : Nat} (hs : k + 1 ≤ 16) {x : Bool} (hx : F.getD (k + 1) false = x) (w : World) : (Instr.index 52 (.agg (boolV F)) (.int .i64 ((k : Int) + 1))).run Try.prog w = .ok (.bool x) w := idxB h hs hx w
theorem ld_false {R : Nat → Nat → Prop} {F : List Bool} {s k : Nat} (h : ∀ b, F.getD b false = true ↔ Ld R s b) (hn : ¬ Ld R s k) : F.getD k false = false := by
  cases e : F.getD k false
  · rfl
  · exact absurd ((h k).1 e) hn
/-- What the document's Caught answers. -/
def RcPost (L : List (Int × Int)) (w : World) (e : Ending) (w' : World) : Prop := ∃ (A : Option Addr) (c : Nat), e = .returned (.slice A (caughtL (EdR L)).length c) ∧ OwnZ w' w.heap.size (.slice A (caughtL (EdR L)).length c) (natZ (caughtL (EdR L))) ∧ Below w.heap.size w w'
set_option maxRecDepth 100000 in
set_option maxHeartbeats 4000000 in
theorem rcaught_any (w : World) {A : Option Addr} {c : Nat} {L : List (Int × Int)} (h : PrL w A c L) (hg : goodE L) :
    Calls Try.prog 14 #[.slice A L.length c] w (RcPost L w) := by
  have HL := Lib.hid (And.intro h hg)
  clear h hg
  go_enter Try.func14, Try.ntmps14
  go_wp2_with (fail)
  go_loopg [3, 4] 20 (fun gk v3 v4 wr => ∃ (A : Option Addr) (c k : Nat), k ≤ 16 ∧ k + gk = 20 ∧ v3 = .slice A (caughtK (EdR L) k).length c ∧ v4 = .int .i64 ((k : Int) + 1) ∧ Hid (OwnZ wr w.heap.size (.slice A (caughtK (EdR L) k).length c) (natZ (caughtK (EdR L) k)) ∧ Below w.heap.size w wr))
  case atStart => exact ⟨none, 0, 0, by omega, by omega, rfl, rfl, Lib.hid ⟨OwnZ.nil _ _, Below.refl _ _⟩⟩
  case round =>
    obtain ⟨A3, c3, k, hk, hkg, rfl, rfl, hrel⟩ := hrel
    have hkI : (k : Int) ≤ 16 := by omega
    by_cases hlt : k < 16
    · have hlI : (k : Int) + 1 ≤ 16 := by omega
      obtain ⟨Q, hQ⟩ : ∃ Q, Q = caughtK (EdR L) k := ⟨_, rfl⟩
      have hql : Q.length ≤ 16 := by rw [hQ]; have := caughtK_len (EdR L) k; omega
      rw [← hQ] at hrel ⊢
      have hr := leads_any wr (HL.out.1.below hrel.out.2) HL.out.2 (k + 1)
      have HR := Lib.hid (show Calls Try.prog 24 #[.slice A L.length c, .int .i64 ((k : Int) + 1)] wr (LeadsPost L (k + 1) wr) from hr)
      have HK := Lib.hid (And.intro hlt (And.intro hkg (And.intro hQ hql)))
      clear hlt hkg hQ hql hk hr
      by_cases e : InRing (EdR L) (k + 1)
      · have hyes := Lib.hid (caughtK_yes e)
        have HE := Lib.hid e
        clear e
        go_upto_region 6 with (go_at_call 24; (with_reducible refine HR.out.mono ?_); rintro e w2 ⟨F, rfl, hF, hFe, hb2⟩; have hix := idxB' hF HK.out.1 ((hFe (k + 1)).2 HE.out) w2; have HX := Lib.hid hb2; clear hb2 hF hFe)
        obtain ⟨A5, c5, w5, hrun, hown, -, -, hb5⟩ := app_intZ w2 w.heap.size (.slice A3 Q.length c3) (natZ Q) (hrel.out.1.below HX.out) (Nat.le_trans hrel.out.2.size HX.out.size) ((k : Int) + 1) (by rw [natZ_len]; have := HK.out.2.2.2; omega)
        rw [natZ_len] at hrun hown
        have HN := Lib.hid (And.intro hown (hrel.out.2.trans ((lower' HX.out hrel.out.2.size).trans hb5)))
        clear hown hb5
        go_wp2_with (at_builtin; refine wpL_appK _ rfl (.tmp 14) (.tmp 16) 25 rfl rfl _ _ _ _ rfl rfl hrun ?_)
        go_roundg (gk - 1)
        case rel => exact ⟨A5, c5, k + 1, by have := HK.out.1; omega, by have := HK.out.2.1; omega, by rw [hyes.out, ← HK.out.2.2.1, List.length_append]; rfl, by go_num, by
          rw [hyes.out, ← HK.out.2.2.1, natZ_app, List.length_append]
          exact HN⟩
        case measure => have := HK.out; omega
      · have hno := Lib.hid (caughtK_no e)
        have HE := Lib.hid e
        clear e
        go_wp2_with (go_at_call 24; (with_reducible refine HR.out.mono ?_); rintro e w2 ⟨F, rfl, hF, hFe, hb2⟩; have hix := idxB' hF HK.out.1 (ld_false hFe HE.out) w2; have HX := Lib.hid hb2; clear hb2 hF hFe)
        go_roundg (gk - 1)
        case rel => exact ⟨A3, c3, k + 1, by have := HK.out.1; omega, by have := HK.out.2.1; omega, by rw [hno.out, ← HK.out.2.2.1], by go_num, by
          rw [hno.out, ← HK.out.2.2.1]
          exact Lib.hid ⟨hrel.out.1.below HX.out, hrel.out.2.trans (lower' HX.out hrel.out.2.size)⟩⟩
        case measure => have := HK.out; omega
    · obtain rfl : k = 16 := by omega
      rw [caughtK_all] at hrel ⊢
      go_wp2
      go_ret
      exact ⟨A3, c3, rfl, hrel.out.1, hrel.out.2⟩
end Go.Proofs.Ytiadphgodhfhjab
