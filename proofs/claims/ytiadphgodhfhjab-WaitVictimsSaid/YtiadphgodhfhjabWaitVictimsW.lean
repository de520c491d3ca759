/- The walk of WaitVictims. -/
import Derived.Test.YtiadphgodhfhjabWtR
import Derived.Deep.Cut
namespace Go.Proofs.Ytiadphgodhfhjab
open Go.RowKit

/-- The program's Victim and Break, and the document's, in one form. -/
def VkP (R : Nat → Nat → Prop) (B : List Int) (v : Nat) : Prop := (caughtL R = [] ∧ v = 0) ∨ (Yst (birthF B) (caughtL R) v ∧ 1 ≤ v ∧ v ≤ 16)
theorem VkP.uniq {R : Nat → Nat → Prop} {B : List Int} {v u : Nat} (h : VkP R B v) (k : VkP R B u) : v = u := by
  rcases h with ⟨h1, h2⟩ | ⟨h1, _⟩ <;> rcases k with ⟨k1, k2⟩ | ⟨k1, _⟩
  · rw [h2, k2]
  · exact absurd k1.mem (by rw [h1]; exact fun k => nomatch k)
  · exact absurd h1.mem (by rw [k1]; exact fun k => nomatch k)
  · exact h1.uniq k1
def VictimOne (R : Nat → Nat → Prop) (B : List Int) (w : World) (e : Ending) (w' : World) : Prop := ∃ v : Nat, e = .returned (.tuple #[.int .i64 (v : Int), .bool (decide (0 < v)), .int .i64 0]) ∧ VkP R B v ∧ Below w.heap.size w w'
theorem Victim_one (w : World) {A : Option Addr} {c : Nat} {L : List (Int × Int)} (h : PrL w A c L) (hg : goodE L) {Ab : Option Addr} {cb : Nat} {B : List Int} (hi : IntL w Ab cb B) :
    Calls Try.prog 17 #[.slice A L.length c, .slice Ab B.length cb] w (VictimOne (EdR L) B w) := by
  by_cases hn : caughtL (EdR L) = []
  · refine (Victim_none w h hg hn).mono ?_
    rintro e w' ⟨rfl, hb⟩
    exact ⟨0, rfl, .inl ⟨hn, rfl⟩, hb⟩
  · refine (Victim_yes w h hg hi hn).mono ?_
    rintro e w' ⟨v, rfl, hy, hb⟩
    have hv := (mem_caughtL.1 hy.mem).1
    exact ⟨v, by rw [decide_eq_true (show 0 < v by omega)], .inr ⟨hy, hv⟩, hb⟩
set_option maxRecDepth 100000 in
set_option maxHeartbeats 8000000 in
theorem waitVictims_walk (A : Option Addr) (L : List (Int × Int)) (c : Nat) (Ab : Option Addr) (B : List Int) (cb : Nat) (W : World) (h : PrL W A c L) (hb : L.length ≤ 8796093022208) (hi : IntL W Ab cb B) (hB : B.length ≤ 17592186044416) :
    Calls Try.prog 5 #[.slice A L.length c, .slice Ab B.length cb] W fun e W' => e = .returned (.bool true) ∧ Below W.heap.size W W' := by
  have HA := Lib.hid (fun w => awake_any w)
  by_cases hl : L.length ≤ 600
  · have hlI : (L.length : Int) ≤ 600 := by omega
    have HL := Lib.hid (And.intro h (And.intro hl hi))
    have HO := Lib.hid (fun (w : World) (hw : Below W.heap.size W w) => own_any w (h.below hw) (by omega))
    have HC := Lib.hid (fun (w : World) (hw : Below W.heap.size W w) => copy_intZ w (hi.below hw) hB)
    have HK := Lib.hid (fun (R : Int) (hR) (w : World) (hw : Below W.heap.size W w) => look_any w (h.below hw) R hR)
    clear h hl hb hi hB
    by_cases hg : goodE L
    · have HG := Lib.hid hg
      clear hg
      go_enter Try.func5, Try.ntmps5
      go_upto_region 4 with (first
        | (go_at_call 9; (with_reducible refine (HA.out _).mono ?_); rintro e w1 ⟨rfl, hb1⟩; have H1 := Lib.hid hb1; clear hb1)
        | (go_at_call 10; (with_reducible refine (HO.out _ H1.out).mono ?_); rintro e w2 ⟨A2, c2, rfl, ho2, hb2⟩; have H2 := Lib.hid (And.intro ho2 (H1.out.trans (lower' hb2 H1.out.size))); clear ho2 hb2; obtain ⟨A2', c2', e2, hp2⟩ := H2.out.1.prl; injection e2 with e2 e3 e4; subst e2 e4; clear e3; obtain ⟨A3, c3, w3, hrun, hi3, hb3⟩ := HC.out w2 H2.out.2; have HV := Lib.hid (Victim_one w3 (hp2.below hb3) HG.out hi3); have H3 := Lib.hid (H2.out.2.trans (lower' hb3 H2.out.2.size)); clear hp2 hi3 hb3)
        | (at_builtin; refine wpL_appK _ rfl (.tmp 23) (.tmp 24) 25 rfl rfl _ _ _ _ rfl rfl hrun ?_)
        | (go_at_call 17; (with_reducible refine HV.out.mono ?_); rintro e w4 ⟨v, rfl, hv4, hb4⟩; have H4 := Lib.hid (And.intro hv4 (H3.out.trans (lower' hb4 H3.out.size))); clear hv4 hb4))
      clear hrun
      go_upto_region 8 with (first
        | (go_at_call 10; (with_reducible refine (HO.out _ H4.out.2).mono ?_); rintro e w5 ⟨A5, c5, rfl, ho5, hb5⟩; have H5 := Lib.hid (And.intro ho5 (H4.out.2.trans (lower' hb5 H4.out.2.size))); clear ho5 hb5; obtain ⟨A5', c5', e5, hp5⟩ := H5.out.1.prl; injection e5 with e5 e6 e7; subst e5 e7; clear e6; obtain ⟨A6, c6, w6, hrun, hi6, hb6⟩ := HC.out w5 H5.out.2; have HV2 := Lib.hid (Break_yes w6 (hp5.below hb6) HG.out hi6); have H6 := Lib.hid (H5.out.2.trans (lower' hb6 H5.out.2.size)); clear hp5 hi6 hb6)
        | (at_builtin; refine wpL_appK _ rfl (.tmp 33) (.tmp 34) 25 rfl rfl _ _ _ _ rfl rfl hrun ?_)
        | (go_at_call 18; (with_reducible refine HV2.out.mono ?_); rintro e w7 ⟨A7, c7, V, rfl, ho7, hv7, hb7⟩; have H7 := Lib.hid (And.intro ho7 (And.intro hv7 (H6.out.trans (lower' hb7 H6.out.size)))); clear ho7 hv7 hb7)
        | (go_at_call 12; (with_reducible refine (HK.out 0 ⟨fun _ => rfl, fun k => absurd HG.out k⟩ _ H7.out.2.2).mono ?_); rintro e w8 ⟨rfl, h8⟩; subst h8))
      clear hrun
      have HRV := Lib.hid (rvictim_any w8 (HL.out.1.below H7.out.2.2) HG.out (HL.out.2.2.below H7.out.2.2))
      obtain ⟨A9, c9, e9, hi9⟩ := H7.out.1.il
      injection e9 with e9 e10 e11
      subst e9 e11
      clear e10
      have HI9 := Lib.hid hi9
      clear hi9
      go_upto_region 9 with (go_at_call 19; (with_reducible refine HRV.out.mono ?_); rintro e w9 ⟨u, rfl, hu, hb9⟩; obtain rfl : v = u := H4.out.1.uniq hu; have H9 := Lib.hid (And.intro hb9 (H7.out.2.2.trans (lower' hb9 H7.out.2.2.size))); clear hu hb9)
      have HRB := Lib.hid (rbreak_any w9 (HL.out.1.below H9.out.2) HG.out (HL.out.2.2.below H9.out.2))
      by_cases hv0 : 0 < v
      · have hvI : (0 : Int) < (v : Int) := by omega
        go_wp2_with (first
          | (go_at_call 20; (with_reducible refine HRB.out.mono ?_); rintro e w10 ⟨A10, c10, U, rfl, ho10, hv10, hb10⟩; obtain rfl : V = U := H7.out.2.1.uniq hv10; obtain ⟨A12, c12, e12, hi12⟩ := ho10.il; injection e12 with e12 e13 e14; subst e12 e14; clear e13; have hin := intsZ_any w10 ((HI9.out.below H9.out.1).below hb10) hi12 (by rw [natZ_len]; have := hv10.1.len; omega); rw [natZ_len] at hin; have HIN := Lib.hid (And.intro hin (H9.out.2.trans (lower' hb10 H9.out.2.size))); clear hin hi12 ho10 hv10 hb10)
          | (go_at_call 13; (with_reducible refine HIN.out.1.mono ?_); rintro e w11 ⟨rfl, hb11⟩; have H11 := Lib.hid hb11; clear hb11))
        go_ret
        exact ⟨by simp, HIN.out.2.trans (lower' H11.out HIN.out.2.size)⟩
      · obtain rfl : v = 0 := by omega
        go_wp2_with (first
          | (go_at_call 20; (with_reducible refine HRB.out.mono ?_); rintro e w10 ⟨A10, c10, U, rfl, ho10, hv10, hb10⟩; obtain rfl : V = U := H7.out.2.1.uniq hv10; obtain ⟨A12, c12, e12, hi12⟩ := ho10.il; injection e12 with e12 e13 e14; subst e12 e14; clear e13; have hin := intsZ_any w10 ((HI9.out.below H9.out.1).below hb10) hi12 (by rw [natZ_len]; have := hv10.1.len; omega); rw [natZ_len] at hin; have HIN := Lib.hid (And.intro hin (H9.out.2.trans (lower' hb10 H9.out.2.size))); clear hin hi12 ho10 hv10 hb10)
          | (go_at_call 13; (with_reducible refine HIN.out.1.mono ?_); rintro e w11 ⟨rfl, hb11⟩; have H11 := Lib.hid hb11; clear hb11))
        go_ret
        exact ⟨by simp, HIN.out.2.trans (lower' H11.out HIN.out.2.size)⟩
    · have HG := Lib.hid hg
      clear hg
      go_enter Try.func5, Try.ntmps5
      go_upto_region 4 with (first
        | (go_at_call 9; (with_reducible refine (HA.out _).mono ?_); rintro e w1 ⟨rfl, hb1⟩; have H1 := Lib.hid hb1; clear hb1)
        | (go_at_call 10; (with_reducible refine (HO.out _ H1.out).mono ?_); rintro e w2 ⟨A2, c2, rfl, ho2, hb2⟩; have H2 := Lib.hid (And.intro ho2 (H1.out.trans (lower' hb2 H1.out.size))); clear ho2 hb2; obtain ⟨A2', c2', e2, hp2⟩ := H2.out.1.prl; injection e2 with e2 e3 e4; subst e2 e4; clear e3; obtain ⟨A3, c3, w3, hrun, hi3, hb3⟩ := HC.out w2 H2.out.2; have HV := Lib.hid (Victim_no w3 (hp2.below hb3) (by have := HL.out.2.1; omega) HG.out (.slice A3 B.length c3)); have H3 := Lib.hid (H2.out.2.trans (lower' hb3 H2.out.2.size)); clear hp2 hi3 hb3)
        | (at_builtin; refine wpL_appK _ rfl (.tmp 23) (.tmp 24) 25 rfl rfl _ _ _ _ rfl rfl hrun ?_)
        | (go_at_call 17; (with_reducible refine HV.out.mono ?_); rintro e w4 ⟨rfl, hb4⟩; have H4 := Lib.hid (H3.out.trans (lower' hb4 H3.out.size)); clear hb4))
      clear hrun
      go_wp2_with (first
        | (go_at_call 10; (with_reducible refine (HO.out _ H4.out).mono ?_); rintro e w5 ⟨A5, c5, rfl, ho5, hb5⟩; have H5 := Lib.hid (And.intro ho5 (H4.out.trans (lower' hb5 H4.out.size))); clear ho5 hb5; obtain ⟨A5', c5', e5, hp5⟩ := H5.out.1.prl; injection e5 with e5 e6 e7; subst e5 e7; clear e6; obtain ⟨A6, c6, w6, hrun, hi6, hb6⟩ := HC.out w5 H5.out.2; have HV2 := Lib.hid (Break_no w6 (hp5.below hb6) (by have := HL.out.2.1; omega) HG.out (.slice A6 B.length c6)); have H6 := Lib.hid (H5.out.2.trans (lower' hb6 H5.out.2.size)); clear hp5 hi6 hb6)
        | (at_builtin; refine wpL_appK _ rfl (.tmp 33) (.tmp 34) 25 rfl rfl _ _ _ _ rfl rfl hrun ?_)
        | (go_at_call 18; (with_reducible refine HV2.out.mono ?_); rintro e w7 ⟨rfl, hb7⟩; have H7 := Lib.hid (H6.out.trans (lower' hb7 H6.out.size)); clear hb7)
        | (go_at_call 12; (with_reducible refine (HK.out 1 ⟨fun k => absurd k HG.out, fun _ => rfl⟩ _ H7.out).mono ?_); rintro e w8 ⟨rfl, h8⟩; subst h8))
      go_ret
      exact ⟨rfl, H7.out⟩
  · have hlI : (600 : Int) < (L.length : Int) := by omega
    have hlI2 : (L.length : Int) ≤ 8796093022208 := by omega
    clear h hl hb hi hB
    go_enter Try.func5, Try.ntmps5
    go_wp2_with (first
      | (go_at_call 9; (with_reducible refine (HA.out W).mono ?_); rintro e w1 ⟨rfl, hb1⟩; have H1 := Lib.hid hb1; clear hb1)
      | (go_at_call 9; (with_reducible refine (HA.out w1).mono ?_); rintro e w2 ⟨rfl, hb2⟩; have H2 := Lib.hid hb2; clear hb2))
    go_ret
    exact ⟨rfl, H1.out.trans (lower' H2.out H1.out.size)⟩
end Go.Proofs.Ytiadphgodhfhjab
