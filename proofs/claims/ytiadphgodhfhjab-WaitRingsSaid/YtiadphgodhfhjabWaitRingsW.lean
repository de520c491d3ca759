/- The walk of WaitRings. -/
import Derived.Test.YtiadphgodhfhjabWtR
namespace Go.Proofs.Ytiadphgodhfhjab
open Go.RowKit

/-- What Ring tells of a good s: a ring, or none. -/
def RiOne (L : List (Int × Int)) (s : Nat) (t : Bool) (w : World) (e : Ending) (w' : World) : Prop := ∃ (A : Option Addr) (c : Nat) (l : List Nat), e = .returned (.tuple #[.slice A l.length c, .int .i64 0]) ∧ IntL w' A c (natZ l) ∧ (t = false → l = []) ∧ (t = true → RingOf (EdR L) s l ∧ l.length ≤ 16) ∧ Below w.heap.size w w'
theorem ring_one (w : World) {A : Option Addr} {c : Nat} {L : List (Int × Int)} (h : PrL w A c L) (hg : goodE L) (s : Nat) (hs : 1 ≤ s ∧ s ≤ 16) (t : Bool) (ht : t = true ↔ InRing (EdR L) s) : Calls Try.prog 15 #[.slice A L.length c, .int .i64 (s : Int)] w (RiOne L s t w) := by
  cases t
  · refine (Ring_none w h hg s hs fun k => Bool.false_ne_true (ht.2 k)).mono ?_
    rintro e w' ⟨rfl, hb⟩
    exact ⟨none, 0, [], rfl, ⟨Rd.emp _ _ _, Nat.le_refl _⟩, fun _ => rfl, (fun h => by cases h), hb⟩
  · refine (Ring_yes w h hg s hs (ht.1 rfl)).mono ?_
    rintro e w' ⟨A, c, l, rfl, ho, hr, hl, _, hb⟩
    obtain ⟨A2, c2, e2, hi⟩ := ho.il
    injection e2 with e2 _ e4
    subst e2 e4
    exact ⟨A, c, l, rfl, hi, (fun h => by cases h), fun _ => ⟨hr, hl⟩, hb⟩
set_option maxRecDepth 100000 in
set_option maxHeartbeats 8000000 in
theorem waitRings_walk (A : Option Addr) (L : List (Int × Int)) (c : Nat) (s0 : Int) (W : World) (h : PrL W A c L) (hb : L.length ≤ 8796093022208) :
    Calls Try.prog 4 #[.slice A L.length c, .int .i64 s0] W fun e W' => e = .returned (.bool true) ∧ Below W.heap.size W W' := by
  have HA := Lib.hid (fun w => awake_any w)
  by_cases hl : L.length ≤ 600
  · have hlI : (L.length : Int) ≤ 600 := by omega
    have HL := Lib.hid (And.intro h hl)
    have HO := Lib.hid (fun (w : World) (hw : Below W.heap.size W w) => own_any w (h.below hw) (by omega))
    have HK := Lib.hid (fun (R : Int) (hR) (w : World) (hw : Below W.heap.size W w) => look_any w (h.below hw) R hR)
    clear h hl hb
    by_cases hg : goodE L ∧ 1 ≤ s0 ∧ s0 ≤ 16
    · obtain ⟨s, rfl⟩ : ∃ s : Nat, s0 = (s : Int) := ⟨s0.toNat, by omega⟩
      have hs1 : (1 : Int) ≤ (s : Int) := hg.2.1
      have hs2 : (s : Int) ≤ 16 := hg.2.2
      obtain ⟨R, hR⟩ : ∃ R : Bool, R = true ↔ InRing (EdR L) s := by
        by_cases e : InRing (EdR L) s
        · exact ⟨true, fun _ => e, fun _ => rfl⟩
        · exact ⟨false, (fun k => by cases k), fun k => absurd k e⟩
      have HG := Lib.hid (And.intro hg.1 (And.intro (show 1 ≤ s ∧ s ≤ 16 by omega) hR))
      clear hg hR
      go_enter Try.func4, Try.ntmps4
      go_upto_region 6 with (first
        | (go_at_call 9; (with_reducible refine (HA.out _).mono ?_); rintro e w1 ⟨rfl, hb1⟩; have H1 := Lib.hid hb1; clear hb1)
        | (go_at_call 10; (with_reducible refine (HO.out _ H1.out).mono ?_); rintro e w2 ⟨A2, c2, rfl, ho2, hb2⟩; have H2 := Lib.hid (And.intro ho2 (H1.out.trans (lower' hb2 H1.out.size))); clear ho2 hb2; obtain ⟨A2', c2', e2, hp2⟩ := H2.out.1.prl; injection e2 with e2 e3 e4; subst e2 e4; clear e3; have HC := Lib.hid (ring_one w2 hp2 HG.out.1 s HG.out.2.1 R HG.out.2.2); clear hp2)
        | (go_at_call 15; (with_reducible refine HC.out.mono ?_); rintro e w3 ⟨A3, c3, l, rfl, hi3, hn3, hy3, hb3⟩; have H3 := Lib.hid (And.intro hi3 (And.intro hn3 (And.intro hy3 (H2.out.2.trans (lower' hb3 H2.out.2.size))))); clear hi3 hn3 hy3 hb3)
        | (go_at_call 12; (with_reducible refine (HK.out 0 ⟨fun _ => rfl, fun k => absurd HG.out.1 k⟩ _ H3.out.2.2.2).mono ?_); rintro e w4 ⟨rfl, h4⟩; subst h4))
      have HRC := Lib.hid (rcaught_any w4 (HL.out.1.below H3.out.2.2.2) HG.out.1)
      go_wp2_with (go_at_call 14; (with_reducible refine HRC.out.mono ?_); rintro e w5 ⟨A5, c5, rfl, ho5, hb5⟩; have H5 := Lib.hid (And.intro ho5 hb5); clear ho5 hb5)
      obtain ⟨A6, c6, e6, hi6⟩ := H5.out.1.il
      injection e6 with e6 e7 e8
      subst e6 e8
      clear e7
      have HIQ := Lib.hid (And.intro hi6 (H3.out.2.2.2.trans (lower' H5.out.2 H3.out.2.2.2.size)))
      have hcl := caught_len (EdR L)
      have hmem : R = true ↔ s ∈ caughtL (EdR L) := by
        rw [mem_caughtL]
        exact ⟨fun k => ⟨HG.out.2.1, HG.out.2.2.1 k⟩, fun k => HG.out.2.2.2 k.2⟩
      obtain ⟨Q, hQ⟩ : ∃ Q, Q = caughtL (EdR L) := ⟨_, rfl⟩
      rw [← hQ] at HIQ hcl hmem ⊢
      have hqI : (Q.length : Int) ≤ 16 := by omega
      have HQ := Lib.hid (And.intro hcl hmem)
      clear hi6 hQ hcl hmem
      go_loopg [7, 46] 20 (fun gk v7 v46 wr => ∃ (k : Nat) (t : Bool), k ≤ Q.length ∧ k + gk = 20 ∧ v7 = .bool t ∧ v46 = .int .i64 (k : Int) ∧ Hid (w5 = wr ∧ (t = true ↔ s ∈ Q.take k)))
      case atStart => exact ⟨0, false, by omega, by omega, rfl, rfl, Lib.hid ⟨rfl, by simp⟩⟩
      case round =>
        obtain ⟨k, t, hk, hkg, rfl, rfl, hrel⟩ := hrel
        obtain rfl : w5 = wr := hrel.out.1
        by_cases hlt : k < Q.length
        · have hkI : (k : Int) < (Q.length : Int) := by omega
          obtain ⟨ab, ao, rfl, -, q0⟩ := HIQ.out.1.cell (k := k) (by rw [natZ_len]; exact hlt)
          rw [natZ_at] at q0
          obtain ⟨x, hx⟩ : ∃ x, x = Q.getD k 0 := ⟨_, rfl⟩
          rw [← hx] at q0
          have htk : Q.take (k + 1) = Q.take k ++ [x] := by rw [List.take_succ_eq_append_getElem hlt, hx, List.getD_eq_getElem?_getD, List.getElem?_eq_getElem hlt]; rfl
          have HK2 := Lib.hid (And.intro hlt (And.intro hkg htk))
          clear hlt hkg htk hx hk
          cases t
          · by_cases e : x = s
            · subst e
              go_wp2_with (fail)
              go_roundg (gk - 1)
              case rel => exact ⟨k + 1, true, HK2.out.1, by have := HK2.out.2.1; omega, rfl, by go_num, Lib.hid ⟨rfl, by rw [HK2.out.2.2]; simp⟩⟩
              case measure => have := HK2.out; have := HQ.out.1; omega
            · have hx2 : ((x : Int) == (s : Int)) = false := by rw [beq_eq_false_iff_ne]; omega
              have HE := Lib.hid e
              clear e
              go_wp2_with (fail)
              go_roundg (gk - 1)
              case rel => exact ⟨k + 1, false, HK2.out.1, by have := HK2.out.2.1; omega, rfl, by go_num, Lib.hid ⟨rfl, by
                rw [HK2.out.2.2, hrel.out.2, List.mem_append, List.mem_singleton]
                exact ⟨.inl, fun h => h.elim id fun h => absurd h.symm HE.out⟩⟩⟩
              case measure => have := HK2.out; have := HQ.out.1; omega
          · go_wp2_with (fail)
            go_roundg (gk - 1)
            case rel => exact ⟨k + 1, true, HK2.out.1, by have := HK2.out.2.1; omega, rfl, by go_num, Lib.hid ⟨rfl, by
              rw [HK2.out.2.2, List.mem_append]
              exact ⟨fun _ => .inl (hrel.out.2.1 (by simp)), fun _ => by simp⟩⟩⟩
            case measure => have := HK2.out; have := HQ.out.1; omega
        · obtain rfl : k = Q.length := by omega
          have hz : ¬ (Q.length : Int) < (Q.length : Int) := by omega
          have htR : t = R := by
            have h1 := hrel.out.2
            rw [List.take_length, ← HQ.out.2] at h1
            cases t <;> cases R <;> simp at h1 ⊢
          clear hrel hkg hk
          subst htR
          cases t
          · have hln := H3.out.2.1 rfl
            subst hln
            go_wp2_with (fail)
            go_ret
            exact ⟨rfl, HIQ.out.2⟩
          · have hri := H3.out.2.2.1 rfl
            have hil := (H3.out.1.below H5.out.2)
            have hring := isRing_any w5 (HL.out.1.below HIQ.out.2) HG.out.1.1 hil s hri.1 hri.2
            have hpos := hri.1.pos
            have hpI : (0 : Int) < (l.length : Int) := by omega
            obtain ⟨lb, lo, rfl, hlb, r0⟩ := hil.cell (k := 0) (by rw [natZ_len]; exact hpos)
            rw [natZ_at, hri.1.first, Nat.add_zero] at r0
            have hlz : ((l.length : Int) == 0) = false := by rw [beq_eq_false_iff_ne]; omega
            have HRI := Lib.hid (And.intro hring hlb)
            clear hri hil hring
            go_wp2_with (go_at_call 16; (with_reducible refine HRI.out.1.mono ?_); rintro e w6 ⟨rfl, hb6⟩; have r1 := (hb6.cell (p := ⟨lb, lo, none⟩) HRI.out.2).trans r0; have H6 := Lib.hid hb6; clear hb6)
            go_ret
            exact ⟨rfl, HIQ.out.2.trans (lower' H6.out HIQ.out.2.size)⟩
    · by_cases hg2 : goodE L
      · have HG := Lib.hid (And.intro hg hg2)
        have hs : s0 < 1 ∨ (1 ≤ s0 ∧ 16 < s0) := by
          rcases Classical.em (1 ≤ s0) with e | e
          · exact .inr ⟨e, Classical.byContradiction fun e2 => hg ⟨hg2, e, by omega⟩⟩
          · exact .inl (by omega)
        clear hg hg2
        rcases hs with hs1 | ⟨hs1, hs2⟩
        all_goals
          go_enter Try.func4, Try.ntmps4
          go_wp2_with (first
            | (go_at_call 9; (with_reducible refine (HA.out _).mono ?_); rintro e w1 ⟨rfl, hb1⟩; have H1 := Lib.hid hb1; clear hb1)
            | (go_at_call 10; (with_reducible refine (HO.out _ H1.out).mono ?_); rintro e w2 ⟨A2, c2, rfl, ho2, hb2⟩; have H2 := Lib.hid (And.intro ho2 (H1.out.trans (lower' hb2 H1.out.size))); clear ho2 hb2; obtain ⟨A2', c2', e2, hp2⟩ := H2.out.1.prl; injection e2 with e2 e3 e4; subst e2 e4; clear e3; have HC := Lib.hid (Ring_no w2 hp2 (by have := HL.out.2; omega) s0 HG.out.1); clear hp2)
            | (go_at_call 15; (with_reducible refine HC.out.mono ?_); rintro e w3 ⟨rfl, hb3⟩; have H3 := Lib.hid (H2.out.2.trans (lower' hb3 H2.out.2.size)); clear hb3)
            | (go_at_call 12; (with_reducible refine (HK.out 0 ⟨fun _ => rfl, fun k => absurd HG.out.2 k⟩ _ H3.out).mono ?_); rintro e w4 ⟨rfl, h4⟩; subst h4))
          go_ret
          exact ⟨rfl, H3.out⟩
      · have HG := Lib.hid (And.intro hg hg2)
        clear hg hg2
        go_enter Try.func4, Try.ntmps4
        go_wp2_with (first
          | (go_at_call 9; (with_reducible refine (HA.out _).mono ?_); rintro e w1 ⟨rfl, hb1⟩; have H1 := Lib.hid hb1; clear hb1)
          | (go_at_call 10; (with_reducible refine (HO.out _ H1.out).mono ?_); rintro e w2 ⟨A2, c2, rfl, ho2, hb2⟩; have H2 := Lib.hid (And.intro ho2 (H1.out.trans (lower' hb2 H1.out.size))); clear ho2 hb2; obtain ⟨A2', c2', e2, hp2⟩ := H2.out.1.prl; injection e2 with e2 e3 e4; subst e2 e4; clear e3; have HC := Lib.hid (Ring_no w2 hp2 (by have := HL.out.2; omega) s0 HG.out.1); clear hp2)
          | (go_at_call 15; (with_reducible refine HC.out.mono ?_); rintro e w3 ⟨rfl, hb3⟩; have H3 := Lib.hid (H2.out.2.trans (lower' hb3 H2.out.2.size)); clear hb3)
          | (go_at_call 12; (with_reducible refine (HK.out 1 ⟨fun k => absurd k HG.out.2, fun _ => rfl⟩ _ H3.out).mono ?_); rintro e w4 ⟨rfl, h4⟩; subst h4))
        go_ret
        exact ⟨rfl, H3.out⟩
  · have hlI : (600 : Int) < (L.length : Int) := by omega
    have hlI2 : (L.length : Int) ≤ 8796093022208 := by omega
    clear h hl hb
    go_enter Try.func4, Try.ntmps4
    go_wp2_with (first
      | (go_at_call 9; (with_reducible refine (HA.out W).mono ?_); rintro e w1 ⟨rfl, hb1⟩; have H1 := Lib.hid hb1; clear hb1)
      | (go_at_call 9; (with_reducible refine (HA.out w1).mono ?_); rintro e w2 ⟨rfl, hb2⟩; have H2 := Lib.hid hb2; clear hb2))
    go_ret
    exact ⟨rfl, H1.out.trans (lower' H2.out H1.out.size)⟩
end Go.Proofs.Ytiadphgodhfhjab
