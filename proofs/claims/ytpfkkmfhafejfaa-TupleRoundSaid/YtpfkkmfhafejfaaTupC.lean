/- Lists of tuples: whether one rises, whether all do. -/
import Derived.Test.YtpfkkmfhafejfaaTupB
namespace Go.Proofs.Ytpfkkmfhafejfaa
open Go.RowKit Go.Maps

theorem drew_more {w wr : World} (h : ∃ n, wr = w.drewN n) (m : Nat) : ∃ n, wr.drewN m = w.drewN n := by
  obtain ⟨n, rfl⟩ := h
  exact ⟨n + m, World.drewN_drewN ..⟩
set_option maxHeartbeats 1000000 in
/-- Rises. -/
theorem rises_any (A : Option Addr) (c : Nat) (ts : List TV) (w : World) (h : Lst w A c ts) : Calls Try.prog 15 #[.slice A ts.length c] w fun e w' => e = .returned (.bool (risB (tus ts))) ∧ ∃ n, w' = w.drewN n := by
  obtain ⟨R, hR⟩ : ∃ R, R = risB (tus ts) := ⟨_, rfl⟩
  rw [← hR]
  have hs := h.sm
  have HA := Lib.hid (And.intro h hR)
  clear h hR
  go_enter Try.func15, Try.ntmps15
  go_wp2_with (fail)
  go_loopw [3] (fun i wr => ∃ m : Nat, 1 ≤ m ∧ m ≤ ts.length + 1 ∧ i = .int .i64 m ∧ Hid (Lst wr A c ts ∧ ∃ n, wr = w.drewN n) ∧ Hid (∀ j, (hj : j + 1 < ts.length) → j + 1 < m → cmpI (ts[j]'(by omega)).l ts[j + 1].l < 0)) (fun i _ => ts.length + 1 - (intOf i).toNat)
  case atStart => exact ⟨1, by omega, by omega, rfl, Lib.hid ⟨HA.out.1, 0, rfl⟩, Lib.hid fun j _ h => by omega⟩
  case round =>
    obtain ⟨m, hm1, hm, rfl, HL, hrel⟩ := hrel
    by_cases hlt : m < ts.length
    · obtain ⟨q, rfl⟩ : ∃ q, m = q + 1 := ⟨m - 1, by omega⟩
      obtain ⟨b, o, rfl, _, c0⟩ := HL.out.1.cell (k := q) (by omega)
      obtain ⟨b', o', e, _, c1⟩ := HL.out.1.cell (k := q + 1) hlt
      injection e with e
      injection e with e1 e2
      subst e1 e2
      have hc := fun n => cmpT_any (ts[q]'(by omega)) ts[q + 1] (wr.drewN n) ((HL.out.1.at (by omega)).drewN n) ((HL.out.1.at hlt).drewN n)
      have HREL := hrel
      obtain ⟨K, hK⟩ : ∃ K, K = cmpI (ts[q]'(by omega)).l ts[q + 1].l := ⟨_, rfl⟩
      rw [← hK] at hc
      have HK := Lib.hid hK
      clear hK hrel
      generalize ts[q]'(by omega) = x at c0 hc
      generalize ts[q + 1] = y at c1 hc
      have HC := Lib.hid fun n => (hc n).mono fun e w' h => (⟨h.1, h.2.symm⟩ : e = _ ∧ w' = wr.drewN n)
      clear hc
      have g0 : ((q + 1 : Nat) : Int) < (ts.length : Int) := by omega
      have g1 : (0 : Int) ≤ (q : Int) := by omega
      have c1' : wr.cell? ⟨b, o + q + 1, none⟩ = _ := c1
      have hw1 : IntKind.i64.wrap ((q : Int) + 1 - 1) = (q : Int) := by rw [IntWalk.i64_in _ (by omega)]; omega
      have hw2 : IntKind.i64.wrap (((q + 1 : Nat) : Int) - 1) = (q : Int) := by rw [IntWalk.i64_in _ (by omega)]; omega
      have hw3 : IntKind.i64.wrap (q : Int) = (q : Int) := IntWalk.i64_in _ (by omega)
      have g2 : (q : Int) < (ts.length : Int) := by omega
      have g3 : (q : Int) + 1 < (ts.length : Int) := by omega
      have g4 : (0 : Int) ≤ (q : Int) + 1 := by omega
      have g5 : ((q : Int) + 1).toNat = q + 1 := by omega
      have q3 : q + 2 ≤ ts.length + 1 := by omega
      by_cases hk : K < 0
      · have hkk : ¬ (0 : Int) ≤ K := by omega
        go_wp2_with (fail)
        go_quiet ((go_at_call 20; with_reducible exact Calls.quiet_of_same (HC.out _)))
        go_wp2_with (fail)
        go_roundw
        case rel =>
          refine ⟨q + 2, by omega, q3, by go_num, Lib.hid ⟨HL.out.1.drewN _, drew_more HL.out.2 _⟩, Lib.hid fun j hj hjm => ?_⟩
          by_cases e : j = q
          · subst e
            rw [← HK.out]
            exact hk
          · exact HREL.out j hj (by omega)
        case measure => simp [intOf]; omega
      · have hkk : (0 : Int) ≤ K := by omega
        go_wp2_with (fail)
        go_quiet ((go_at_call 20; with_reducible exact Calls.quiet_of_same (HC.out _)))
        go_wp2_with (fail)
        go_ret
        refine ⟨?_, drew_more HL.out.2 _⟩
        rw [HA.out.2, risB_no (i := q) (by rw [tus_len]; exact hlt) (by rw [tus_at ts q (by omega), tus_at ts (q + 1) hlt, ← HK.out]; omega)]
        rfl
    · have g0 : ¬ (m : Int) < (ts.length : Int) := by omega
      go_wp2_with (fail)
      go_ret
      refine ⟨?_, HL.out.2⟩
      rw [HA.out.2, risB_at fun i hi => ?_]
      · rfl
      · rw [tus_len] at hi
        rw [tus_at ts i (by omega), tus_at ts (i + 1) hi]
        exact hrel.out i hi (by omega)

/-- A list's value. -/
structure LV where
  A : Option Addr
  ts : List TV
  c : Nat
def LV.val (x : LV) : Value := .slice x.A x.ts.length x.c
def LV.Ok (w : World) (x : LV) : Prop := Lst w x.A x.c x.ts
set_option maxHeartbeats 1000000 in
/-- rise: some lists, each rises. -/
theorem rise_any (A : Option Addr) (c : Nat) (ls : List LV) (w : World) (hr : Rd w w.heap.size A (ls.map LV.val)) (hc : ls.length ≤ c) (hs : ls.length ≤ 1000) (h : ∀ x ∈ ls, x.Ok w) :
    Calls Try.prog 38 #[.slice A ls.length c] w fun e w' => e = .returned (.bool (ls.all fun x => risB (tus x.ts))) ∧ ∃ n, w' = w.drewN n := by
  obtain ⟨R, hR⟩ : ∃ R, R = ls.all fun x => risB (tus x.ts) := ⟨_, rfl⟩
  rw [← hR]
  have HA := Lib.hid (And.intro hR (And.intro hr h))
  clear h hR hr
  go_enter Try.func38, Try.ntmps38
  go_wp2_with (fail)
  go_loopw [7] (fun i wr => ∃ k n : Nat, k ≤ ls.length ∧ i = .int .i64 k ∧ wr = w.drewN n ∧ Hid (R = (ls.drop k).all fun x => risB (tus x.ts))) (fun i _ => ls.length - (intOf i).toNat)
  case atStart => exact ⟨0, 0, by omega, rfl, rfl, HA.out.1⟩
  case round =>
    obtain ⟨k, n, hk, rfl, rfl, hrel⟩ := hrel
    by_cases hlt : k < ls.length
    · obtain ⟨b, o, rfl, _, c0⟩ := HA.out.2.1.get (k := k) (by rw [List.length_map]; exact hlt)
      have hd : ls.drop k = ls[k] :: ls.drop (k + 1) := List.drop_eq_getElem_cons hlt
      have hL := HA.out.2.2 _ (List.getElem_mem hlt)
      have hrk := hrel.out
      rw [hd, List.all_cons] at hrk
      rw [List.getElem_map] at c0
      unfold LV.val at c0
      have hc := fun n => rises_any ls[k].A ls[k].c ls[k].ts (w.drewN n) (hL.drewN n)
      clear hrel hd hL
      generalize ls[k] = x at c0 hc hrk
      cases hb : risB (tus x.ts) with
      | true =>
        rw [hb, Bool.true_and] at hrk
        rw [hb] at hc
        have HC := Lib.hid hc
        have HR := Lib.hid hrk
        clear hc hrk hb
        go_wp2_with (go_at_call 15; (with_reducible refine (HC.out _).mono ?_); rintro e w' ⟨rfl, n', rfl⟩)
        go_roundw
        case rel => exact ⟨k + 1, n + n', by omega, by go_num, rfl, HR⟩
        case measure => simp [intOf]; omega
      | false =>
        rw [hb, Bool.false_and] at hrk
        rw [hb] at hc
        have HC := Lib.hid hc
        have HR := Lib.hid hrk
        clear hc hrk hb
        go_wp2_with (go_at_call 15; (with_reducible refine (HC.out _).mono ?_); rintro e w' ⟨rfl, n', rfl⟩)
        go_ret
        exact ⟨by rw [HR.out]; rfl, n + n', rfl⟩
    · have g0 : ¬ (k : Int) < (ls.length : Int) := by omega
      have hrk := hrel.out
      rw [List.drop_of_length_le (Nat.not_lt.1 hlt), List.all_nil] at hrk
      have HR := Lib.hid hrk
      clear hrk hrel
      go_wp2_with (fail)
      go_ret
      exact ⟨by rw [HR.out]; rfl, n, rfl⟩
end Go.Proofs.Ytpfkkmfhafejfaa
