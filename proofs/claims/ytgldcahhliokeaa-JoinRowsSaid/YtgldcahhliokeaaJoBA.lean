/- The law's Fits; the document's has, at and Vars. -/
import Derived.Test.YtgldcahhliokeaaJoOp
namespace Go.Proofs.Ytgldcahhliokeaa
open Go.RowKit Go.Maps

def fitsB (x : VW) (n : Nat) : Bool := decide (n ≤ 25) && (decide (x.v.atoms.length ≤ 12) && decide (x.v.out.length ≤ 12))
set_option maxRecDepth 100000 in
set_option maxHeartbeats 1000000 in
theorem fits_any (x : VW) (A : Option Addr) (n c : Nat) (w : World) : Calls Try.prog 12 #[.agg (vwA x), .slice A n c] w fun e w' => e = .returned (.bool (fitsB x n)) ∧ Below w.heap.size w w' := by
  have hb1 : Below w.heap.size w (w.alloc (.cells (vwA x) 25)) := (Below.refl _ _).alloc (Nat.le_refl _) _
  unfold vwA at hb1 ⊢
  obtain ⟨R, hR⟩ : ∃ R, R = fitsB x n := ⟨_, rfl⟩
  rw [← hR]
  unfold fitsB at hR
  have HB := Lib.hid hb1
  clear hb1
  by_cases h1 : n ≤ 25
  · have h1' : (n : Int) ≤ 25 := by omega
    by_cases h2 : x.v.atoms.length ≤ 12
    · have h2' : (x.v.atoms.length : Int) ≤ 12 := by omega
      by_cases h3 : x.v.out.length ≤ 12
      · have h3' : (x.v.out.length : Int) ≤ 12 := by omega
        have HR : Hid (R = true) := Lib.hid (by rw [hR, decide_eq_true h1, decide_eq_true h2, decide_eq_true h3]; rfl)
        clear hR h1 h2 h3
        go_enter Try.func12, Try.ntmps12
        go_wp2_with (fail)
        go_ret
        exact ⟨by rw [HR.out]; rfl, HB.out⟩
      · have h3' : ¬ (x.v.out.length : Int) ≤ 12 := by omega
        have HR : Hid (R = false) := Lib.hid (by rw [hR, decide_eq_false h3]; simp)
        clear hR h1 h2 h3
        go_enter Try.func12, Try.ntmps12
        go_wp2_with (fail)
        go_ret
        exact ⟨by rw [HR.out]; rfl, HB.out⟩
    · have h2' : ¬ (x.v.atoms.length : Int) ≤ 12 := by omega
      have HR : Hid (R = false) := Lib.hid (by rw [hR, decide_eq_false h2]; simp)
      clear hR h1 h2
      go_enter Try.func12, Try.ntmps12
      go_wp2_with (fail)
      go_ret
      exact ⟨by rw [HR.out]; rfl, HB.out⟩
  · have h1' : ¬ (n : Int) ≤ 25 := by omega
    have HR : Hid (R = false) := Lib.hid (by rw [hR, decide_eq_false h1]; simp)
    clear hR h1
    go_enter Try.func12, Try.ntmps12
    go_wp2_with (fail)
    go_ret
    exact ⟨by rw [HR.out]; rfl, HB.out⟩
set_option maxRecDepth 100000 in
set_option maxHeartbeats 1000000 in
theorem has_any (A : Option Addr) (c : Nat) (l : List Nm) (s : Nm) (w : World) (h : Sts w A c l) : Calls Try.prog 66 #[.slice A l.length c, .string ⟨s.toArray⟩] w fun e w' => e = .returned (.bool (decide (s ∈ l))) ∧ w = w' := by
  obtain ⟨R, hR⟩ : ∃ R, R = decide (s ∈ l) := ⟨_, rfl⟩
  rw [← hR]
  have hs := h.sm
  have HA := Lib.hid (And.intro h hR)
  clear h hR
  go_enter Try.func66, Try.ntmps66
  go_wp2_with (fail)
  go_loop [8] (fun i => ∃ k : Nat, k ≤ l.length ∧ i = .int .i64 (k : Int) ∧ Hid (∀ j, (hj : j < l.length) → j < k → l[j] ≠ s)) (fun i => l.length - (intOf i).toNat)
  case atStart => exact ⟨0, by omega, rfl, Lib.hid fun j _ h => absurd h (Nat.not_lt_zero _)⟩
  case round =>
    obtain ⟨k, hk, rfl, hrel⟩ := hrel
    by_cases hlt : k < l.length
    · obtain ⟨b, o, rfl, _, c0⟩ := HA.out.1.cell hlt
      have hlI : (k : Int) < (l.length : Int) := by omega
      by_cases he : l[k] = s
      · have HF : Hid (R = true) := Lib.hid (by rw [HA.out.2]; exact decide_eq_true (he ▸ List.getElem_mem hlt))
        clear hrel
        rw [he] at c0
        clear he
        go_wp2_with (fail)
        go_ret
        exact ⟨by rw [HF.out]; rfl, rfl⟩
      · have hb : (l[k] == s) = false := beq_eq_false_iff_ne.2 he
        have hn : Hid (∀ j, (hj : j < l.length) → j < k + 1 → l[j] ≠ s) := Lib.hid fun j hj hjk => by
          by_cases e : j = k
          · subst e; exact he
          · exact hrel.out j hj (by omega)
        clear hrel he
        generalize l[k] = x at c0 hb
        go_wp2_with (fail)
        go_round
        case rel => exact ⟨k + 1, by omega, by go_num, hn⟩
        case measure => simp [intOf]; omega
    · have g0 : ¬ (k : Int) < (l.length : Int) := by omega
      have HF : Hid (R = false) := Lib.hid (by
        rw [HA.out.2]
        refine decide_eq_false fun hm => ?_
        obtain ⟨j, hj, e⟩ := List.getElem_of_mem hm
        exact hrel.out j hj (by omega) e)
      clear hrel
      go_wp2_with (fail)
      go_ret
      exact ⟨by rw [HF.out]; rfl, rfl⟩
set_option maxRecDepth 100000 in
set_option maxHeartbeats 1000000 in
theorem at_any (A : Option Addr) (c : Nat) (l : List Nm) (s : Nm) (w : World) (h : Sts w A c l) : Calls Try.prog 40 #[.slice A l.length c, .string ⟨s.toArray⟩] w fun e w' => e = .returned (.int .i64 (indexL l s)) ∧ w = w' := by
  obtain ⟨R, hR⟩ : ∃ R, R = indexL l s := ⟨_, rfl⟩
  rw [← hR]
  have hs := h.sm
  have HA := Lib.hid (And.intro h hR)
  clear h hR
  go_enter Try.func40, Try.ntmps40
  go_wp2_with (fail)
  go_loop [8] (fun i => ∃ k : Nat, k ≤ l.length ∧ i = .int .i64 (k : Int) ∧ Hid (∀ j, (hj : j < l.length) → j < k → l[j] ≠ s)) (fun i => l.length - (intOf i).toNat)
  case atStart => exact ⟨0, by omega, rfl, Lib.hid fun j _ h => absurd h (Nat.not_lt_zero _)⟩
  case round =>
    obtain ⟨k, hk, rfl, hrel⟩ := hrel
    by_cases hlt : k < l.length
    · obtain ⟨b, o, rfl, _, c0⟩ := HA.out.1.cell hlt
      have hlI : (k : Int) < (l.length : Int) := by omega
      by_cases he : l[k] = s
      · have hf : R = (k : Int) := by
          rw [HA.out.2]
          unfold indexL
          rw [if_pos (he ▸ List.getElem_mem hlt), idxOf_at hlt he hrel.out]
        have HF := Lib.hid hf
        clear hf hrel
        rw [he] at c0
        clear he
        go_wp2_with (fail)
        go_ret
        exact ⟨by rw [HF.out]; rfl, rfl⟩
      · have hb : (l[k] == s) = false := beq_eq_false_iff_ne.2 he
        have hn : Hid (∀ j, (hj : j < l.length) → j < k + 1 → l[j] ≠ s) := Lib.hid fun j hj hjk => by
          by_cases e : j = k
          · subst e; exact he
          · exact hrel.out j hj (by omega)
        clear hrel he
        generalize l[k] = x at c0 hb
        go_wp2_with (fail)
        go_round
        case rel => exact ⟨k + 1, by omega, by go_num, hn⟩
        case measure => simp [intOf]; omega
    · have g0 : ¬ (k : Int) < (l.length : Int) := by omega
      have hf : R = -1 := by
        rw [HA.out.2]
        unfold indexL
        rw [if_neg]
        intro hm
        obtain ⟨j, hj, e⟩ := List.getElem_of_mem hm
        exact hrel.out j hj (by omega) e
      have HF := Lib.hid hf
      clear hf hrel
      go_wp2_with (fail)
      go_ret
      exact ⟨by rw [HF.out]; rfl, rfl⟩
end Go.Proofs.Ytgldcahhliokeaa
