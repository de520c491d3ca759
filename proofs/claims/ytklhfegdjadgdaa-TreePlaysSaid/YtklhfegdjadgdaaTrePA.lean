/- The document's pairs (layer 6), as lists: plain folds. -/
import Derived.Test.YtklhfegdjadgdaaTreV
namespace Go.Proofs.Ytklhfegdjadgdaa

/-- One step of the document's Put: what is out, whether the key is new, whether it is in. -/
def stP (key value : List UInt8) (s : List Pr × Bool × Bool) (p : Pr) : List Pr × Bool × Bool :=
  if p.1 = key then (s.1, false, s.2.2) else if s.2.2 = false ∧ cmpB key p.1 < 0 then (s.1 ++ [(key, value)] ++ [p], s.2.1, true) else (s.1 ++ [p], s.2.1, s.2.2)
def endP (key value : List UInt8) (s : List Pr × Bool × Bool) : List Pr × Bool := (if s.2.2 then s.1 else s.1 ++ [(key, value)], s.2.1)
theorem stP_done (key value : List UInt8) : ∀ (L out : List Pr) (f : Bool), (∀ p ∈ L, p.1 ≠ key) → L.foldl (stP key value) (out, f, true) = (out ++ L, f, true)
  | [], out, f, _ => by simp
  | p :: L, out, f, h => by
    rw [List.foldl_cons]
    have e : stP key value (out, f, true) p = (out ++ [p], f, true) := by
      unfold stP
      rw [if_neg (h p (List.mem_cons_self ..)), if_neg (by simp)]
    rw [e, stP_done key value L _ f fun q hq => h q (List.mem_cons_of_mem _ hq)]
    simp
theorem stP_ins (key value : List UInt8) : ∀ (L out : List Pr) (f : Bool), Rises L → endP key value (L.foldl (stP key value) (out, f, false)) = (out ++ insL key value L, f && (getL key L).isNone)
  | [], out, f, _ => by simp [endP, insL, getL]
  | p :: L, out, f, h => by
    have hp := List.pairwise_cons.1 h
    rw [List.foldl_cons, getL_cons]
    by_cases e : p.1 = key
    · have e1 : stP key value (out, f, false) p = (out, false, false) := by unfold stP; rw [if_pos e]
      have e2 : insL key value (p :: L) = (key, value) :: L := by
        simp only [insL]
        rw [e, cmp_refl, if_neg (by omega), if_neg (by omega)]
      rw [e1, stP_ins key value L out false hp.2, e2, if_pos e]
      have hno : ∀ q ∈ L, cmpB key q.1 < 0 := fun q hq => by have := hp.1 q hq; rw [e] at this; exact this
      have e3 : insL key value L = (key, value) :: L := by
        cases L with
        | nil => rfl
        | cons q L => simp only [insL]; rw [if_pos (hno q (List.mem_cons_self ..))]
      rw [e3]
      simp
    · rw [if_neg e]
      by_cases c : cmpB key p.1 < 0
      · have e1 : stP key value (out, f, false) p = (out ++ [(key, value)] ++ [p], f, true) := by unfold stP; rw [if_neg e, if_pos ⟨rfl, c⟩]
        have hno : ∀ q ∈ L, q.1 ≠ key := fun q hq => (cmp_ne (cmp_trans c (hp.1 q hq))).symm
        rw [e1, stP_done key value L _ f hno]
        simp only [endP, insL]
        rw [if_pos c, getL_none hno]
        simp
      · have e1 : stP key value (out, f, false) p = (out ++ [p], f, false) := by unfold stP; rw [if_neg e, if_neg (by simp [c])]
        have c2 : 0 < cmpB key p.1 := by
          rcases (show cmpB key p.1 < 0 ∨ 0 < cmpB key p.1 ∨ cmpB key p.1 = 0 by omega) with h1 | h1 | h1
          · exact absurd h1 c
          · exact h1
          · exact absurd (cmp_eq h1).symm e
        rw [e1, stP_ins key value L _ f hp.2]
        simp only [insL]
        rw [if_neg c, if_pos c2]
        simp
/-- One step of the document's Range. -/
def inR (a b : List UInt8) (p : Pr) : Bool := decide (¬ cmpB p.1 a < 0) && (decide (b = []) || decide (cmpB p.1 b < 0))
def stR (a b : List UInt8) (most : Int) (out : List Pr) (p : Pr) : List Pr := if inR a b p = true ∧ (out.length : Int) < most then out ++ [p] else out
theorem stR_fold (a b : List UInt8) (most : Int) : ∀ (L out : List Pr), L.foldl (stR a b most) out = out ++ (L.filter (inR a b)).take (most.toNat - out.length)
  | [], out => by simp
  | p :: L, out => by
    rw [List.foldl_cons, stR_fold a b most L, List.filter_cons]
    unfold stR
    by_cases h1 : inR a b p = true
    · rw [if_pos h1]
      by_cases h2 : (out.length : Int) < most
      · rw [if_pos ⟨h1, h2⟩, List.length_append, show most.toNat - out.length = (most.toNat - (out.length + 1)) + 1 by omega, List.take_succ_cons, List.append_assoc]
        rfl
      · rw [if_neg (by simp [h2]), show most.toNat - out.length = 0 by omega]
        simp
    · rw [if_neg h1, if_neg (by simp [h1])]
theorem drop_rank (a : List UInt8) : ∀ {L : List Pr}, Rises L → L.filter (fun p => decide (¬ cmpB p.1 a < 0)) = L.drop (rankL a L)
  | [], _ => rfl
  | p :: L, h => by
    have hp := List.pairwise_cons.1 h
    by_cases c : cmpB p.1 a < 0
    · have e : rankL a (p :: L) = rankL a L + 1 := by unfold rankL; rw [List.filter_cons, if_pos (by simpa using c)]; rfl
      rw [e, List.drop_succ_cons, List.filter_cons, if_neg (by simpa using c), drop_rank a hp.2]
    · have hall : ∀ q ∈ p :: L, ¬ cmpB q.1 a < 0 := by
        intro q hq
        rcases List.mem_cons.1 hq with rfl | hq
        · exact c
        · intro h2; exact c (cmp_trans (hp.1 q hq) h2)
      rw [rankL_no hall, List.drop_zero, List.filter_eq_self]
      intro q hq
      exact decide_eq_true (hall q hq)
theorem take_rank (b : List UInt8) : ∀ {L : List Pr}, Rises L → L.filter (fun p => decide (cmpB p.1 b < 0)) = L.take (rankL b L)
  | [], _ => rfl
  | p :: L, h => by
    have hp := List.pairwise_cons.1 h
    by_cases c : cmpB p.1 b < 0
    · have e : rankL b (p :: L) = rankL b L + 1 := by unfold rankL; rw [List.filter_cons, if_pos (by simpa using c)]; rfl
      rw [e, List.take_succ_cons, List.filter_cons, if_pos (by simpa using c), take_rank b hp.2]
    · have hall : ∀ q ∈ p :: L, ¬ cmpB q.1 b < 0 := by
        intro q hq
        rcases List.mem_cons.1 hq with rfl | hq
        · exact c
        · intro h2; exact c (cmp_trans (hp.1 q hq) h2)
      rw [rankL_no hall, List.take_zero, List.filter_eq_nil_iff]
      intro q hq
      simpa using hall q hq
theorem rankL_take (a : List UInt8) {L : List Pr} (h : Rises L) (n : Nat) : rankL a (L.take n) = min (rankL a L) n := by
  have e := take_rank a (L := L.take n) (h.sublist (List.take_sublist _ _))
  have e2 := take_rank a h
  have l1 : (L.filter (fun p => decide (cmpB p.1 a < 0))).length = rankL a L := rfl
  have l2 : ((L.take n).filter (fun p => decide (cmpB p.1 a < 0))).length = rankL a (L.take n) := rfl
  have hle := rankL_le a L
  by_cases hn : n ≤ rankL a L
  · rw [Nat.min_eq_right hn]
    have hall : ∀ p ∈ L.take n, cmpB p.1 a < 0 := by
      intro p hp
      have h1 : p ∈ L.take (rankL a L) := (List.take_subset_take_left L hn) hp
      rw [← e2] at h1
      simpa using (List.mem_filter.1 h1).2
    rw [rankL_all hall, List.length_take]
    omega
  · rw [Nat.min_eq_left (by omega)]
    have e3 : L = L.take n ++ L.drop n := (List.take_append_drop n L).symm
    have hno : ∀ p ∈ L.drop n, ¬ cmpB p.1 a < 0 := by
      intro p hp
      have h1 := drop_rank a h
      have h2 : p ∈ L.drop (rankL a L) := by
        rw [show n = rankL a L + (n - rankL a L) by omega, ← List.drop_drop] at hp
        exact List.mem_of_mem_drop hp
      rw [← h1] at h2
      simpa using (List.mem_filter.1 h2).2
    have e4 : rankL a L = rankL a (L.take n) + rankL a (L.drop n) := by
      unfold rankL
      rw [← List.length_append, ← List.filter_append, List.take_append_drop]
    rw [rankL_no hno] at e4
    omega
theorem rng_filter (a b : List UInt8) {L : List Pr} (h : Rises L) (hn : L.length ≤ 1000) : rngL a b 1000 L = L.filter (inR a b) := by
  rw [rng_eq a b L hn]
  by_cases hb : b = []
  · subst hb
    have e : L.filter (inR a []) = L.filter (fun p => decide (¬ cmpB p.1 a < 0)) := by
      apply List.filter_congr
      intro p _
      simp [inR]
    rw [e, drop_rank a h]
    unfold endL
    rw [if_pos rfl, List.take_length]
  · have e : L.filter (inR a b) = (L.filter (fun p => decide (cmpB p.1 b < 0))).filter (fun p => decide (¬ cmpB p.1 a < 0)) := by
      rw [List.filter_filter]
      apply List.filter_congr
      intro p _
      simp [inR, hb]
    rw [e, take_rank b h, drop_rank a (h.sublist (List.take_sublist _ _)), rankL_take a h]
    unfold endL
    rw [if_neg hb]
    by_cases hc : rankL a L ≤ rankL b L
    · rw [Nat.min_eq_left hc]
    · rw [Nat.min_eq_right (by omega), List.drop_of_length_le (by rw [List.length_take]; omega), List.drop_of_length_le (by rw [List.length_take]; omega)]
/-- The document's Range is the tree's. -/
theorem stR_rng (a b : List UInt8) (most : Int) {L : List Pr} (h : Rises L) (hn : L.length ≤ 1000) : L.foldl (stR a b most) [] = rngL a b most L := by
  rw [stR_fold, rng_most a b most L hn, rng_filter a b h hn]
  simp
end Go.Proofs.Ytklhfegdjadgdaa
