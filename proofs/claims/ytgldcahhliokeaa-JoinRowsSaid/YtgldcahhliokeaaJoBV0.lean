/- The document's Rows, whatever the view; counts, step by step. -/
import Derived.Test.YtgldcahhliokeaaJoBU
namespace Go.Proofs.Ytgldcahhliokeaa
open Go.RowKit Go.Maps

set_option maxRecDepth 100000 in
set_option maxHeartbeats 4000000 in
theorem rrows_any (x : VW) (A : Option Addr) (c : Nat) (es : List Ed) (w : World) (hx : x.Ok w) (hl : x.v.Lens) (h12 : x.v.atoms.length ≤ 12) (he : Eds w A c es) :
    Calls Try.prog 16 #[.agg (vwA x), .slice A es.length c] w (RdPost w (rowsC x.v es) (rowsR x.v es)) := by
  have hb1 : Below w.heap.size w (w.alloc (.cells (vwA x) 25)) := (Below.refl _ _).alloc (Nat.le_refl _) _
  have hg1 := heap_alloc_new w (.cells (vwA x) 25)
  by_cases hk1 : x.v.kind = 1
  · cases hg : goodP x.v with
    | true => exact rrows_ok x A c es w hx hl h12 he hg hk1
    | false =>
      have hgd := good_any x _ (hx.below hb1) hl hk1
      have hC : rowsC x.v es = 1 := by unfold rowsC; rw [if_neg (by rw [hg]; simp)]
      have hR : rowsR x.v es = [] := by unfold rowsR; rw [if_neg (by rw [hg]; simp)]
      rw [hg] at hgd
      unfold vwA at hb1 hg1 hgd ⊢
      simp only [hk1] at hb1 hg1 hgd ⊢
      obtain ⟨q0, q1, q2, q3, q4⟩ := box5 hg1
      have HB := Lib.hid hb1
      have HGD := Lib.hid hgd
      have HC := Lib.hid (And.intro hC hR)
      clear hx hl h12 he hk1 hg hb1 hg1 hgd hC hR
      go_enter Try.func16, Try.ntmps16
      go_wp2_with (go_at_call 37; (with_reducible refine HGD.out.mono ?_); rintro e w2 ⟨rfl, b2⟩; have B2 := Lib.hid (HB.out.trans (lower' b2 HB.out.size)); clear b2)
      go_ret2
      exact ⟨⟨none, [], 0⟩, by rw [HC.out.1]; rfl, okL_nil _, HC.out.2.symm, B2.out⟩
  · have hg : goodP x.v = false := by unfold goodP patOk; rw [decide_eq_false hk1]; simp
    have hC : rowsC x.v es = 1 := by unfold rowsC; rw [if_neg (by rw [hg]; simp)]
    have hR : rowsR x.v es = [] := by unfold rowsR; rw [if_neg (by rw [hg]; simp)]
    have hkb : (x.v.kind != 1) = true := by simp [hk1]
    unfold vwA at hb1 hg1 ⊢
    obtain ⟨q0, q1, q2, q3, q4⟩ := box5 hg1
    have HB := Lib.hid hb1
    have HC := Lib.hid (And.intro hC hR)
    clear hx hl h12 he hk1 hg hb1 hg1 hC hR
    go_enter Try.func16, Try.ntmps16
    go_wp2_with (fail)
    go_ret2
    exact ⟨⟨none, [], 0⟩, by rw [HC.out.1]; rfl, okL_nil _, HC.out.2.symm, HB.out⟩
/-- How many of the tuples are one. -/
def cntT (all : List Tu) (t : Tu) : Int := ((all.filter fun u => decide (u = t)).length : Int)
/-- Counts under way: of the tuples ahead of i all, of i's one those of the first k. -/
def cntP (R all : List Tu) (i k : Nat) : List Int := (List.range R.length).map fun j => if j < i then cntT all (R.getD j []) else if j = i then cntT (all.take k) (R.getD j []) else 0
theorem cntP_len (R all : List Tu) (i k : Nat) : (cntP R all i k).length = R.length := by unfold cntP; rw [List.length_map, List.length_range]
theorem cntP_zero (R all : List Tu) : cntP R all 0 0 = List.replicate R.length 0 := by
  unfold cntP
  rw [List.eq_replicate_iff]
  refine ⟨by rw [List.length_map, List.length_range], fun x hx => ?_⟩
  obtain ⟨j, _, rfl⟩ := List.mem_map.1 hx
  rw [if_neg (Nat.not_lt_zero _)]
  split <;> rfl
theorem cntP_next (R all : List Tu) (i k : Nat) (h : all.length ≤ k) : cntP R all i k = cntP R all (i + 1) 0 := by
  unfold cntP
  refine List.map_congr_left fun j _ => ?_
  by_cases h1 : j < i
  · rw [if_pos h1, if_pos (by omega)]
  · rw [if_neg h1]
    by_cases h2 : j = i
    · rw [if_pos h2, if_pos (by omega), List.take_of_length_le h]
    · rw [if_neg h2, if_neg (by omega)]
      split <;> rfl
theorem cntP_all (R all : List Tu) (i : Nat) (h : R.length ≤ i) : cntP R all i 0 = cnt R all := by
  unfold cntP cnt
  apply List.ext_getElem
  · rw [List.length_map, List.length_range, List.length_map]
  · intro j h1 h2
    rw [List.length_map, List.length_range] at h1
    rw [List.getElem_map, List.getElem_range, List.getElem_map, if_pos (by omega), List.getD_eq_getElem?_getD, List.getElem?_eq_getElem h1]
    rfl
theorem cntT_take {all : List Tu} {t : Tu} {k : Nat} (h : k < all.length) : cntT (all.take (k + 1)) t = cntT (all.take k) t + if all[k] = t then 1 else 0 := by
  unfold cntT
  rw [List.take_succ_eq_append_getElem h, List.filter_append, List.length_append, List.filter_cons]
  by_cases e : all[k] = t
  · rw [if_pos (decide_eq_true e), if_pos e]
    simp
  · rw [if_neg (by simp [e]), if_neg e]
    simp
theorem cntP_no {R all : List Tu} {i k : Nat} (hi : i < R.length) (h : k < all.length) (hne : all[k] ≠ R[i]) : cntP R all i (k + 1) = cntP R all i k := by
  unfold cntP
  refine List.map_congr_left fun j _ => ?_
  by_cases h1 : j < i
  · rw [if_pos h1, if_pos h1]
  · rw [if_neg h1, if_neg h1]
    by_cases h2 : j = i
    · subst h2
      rw [if_pos rfl, if_pos rfl, cntT_take h, if_neg (by rw [List.getD_eq_getElem?_getD, List.getElem?_eq_getElem hi]; exact hne), Int.add_zero]
    · rw [if_neg h2, if_neg h2]
theorem cntP_at {R all : List Tu} {i k j : Nat} (h : j < (cntP R all i k).length) : (cntP R all i k)[j] = if j < i then cntT all (R.getD j []) else if j = i then cntT (all.take k) (R.getD j []) else 0 := by simp [cntP]
theorem cntP_yes {R all : List Tu} {i k : Nat} (hi : i < R.length) (h : k < all.length) (he : all[k] = R[i]) : cntP R all i (k + 1) = (cntP R all i k).set i ((cntP R all i k)[i]'(by rw [cntP_len]; exact hi) + 1) := by
  apply List.ext_getElem
  · rw [List.length_set, cntP_len, cntP_len]
  · intro j h1 h2
    rw [List.getElem_set]
    by_cases e : i = j
    · subst e
      rw [if_pos rfl, cntP_at, cntP_at, if_neg (by omega), if_pos rfl, if_neg (by omega), if_pos rfl, cntT_take h, if_pos (by rw [List.getD_eq_getElem?_getD, List.getElem?_eq_getElem hi]; exact he)]
    · rw [if_neg e, cntP_at, cntP_at]
      by_cases h3 : j < i
      · rw [if_pos h3, if_pos h3]
      · rw [if_neg h3, if_neg h3, if_neg (by omega), if_neg (by omega)]
theorem cntP_rng (R all : List Tu) (i k : Nat) : ∀ x ∈ cntP R all i k, 0 ≤ x ∧ x ≤ all.length := by
  intro x hx
  obtain ⟨j, _, rfl⟩ := List.mem_map.1 hx
  have h1 : ∀ (l : List Tu) t, 0 ≤ cntT l t ∧ cntT l t ≤ l.length := fun l t => by
    unfold cntT
    have := List.length_filter_le (fun u => decide (u = t)) l
    omega
  split
  · exact h1 _ _
  · split
    · have := h1 (all.take k) (R.getD j [])
      rw [List.length_take] at this
      omega
    · omega
theorem cn_drew {w : World} (n : Nat) (p : Addr) (v : Value) : (w.drewN n).setCell p v = (w.setCell p v).drewN n := rfl
theorem cn_drewN {lo : Nat} {w : World} {g : Nat} {C : List Int} (h : CnAt lo w g C) (n : Nat) : CnAt lo (w.drewN n) g C := ⟨OwnI.below h.row (Below.drewN' (Below.refl _ _) n)⟩
/-- What the document's Result answers. -/
def RrPost (w : World) (code : Int) (R : List Tu) (C : List Int) (e : Ending) (w' : World) : Prop := ∃ (y : LV) (n : TV), e = .returned (.tuple #[.slice y.A y.ts.length y.c, .slice n.A n.l.length n.c, .int .i64 code]) ∧ y.Ok w' ∧ tus y.ts = R ∧ n.Ok w' ∧ n.l = C ∧ Below w.heap.size w w' ∧ BlkP (fun b => w.heap.size ≤ b) y
end Go.Proofs.Ytgldcahhliokeaa
