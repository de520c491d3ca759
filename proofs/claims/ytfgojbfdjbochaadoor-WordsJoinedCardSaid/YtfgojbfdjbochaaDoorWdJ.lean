/- The fixed example of layer 8's statements. -/
import Derived.Test.YtfgojbfdjbochaaDoorWdH
namespace Go.Proofs.YtfgojbfdjbochaaDoor
open Go.RowKit Go.Maps

def ex1 : List UInt8 := [118, 105, 101, 119, 32, 97, 40, 120, 41, 32, 226, 134, 144, 32, 98, 40, 120, 44, 121, 41, 59]
def ex2 : List UInt8 := [40, 195, 169]
def ex3 : List UInt8 := [40, 10, 32, 32, 98]
theorem ex1_is : (splitW ex1).1.length = 13 ∧ (splitW ex1).2 = (0, 0, 0) ∧ (splitW ex1).1[5]? = some ⟨false, [61], 1, 11⟩ := by decide +kernel
theorem ex2_is : splitW ex2 = ([], 1, 2, 80) := by decide +kernel
theorem ex3_is : (splitW ex3).1.length = 2 ∧ (splitW ex3).2 = (0, 0, 0) ∧ (splitW ex3).1[1]? = some ⟨true, [98], 2, 3⟩ := by decide +kernel
theorem wdsV_at {L : List Wd} {i : Nat} {x : Wd} (h : L[i]? = some x) {j : Nat} (hj : j < 4) : (wdsV L)[i * 4 + j]? = (wdV x)[j]? := by
  induction L generalizing i with
  | nil => simp at h
  | cons y L ih =>
    have e : wdsV (y :: L) = wdV y ++ wdsV L := by simp [wdsV]
    rcases i with _ | i
    · simp at h
      subst h
      rw [e, List.getElem?_append_left (by simp [wdV]; omega)]
      congr 1
      omega
    · rw [e, List.getElem?_append_right (by simp [wdV]; omega)]
      have : (i + 1) * 4 + j - (wdV y).length = i * 4 + j := by simp [wdV]; omega
      rw [this]
      exact ih (by simpa using h)
theorem own_word {w : World} {base : Nat} {A : Option Addr} {c : Nat} {L : List Wd} (h : w.ownsRow base 46 4 (.slice A L.length c) L.length (wdsV L)) {i : Nat} {x : Wd} (hi : L[i]? = some x) :
    ∃ g, A = some ⟨g, 0, none⟩ ∧ base ≤ g ∧ g < w.heap.size ∧ L.length ≤ c ∧ c ≤ maxLen ∧ w.cell? ⟨g, i * 4, none⟩ = some (.bool x.nm) ∧ w.cell? ⟨g, i * 4 + 1, none⟩ = some (.string ⟨x.tx.toArray⟩) ∧ w.cell? ⟨g, i * 4 + 2, none⟩ = some (.int .i64 (x.ln : Int)) ∧ w.cell? ⟨g, i * 4 + 3, none⟩ = some (.int .i64 (x.co : Int)) := by
  have hlt := (List.getElem?_eq_some_iff.1 hi).1
  obtain ⟨g, c', e, h1, h2, h3, h4⟩ := own_form h (by omega)
  injection e with e1 _ e3
  subst e1 e3
  have hat : ∀ j, j < 4 → w.cell? ⟨g, i * 4 + j, none⟩ = (wdV x)[j]? := fun j hj => by
    rw [World.ownsRow.cellAt h (i * 4 + j) (by omega), wdsV_at hi hj]
  exact ⟨g, rfl, h1, h2, h3, h4, hat 0 (by omega), hat 1 (by omega), hat 2 (by omega), hat 3 (by omega)⟩
theorem split_ex1 (w : World) (hT : Tabs w) : Calls Tryd.prog 9 #[.string ⟨#[118, 105, 101, 119, 32, 97, 40, 120, 41, 32, 226, 134, 144, 32, 98, 40, 120, 44, 121, 41, 59]⟩] w fun e w' =>
    ∃ g c, e = .returned (.tuple #[.slice (some ⟨g, 0, none⟩) 13 c, .int .i64 0, .int .i64 0, .int .i64 0]) ∧ 13 ≤ c ∧ g < w'.heap.size ∧ w'.cell? ⟨g, 21, none⟩ = some (.string ⟨#[61]⟩) ∧ Below w.heap.size w w' := by
  refine (split_any ⟨ex1.toArray⟩ w (by decide) hT).mono ?_
  obtain ⟨h1, h2, h3⟩ := ex1_is
  have hd : (⟨ex1.toArray⟩ : ByteArray).data.toList = ex1 := rfl
  rw [hd]
  rintro e w' ⟨A, c, rfl, hown, hb⟩
  obtain ⟨g, rfl, _, hg, hc, _, _, c1, _, _⟩ := own_word hown h3
  rw [h1] at hc ⊢
  rw [h2]
  exact ⟨g, c, rfl, hc, hg, c1, hb⟩
theorem split_ex2 (w : World) (hT : Tabs w) : Calls Tryd.prog 9 #[.string ⟨#[40, 195, 169]⟩] w fun e w' =>
    ∃ A c, e = .returned (.tuple #[.slice A 0 c, .int .i64 1, .int .i64 2, .int .i64 80]) ∧ Below w.heap.size w w' := by
  refine (split_any ⟨ex2.toArray⟩ w (by decide) hT).mono ?_
  have hd : (⟨ex2.toArray⟩ : ByteArray).data.toList = ex2 := rfl
  rw [hd, ex2_is]
  rintro e w' ⟨A, c, rfl, hown, hb⟩
  exact ⟨A, c, rfl, hb⟩
theorem split_ex3 (w : World) (hT : Tabs w) : Calls Tryd.prog 9 #[.string ⟨#[40, 10, 32, 32, 98]⟩] w fun e w' =>
    ∃ g c, e = .returned (.tuple #[.slice (some ⟨g, 0, none⟩) 2 c, .int .i64 0, .int .i64 0, .int .i64 0]) ∧ 2 ≤ c ∧ w'.cell? ⟨g, 6, none⟩ = some (.int .i64 2) ∧ w'.cell? ⟨g, 7, none⟩ = some (.int .i64 3) ∧ Below w.heap.size w w' := by
  refine (split_any ⟨ex3.toArray⟩ w (by decide) hT).mono ?_
  obtain ⟨h1, h2, h3⟩ := ex3_is
  have hd : (⟨ex3.toArray⟩ : ByteArray).data.toList = ex3 := rfl
  rw [hd]
  rintro e w' ⟨A, c, rfl, hown, hb⟩
  obtain ⟨g, rfl, _, hg, hc, _, _, _, c2, c3⟩ := own_word hown h3
  rw [h1] at hc ⊢
  rw [h2]
  exact ⟨g, c, rfl, hc, c2, c3, hb⟩

set_option maxRecDepth 100000 in
set_option maxHeartbeats 4000000 in
theorem awake_any (w : World) (hT : Tabs w) : Calls Tryd.prog 8 #[] w fun e w' => e = .returned (.bool true) ∧ Below w.heap.size w w' := by
  have HT := Lib.hid hT
  clear hT
  go_enter Tryd.func8, Tryd.ntmps8
  go_upto_region 2 with (fail)
  refine (split_ex1 _ HT.out).mono ?_
  rintro e w1 ⟨g1, c1, rfl, hc1, hg1, x1, hb1⟩
  have HT1 := Lib.hid (HT.out.below hb1)
  go_upto_region 3 with (fail)
  refine (split_ex2 _ HT1.out).mono ?_
  rintro e w2 ⟨A2, c2, rfl, hb2⟩
  have HT2 := Lib.hid (HT1.out.below hb2)
  go_upto_region 4 with (fail)
  refine (split_ex3 _ HT2.out).mono ?_
  rintro e w3 ⟨g3, c3, rfl, hc3, y6, y7, hb3⟩
  have x3 := (hb3.cell (p := ⟨g1, 21, none⟩) (Nat.lt_of_lt_of_le hg1 hb2.size)).trans ((hb2.cell (p := ⟨g1, 21, none⟩) hg1).trans x1)
  have HB := Lib.hid (hb1.trans ((hb2.trans (hb3.mono hb2.size)).mono hb1.size))
  clear x1 hb1 hb2 hb3 hg1
  go_wp2_with (fail)
  go_ret
  exact ⟨rfl, HB.out⟩
end Go.Proofs.YtfgojbfdjbochaaDoor
