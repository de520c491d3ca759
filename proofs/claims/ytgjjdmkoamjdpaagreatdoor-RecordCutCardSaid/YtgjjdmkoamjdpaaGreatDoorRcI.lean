/- The change of a key: ofKey. -/
import Derived.Test.YtgjjdmkoamjdpaaGreatDoorRcF
import Derived.Test.YtgjjdmkoamjdpaaGreatDoorKeyV
import Derived.Test.YtgjjdmkoamjdpaaGreatDoorValJJ
namespace Go.Proofs.YtgjjdmkoamjdpaaGreatDoor
open Go.RowKit Go.Maps
set_option maxRecDepth 100000

def zeroC : ChV := ⟨0, 0, 0, ⟨#[]⟩, 0, ⟨#[]⟩, ⟨0, 0, ⟨#[]⟩⟩⟩
abbrev cellsZ : Array Value := #[.int .i64 0, .int .i64 0, .int .i64 0, .string ⟨#[]⟩, .int .i64 0, .string ⟨#[]⟩, .int .i64 0, .int .i64 0, .string ⟨#[]⟩]
/-- How many parts a change's key has. -/
def kLen (k : Int) : Nat := if k = 1 ∨ k = 2 then 2 else if k = 3 ∨ k = 4 then 4 else if k = 5 ∨ k = 6 then 3 else 0
theorem keyL_len {c : ChV} (h : 1 ≤ c.kind ∧ c.kind ≤ 6) : (keyL c).length = kLen c.kind := by
  unfold keyL kLen
  by_cases h12 : c.kind = 1 ∨ c.kind = 2
  · rw [if_pos h12, if_pos h12]; rfl
  · rw [if_neg h12, if_neg h12]
    by_cases h34 : c.kind = 3 ∨ c.kind = 4
    · rw [if_pos h34, if_pos h34]; rfl
    · rw [if_neg h34, if_neg h34, if_pos (by omega)]; rfl
/-- The change, but for its value, of a key. -/
def ofK (ks : List KPart) : Option ChV :=
  match ks with
  | [a, b] => if a.n = 1 ∨ a.n = 2 then some ⟨a.n, b.n, 0, ⟨#[]⟩, 0, ⟨#[]⟩, ⟨0, 0, ⟨#[]⟩⟩⟩ else none
  | [a, b, c] => if a.n = 5 ∨ a.n = 6 then some ⟨a.n, b.n, 0, ⟨#[]⟩, 0, c.s, ⟨0, 0, ⟨#[]⟩⟩⟩ else none
  | [a, b, c, d] => if a.n = 3 ∨ a.n = 4 then some ⟨a.n, 0, b.n, c.s, d.n, ⟨#[]⟩, ⟨0, 0, ⟨#[]⟩⟩⟩ else none
  | _ => none
theorem kLen_two {k : Int} (h : k = 1 ∨ k = 2) : kLen k = 2 := if_pos h
theorem kLen_four {k : Int} (h : k = 3 ∨ k = 4) : kLen k = 4 := by unfold kLen; rw [if_neg (by omega), if_pos h]
theorem kLen_three {k : Int} (h : k = 5 ∨ k = 6) : kLen k = 3 := by unfold kLen; rw [if_neg (by omega), if_neg (by omega), if_pos h]
theorem ofK_two (a b : KPart) : ofK [a, b] = if a.n = 1 ∨ a.n = 2 then some ⟨a.n, b.n, 0, ⟨#[]⟩, 0, ⟨#[]⟩, ⟨0, 0, ⟨#[]⟩⟩⟩ else none := rfl
theorem ofK_three (a b c : KPart) : ofK [a, b, c] = if a.n = 5 ∨ a.n = 6 then some ⟨a.n, b.n, 0, ⟨#[]⟩, 0, c.s, ⟨0, 0, ⟨#[]⟩⟩⟩ else none := rfl
theorem ofK_four (a b c d : KPart) : ofK [a, b, c, d] = if a.n = 3 ∨ a.n = 4 then some ⟨a.n, 0, b.n, c.s, d.n, ⟨#[]⟩, ⟨0, 0, ⟨#[]⟩⟩⟩ else none := rfl
theorem ofK_len {a : KPart} {ks : List KPart} (h : ks.length + 1 ≠ kLen a.n) : ofK (a :: ks) = none := by
  match ks, h with
  | [], _ => rfl
  | [b], h => rw [ofK_two, if_neg (fun e => h (kLen_two e).symm)]
  | [b, c], h => rw [ofK_three, if_neg (fun e => h (kLen_three e).symm)]
  | [b, c, d], h => rw [ofK_four, if_neg (fun e => h (kLen_four e).symm)]
  | _ :: _ :: _ :: _ :: _, _ => rfl
theorem keyOf_none (c : ChV) (w : World) (hk : ¬ (1 ≤ c.kind ∧ c.kind ≤ 6)) : Calls Tryz.prog 70 #[.agg c.cells] w fun e w' => e = .returned (.slice none 0 0) ∧ Below w.heap.size w w' := by
  obtain ⟨k, n, ef, lab, et, key, vk, vn, vs⟩ := c
  have hb0 : Below w.heap.size w (w.alloc (.cells #[.int .i64 k, .int .i64 n, .int .i64 ef, .string lab, .int .i64 et, .string key, .int .i64 vk, .int .i64 vn, .string vs] 53)) := (Below.refl _ _).alloc (Nat.le_refl _) _
  have hx0 := heap_alloc_new w (.cells #[.int .i64 k, .int .i64 n, .int .i64 ef, .string lab, .int .i64 et, .string key, .int .i64 vk, .int .i64 vn, .string vs] 53)
  obtain ⟨c0, -⟩ := box9 hx0
  have HB := Lib.hid (And.intro hb0 hx0)
  have HN := Lib.hid num_any
  dsimp only [ChV.cells] at hk ⊢
  have g1 : (k == 1) = false := beq_eq_false_iff_ne.2 (by omega)
  have g2 : (k == 2) = false := beq_eq_false_iff_ne.2 (by omega)
  have g3 : (k == 3) = false := beq_eq_false_iff_ne.2 (by omega)
  have g4 : (k == 4) = false := beq_eq_false_iff_ne.2 (by omega)
  have g5 : (k == 5) = false := beq_eq_false_iff_ne.2 (by omega)
  have g6 : (k == 6) = false := beq_eq_false_iff_ne.2 (by omega)
  clear hb0 hx0 hk
  go_enter Tryz.func70, Tryz.ntmps70
  go_upto_region 2 with (go_at_call 85; (with_reducible refine (HN.out _ _).mono ?_); rintro e w1 ⟨rfl, b1⟩)
  have hx1 := (b1.block w.heap.size (by simp)).trans HB.out.2
  have hx2 := ((Below.refl w1.heap.size w1).alloc (Nat.le_refl _) (.cells #[.bool false, .string ⟨#[]⟩, .int .i64 k] 150)).block w.heap.size (heap_lt hx1)
  rw [hx1] at hx2
  have hb2 : Below w.heap.size w (w1.alloc (.cells #[.bool false, .string ⟨#[]⟩, .int .i64 k] 150)) := (HB.out.1.trans (lower' b1 HB.out.1.size)).alloc (HB.out.1.trans (lower' b1 HB.out.1.size)).size _
  generalize w1.alloc (.cells #[.bool false, .string ⟨#[]⟩, .int .i64 k] 150) = W2 at hx2 hb2 ⊢
  clear c0 hx1 b1
  obtain ⟨c0, -⟩ := box9 hx2
  have HB2 := Lib.hid hb2
  clear hb2 hx2
  go_wp2_with (fail)
  go_ret
  exact ⟨rfl, HB2.out⟩
/-- How many parts keyOf tells. -/
theorem keyOf_len (c : ChV) (w : World) : Calls Tryz.prog 70 #[.agg c.cells] w fun e w' => ∃ A cp, e = .returned (.slice A (kLen c.kind) cp) ∧ Below w.heap.size w w' := by
  by_cases hk : 1 ≤ c.kind ∧ c.kind ≤ 6
  · refine (keyOf_any c w hk).mono ?_
    rintro e w' ⟨A, cp, rfl, _, _, _, hb⟩
    rw [keyL_len hk]
    exact ⟨A, cp, rfl, hb⟩
  · refine (keyOf_none c w hk).mono ?_
    rintro e w' ⟨rfl, hb⟩
    have e0 : kLen c.kind = 0 := by unfold kLen; rw [if_neg (by omega), if_neg (by omega), if_neg (by omega)]
    rw [e0]
    exact ⟨none, 0, rfl, hb⟩
theorem set9 {w : World} {b : Nat} {t : TypeId} {x0 x1 x2 x3 x4 x5 x6 x7 x8 : Value} (h : w.heap[b]? = some (.cells #[x0, x1, x2, x3, x4, x5, x6, x7, x8] t (0, 0))) (v0 v1 v2 v3 v4 v5 v6 v7 v8 : Value) :
    (((((((((w.setCell ⟨b, 0, none⟩ v0).setCell ⟨b, 1, none⟩ v1).setCell ⟨b, 2, none⟩ v2).setCell ⟨b, 3, none⟩ v3).setCell ⟨b, 4, none⟩ v4).setCell ⟨b, 5, none⟩ v5).setCell ⟨b, 6, none⟩ v6).setCell ⟨b, 7, none⟩ v7).setCell ⟨b, 8, none⟩ v8).heap[b]? = some (.cells #[v0, v1, v2, v3, v4, v5, v6, v7, v8] t (0, 0)) := by
  have h1 := heap_setCell_same w b 0 _ t v0 h
  have h2 := heap_setCell_same _ b 1 _ t v1 h1
  have h3 := heap_setCell_same _ b 2 _ t v2 h2
  have h4 := heap_setCell_same _ b 3 _ t v3 h3
  have h5 := heap_setCell_same _ b 4 _ t v4 h4
  have h6 := heap_setCell_same _ b 5 _ t v5 h5
  have h7 := heap_setCell_same _ b 6 _ t v6 h6
  have h8 := heap_setCell_same _ b 7 _ t v7 h7
  have h9 := heap_setCell_same _ b 8 _ t v8 h8
  simpa using h9
theorem below_set9 {B b : Nat} {a w : World} (h : Below B a w) (hb : B ≤ b) (v0 v1 v2 v3 v4 v5 v6 v7 v8 : Value) : Below B a (((((((((w.setCell ⟨b, 0, none⟩ v0).setCell ⟨b, 1, none⟩ v1).setCell ⟨b, 2, none⟩ v2).setCell ⟨b, 3, none⟩ v3).setCell ⟨b, 4, none⟩ v4).setCell ⟨b, 5, none⟩ v5).setCell ⟨b, 6, none⟩ v6).setCell ⟨b, 7, none⟩ v7).setCell ⟨b, 8, none⟩ v8) :=
  ((((((((h.setCell (p := ⟨b, 0, none⟩) hb _).setCell (p := ⟨b, 1, none⟩) hb _).setCell (p := ⟨b, 2, none⟩) hb _).setCell (p := ⟨b, 3, none⟩) hb _).setCell (p := ⟨b, 4, none⟩) hb _).setCell (p := ⟨b, 5, none⟩) hb _).setCell (p := ⟨b, 6, none⟩) hb _).setCell (p := ⟨b, 7, none⟩) hb _).setCell (p := ⟨b, 8, none⟩) hb _
theorem fr9 {w : World} {b : Nat} {cs : Array Value} {t : TypeId} (h : w.heap[b]? = some (.cells cs t (0, 0))) : w.frozen? ⟨b, 0, none⟩ = false ∧ w.frozen? ⟨b, 1, none⟩ = false ∧ w.frozen? ⟨b, 2, none⟩ = false ∧ w.frozen? ⟨b, 3, none⟩ = false ∧ w.frozen? ⟨b, 4, none⟩ = false ∧ w.frozen? ⟨b, 5, none⟩ = false ∧ w.frozen? ⟨b, 6, none⟩ = false ∧ w.frozen? ⟨b, 7, none⟩ = false ∧ w.frozen? ⟨b, 8, none⟩ = false :=
  ⟨frozen_of_row _ _ 0 _ _ h, frozen_of_row _ _ 1 _ _ h, frozen_of_row _ _ 2 _ _ h, frozen_of_row _ _ 3 _ _ h, frozen_of_row _ _ 4 _ _ h, frozen_of_row _ _ 5 _ _ h, frozen_of_row _ _ 6 _ _ h, frozen_of_row _ _ 7 _ _ h, frozen_of_row _ _ 8 _ _ h⟩
theorem resOK {w : World} {b : Nat} {v0 v1 v2 v3 v4 v5 v6 v7 v8 : Value} (h : w.heap[b]? = some (.cells #[v0, v1, v2, v3, v4, v5, v6, v7, v8] 53 (0, 0))) (tmps : Array Value) (h2 : tmps.getD 2 undef = .pointer (some ⟨b, 0, none⟩)) :
    (results Tryz.f76 tmps).run Tryz.prog w = .ok (.tuple #[.agg #[v0, v1, v2, v3, v4, v5, v6, v7, v8], tmps.getD 3 undef]) w := by
  obtain ⟨e0, e1, e2, e3, e4, e5, e6, e7, e8⟩ := box9 h
  have h2' := h2
  simp only [Array.getD_eq_getD_getElem?] at h2'
  simp [results, Tryz.results76, go_sem, h2', e0, e1, e2, e3, e4, e5, e6, e7, e8]
end Go.Proofs.YtgjjdmkoamjdpaaGreatDoor
