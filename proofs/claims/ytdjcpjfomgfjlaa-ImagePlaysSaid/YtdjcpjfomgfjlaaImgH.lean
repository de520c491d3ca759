/- An image in memory: areas. -/
import Derived.Test.YtdjcpjfomgfjlaaImgF
import Derived.Deep.CutRange
import Derived.Deep.CutBlock
namespace Go.Proofs.Ytdjcpjfomgfjlaa
open Go.RowKit Go.Maps

abbrev arO : Obj := .cells #[.int .i64 0, .int .i64 0, .int .i64 0] 118
/-- Two areas in two new boxes. -/
def TwoAr (w w' : World) (v4 v5 : Value) (x0 x1 x2 y0 y1 y2 : Value) : Prop :=
  ∃ b4 b5, v4 = .pointer (some ⟨b4, 0, none⟩) ∧ v5 = .pointer (some ⟨b5, 0, none⟩) ∧ b4 ≠ b5 ∧ w.heap.size ≤ b4 ∧ w.heap.size ≤ b5 ∧ Below w.heap.size w w' ∧
    w'.heap[b4]? = some (.cells #[x0, x1, x2] 118 (0, 0)) ∧ w'.heap[b5]? = some (.cells #[y0, y1, y2] 118 (0, 0))
theorem twoAr_of {w X : World} {b4 b5 : Nat} (hb : Below w.heap.size w X) (h4 : X.heap[b4]? = some (.cells #[.int .i64 0, .int .i64 0, .int .i64 0] 118 (0, 0))) (h5 : X.heap[b5]? = some (.cells #[.int .i64 0, .int .i64 0, .int .i64 0] 118 (0, 0))) (hne : b4 ≠ b5) (l4 : w.heap.size ≤ b4) (l5 : w.heap.size ≤ b5) (x0 x1 x2 y0 y1 y2 : Value) :
    TwoAr w ((((((X.setCell ⟨b4, 0, none⟩ x0).setCell ⟨b4, 1, none⟩ x1).setCell ⟨b4, 2, none⟩ x2).setCell ⟨b5, 0, none⟩ y0).setCell ⟨b5, 1, none⟩ y1).setCell ⟨b5, 2, none⟩ y2) (.pointer (some ⟨b4, 0, none⟩)) (.pointer (some ⟨b5, 0, none⟩)) x0 x1 x2 y0 y1 y2 := by
  refine ⟨b4, b5, rfl, rfl, hne, l4, l5, below_set3 (below_set3 hb l4 _ _ _) l5 _ _ _, ?_, ?_⟩
  · have := set3 h4 x0 x1 x2
    refine Eq.trans ?_ this
    simp [Below.heap_setCell, hne]
  · refine set3 (Eq.trans ?_ h5) _ _ _
    simp [Below.heap_setCell, Ne.symm hne]
theorem below_al {a w : World} (h : Below a.heap.size a w) (o : Obj) : Below a.heap.size a (w.alloc o) := h.alloc h.size o
theorem below_via {a w w' : World} (k : Below w.heap.size w w') (h : Below a.heap.size a w) : Below a.heap.size a w' := h.trans (k.mono h.size)
theorem al2_fst (W : World) : ((W.alloc (.cells #[.int .i64 0, .int .i64 0, .int .i64 0] 118)).alloc (.cells #[.int .i64 0, .int .i64 0, .int .i64 0] 118)).heap[W.heap.size]? = some (.cells #[.int .i64 0, .int .i64 0, .int .i64 0] 118 (0, 0)) := (Below.heap_alloc _ _ _ (by simp)).trans (heap_alloc_new W _)
theorem al2_snd (W : World) : ((W.alloc (.cells #[.int .i64 0, .int .i64 0, .int .i64 0] 118)).alloc (.cells #[.int .i64 0, .int .i64 0, .int .i64 0] 118)).heap[W.heap.size + 1]? = some (.cells #[.int .i64 0, .int .i64 0, .int .i64 0] 118 (0, 0)) := by
  have := heap_alloc_new (W.alloc (.cells #[.int .i64 0, .int .i64 0, .int .i64 0] 118)) (.cells #[.int .i64 0, .int .i64 0, .int .i64 0] 118)
  simpa using this
theorem set3_other {w : World} {b c : Nat} {o : Option Obj} (h : w.heap[c]? = o) (hne : c ≠ b) (v0 v1 v2 : Value) : ((((w).setCell ⟨b, 0, none⟩ v0).setCell ⟨b, 1, none⟩ v1).setCell ⟨b, 2, none⟩ v2).heap[c]? = o := by
  rw [← h]; simp [Below.heap_setCell, hne]
theorem old1 {w : World} {b : Nat} (h : w.heap[b]? = some (.cells #[.int .i64 0, .int .i64 0, .int .i64 0] 118 (0, 0))) : ((w).cell? ⟨b, 0, none⟩ = some (.int .i64 0)) ∧ ((w).cell? ⟨b, 1, none⟩ = some (.int .i64 0)) ∧ ((w).cell? ⟨b, 2, none⟩ = some (.int .i64 0)) ∧ ((w).frozen? ⟨b, 0, none⟩ = false) ∧ ((w).frozen? ⟨b, 1, none⟩ = false) ∧ ((w).frozen? ⟨b, 2, none⟩ = false) ∧ (∀ o : Obj, (w.alloc o).cell? ⟨b, 0, none⟩ = some (.int .i64 0)) ∧ (∀ o : Obj, (w.alloc o).cell? ⟨b, 1, none⟩ = some (.int .i64 0)) ∧ (∀ o : Obj, (w.alloc o).cell? ⟨b, 2, none⟩ = some (.int .i64 0)) ∧ (∀ o : Obj, (w.alloc o).frozen? ⟨b, 0, none⟩ = false) ∧ (∀ o : Obj, (w.alloc o).frozen? ⟨b, 1, none⟩ = false) ∧ (∀ o : Obj, (w.alloc o).frozen? ⟨b, 2, none⟩ = false) ∧ (∀ v0 v1 v2 : Value, ((((w.alloc (.cells #[.int .i64 0, .int .i64 0, .int .i64 0] 118)).setCell ⟨b, 0, none⟩ v0).setCell ⟨b, 1, none⟩ v1).setCell ⟨b, 2, none⟩ v2).cell? ⟨w.heap.size, 0, none⟩ = some (.int .i64 0)) ∧ (∀ v0 v1 v2 : Value, ((((w.alloc (.cells #[.int .i64 0, .int .i64 0, .int .i64 0] 118)).setCell ⟨b, 0, none⟩ v0).setCell ⟨b, 1, none⟩ v1).setCell ⟨b, 2, none⟩ v2).cell? ⟨w.heap.size, 1, none⟩ = some (.int .i64 0)) ∧ (∀ v0 v1 v2 : Value, ((((w.alloc (.cells #[.int .i64 0, .int .i64 0, .int .i64 0] 118)).setCell ⟨b, 0, none⟩ v0).setCell ⟨b, 1, none⟩ v1).setCell ⟨b, 2, none⟩ v2).cell? ⟨w.heap.size, 2, none⟩ = some (.int .i64 0)) ∧ (∀ v0 v1 v2 : Value, ((((w.alloc (.cells #[.int .i64 0, .int .i64 0, .int .i64 0] 118)).setCell ⟨b, 0, none⟩ v0).setCell ⟨b, 1, none⟩ v1).setCell ⟨b, 2, none⟩ v2).frozen? ⟨w.heap.size, 0, none⟩ = false) ∧ (∀ v0 v1 v2 : Value, ((((w.alloc (.cells #[.int .i64 0, .int .i64 0, .int .i64 0] 118)).setCell ⟨b, 0, none⟩ v0).setCell ⟨b, 1, none⟩ v1).setCell ⟨b, 2, none⟩ v2).frozen? ⟨w.heap.size, 1, none⟩ = false) ∧ (∀ v0 v1 v2 : Value, ((((w.alloc (.cells #[.int .i64 0, .int .i64 0, .int .i64 0] 118)).setCell ⟨b, 0, none⟩ v0).setCell ⟨b, 1, none⟩ v1).setCell ⟨b, 2, none⟩ v2).frozen? ⟨w.heap.size, 2, none⟩ = false) :=
  ⟨cell_of_row _ _ 0 _ _ _ (h),
   cell_of_row _ _ 1 _ _ _ (h),
   cell_of_row _ _ 2 _ _ _ (h),
   frozen_of_row _ _ 0 _ _ (h),
   frozen_of_row _ _ 1 _ _ (h),
   frozen_of_row _ _ 2 _ _ (h),
   fun o => cell_of_row _ _ 0 _ _ _ ((Below.heap_alloc _ _ _ (heap_lt h)).trans h),
   fun o => cell_of_row _ _ 1 _ _ _ ((Below.heap_alloc _ _ _ (heap_lt h)).trans h),
   fun o => cell_of_row _ _ 2 _ _ _ ((Below.heap_alloc _ _ _ (heap_lt h)).trans h),
   fun o => frozen_of_row _ _ 0 _ _ ((Below.heap_alloc _ _ _ (heap_lt h)).trans h),
   fun o => frozen_of_row _ _ 1 _ _ ((Below.heap_alloc _ _ _ (heap_lt h)).trans h),
   fun o => frozen_of_row _ _ 2 _ _ ((Below.heap_alloc _ _ _ (heap_lt h)).trans h),
   fun v0 v1 v2 => cell_of_row _ _ 0 _ _ _ (set3_other (heap_alloc_new w _) (Nat.ne_of_gt (heap_lt h)) v0 v1 v2),
   fun v0 v1 v2 => cell_of_row _ _ 1 _ _ _ (set3_other (heap_alloc_new w _) (Nat.ne_of_gt (heap_lt h)) v0 v1 v2),
   fun v0 v1 v2 => cell_of_row _ _ 2 _ _ _ (set3_other (heap_alloc_new w _) (Nat.ne_of_gt (heap_lt h)) v0 v1 v2),
   fun v0 v1 v2 => frozen_of_row _ _ 0 _ _ (set3_other (heap_alloc_new w _) (Nat.ne_of_gt (heap_lt h)) v0 v1 v2),
   fun v0 v1 v2 => frozen_of_row _ _ 1 _ _ (set3_other (heap_alloc_new w _) (Nat.ne_of_gt (heap_lt h)) v0 v1 v2),
   fun v0 v1 v2 => frozen_of_row _ _ 2 _ _ (set3_other (heap_alloc_new w _) (Nat.ne_of_gt (heap_lt h)) v0 v1 v2)⟩
theorem old2 {w : World} {b c : Nat} (h : w.heap[b]? = some (.cells #[.int .i64 0, .int .i64 0, .int .i64 0] 118 (0, 0))) (k : w.heap[c]? = some (.cells #[.int .i64 0, .int .i64 0, .int .i64 0] 118 (0, 0))) (hne : b ≠ c) : ((w).cell? ⟨b, 0, none⟩ = some (.int .i64 0)) ∧ ((w).cell? ⟨b, 1, none⟩ = some (.int .i64 0)) ∧ ((w).cell? ⟨b, 2, none⟩ = some (.int .i64 0)) ∧ ((w).frozen? ⟨b, 0, none⟩ = false) ∧ ((w).frozen? ⟨b, 1, none⟩ = false) ∧ ((w).frozen? ⟨b, 2, none⟩ = false) ∧ ((w).cell? ⟨c, 0, none⟩ = some (.int .i64 0)) ∧ ((w).cell? ⟨c, 1, none⟩ = some (.int .i64 0)) ∧ ((w).cell? ⟨c, 2, none⟩ = some (.int .i64 0)) ∧ ((w).frozen? ⟨c, 0, none⟩ = false) ∧ ((w).frozen? ⟨c, 1, none⟩ = false) ∧ ((w).frozen? ⟨c, 2, none⟩ = false) ∧ (∀ v0 v1 v2 : Value, ((((w).setCell ⟨b, 0, none⟩ v0).setCell ⟨b, 1, none⟩ v1).setCell ⟨b, 2, none⟩ v2).cell? ⟨c, 0, none⟩ = some (.int .i64 0)) ∧ (∀ v0 v1 v2 : Value, ((((w).setCell ⟨b, 0, none⟩ v0).setCell ⟨b, 1, none⟩ v1).setCell ⟨b, 2, none⟩ v2).cell? ⟨c, 1, none⟩ = some (.int .i64 0)) ∧ (∀ v0 v1 v2 : Value, ((((w).setCell ⟨b, 0, none⟩ v0).setCell ⟨b, 1, none⟩ v1).setCell ⟨b, 2, none⟩ v2).cell? ⟨c, 2, none⟩ = some (.int .i64 0)) ∧ (∀ v0 v1 v2 : Value, ((((w).setCell ⟨b, 0, none⟩ v0).setCell ⟨b, 1, none⟩ v1).setCell ⟨b, 2, none⟩ v2).frozen? ⟨c, 0, none⟩ = false) ∧ (∀ v0 v1 v2 : Value, ((((w).setCell ⟨b, 0, none⟩ v0).setCell ⟨b, 1, none⟩ v1).setCell ⟨b, 2, none⟩ v2).frozen? ⟨c, 1, none⟩ = false) ∧ (∀ v0 v1 v2 : Value, ((((w).setCell ⟨b, 0, none⟩ v0).setCell ⟨b, 1, none⟩ v1).setCell ⟨b, 2, none⟩ v2).frozen? ⟨c, 2, none⟩ = false) ∧ (∀ v0 v1 v2 : Value, ((((w).setCell ⟨c, 0, none⟩ v0).setCell ⟨c, 1, none⟩ v1).setCell ⟨c, 2, none⟩ v2).cell? ⟨b, 0, none⟩ = some (.int .i64 0)) ∧ (∀ v0 v1 v2 : Value, ((((w).setCell ⟨c, 0, none⟩ v0).setCell ⟨c, 1, none⟩ v1).setCell ⟨c, 2, none⟩ v2).cell? ⟨b, 1, none⟩ = some (.int .i64 0)) ∧ (∀ v0 v1 v2 : Value, ((((w).setCell ⟨c, 0, none⟩ v0).setCell ⟨c, 1, none⟩ v1).setCell ⟨c, 2, none⟩ v2).cell? ⟨b, 2, none⟩ = some (.int .i64 0)) ∧ (∀ v0 v1 v2 : Value, ((((w).setCell ⟨c, 0, none⟩ v0).setCell ⟨c, 1, none⟩ v1).setCell ⟨c, 2, none⟩ v2).frozen? ⟨b, 0, none⟩ = false) ∧ (∀ v0 v1 v2 : Value, ((((w).setCell ⟨c, 0, none⟩ v0).setCell ⟨c, 1, none⟩ v1).setCell ⟨c, 2, none⟩ v2).frozen? ⟨b, 1, none⟩ = false) ∧ (∀ v0 v1 v2 : Value, ((((w).setCell ⟨c, 0, none⟩ v0).setCell ⟨c, 1, none⟩ v1).setCell ⟨c, 2, none⟩ v2).frozen? ⟨b, 2, none⟩ = false) :=
  ⟨cell_of_row _ _ 0 _ _ _ (h),
   cell_of_row _ _ 1 _ _ _ (h),
   cell_of_row _ _ 2 _ _ _ (h),
   frozen_of_row _ _ 0 _ _ (h),
   frozen_of_row _ _ 1 _ _ (h),
   frozen_of_row _ _ 2 _ _ (h),
   cell_of_row _ _ 0 _ _ _ (k),
   cell_of_row _ _ 1 _ _ _ (k),
   cell_of_row _ _ 2 _ _ _ (k),
   frozen_of_row _ _ 0 _ _ (k),
   frozen_of_row _ _ 1 _ _ (k),
   frozen_of_row _ _ 2 _ _ (k),
   fun v0 v1 v2 => cell_of_row _ _ 0 _ _ _ (set3_other k (Ne.symm hne) v0 v1 v2),
   fun v0 v1 v2 => cell_of_row _ _ 1 _ _ _ (set3_other k (Ne.symm hne) v0 v1 v2),
   fun v0 v1 v2 => cell_of_row _ _ 2 _ _ _ (set3_other k (Ne.symm hne) v0 v1 v2),
   fun v0 v1 v2 => frozen_of_row _ _ 0 _ _ (set3_other k (Ne.symm hne) v0 v1 v2),
   fun v0 v1 v2 => frozen_of_row _ _ 1 _ _ (set3_other k (Ne.symm hne) v0 v1 v2),
   fun v0 v1 v2 => frozen_of_row _ _ 2 _ _ (set3_other k (Ne.symm hne) v0 v1 v2),
   fun v0 v1 v2 => cell_of_row _ _ 0 _ _ _ (set3_other h hne v0 v1 v2),
   fun v0 v1 v2 => cell_of_row _ _ 1 _ _ _ (set3_other h hne v0 v1 v2),
   fun v0 v1 v2 => cell_of_row _ _ 2 _ _ _ (set3_other h hne v0 v1 v2),
   fun v0 v1 v2 => frozen_of_row _ _ 0 _ _ (set3_other h hne v0 v1 v2),
   fun v0 v1 v2 => frozen_of_row _ _ 1 _ _ (set3_other h hne v0 v1 v2),
   fun v0 v1 v2 => frozen_of_row _ _ 2 _ _ (set3_other h hne v0 v1 v2)⟩
theorem keep0 {w w' : World} {b : Nat} {o : Obj} (hb : Below w.heap.size w w') (h : w.heap[b]? = some o) : w'.heap[b]? = some o := (hb.block b (heap_lt h)).trans h
theorem keep1 {w w' : World} {b : Nat} {o o' : Obj} (hb : Below (w.alloc o').heap.size (w.alloc o') w') (h : w.heap[b]? = some o) : w'.heap[b]? = some o := keep0 hb ((Below.heap_alloc _ _ _ (heap_lt h)).trans h)
theorem new1 {w w' : World} (hb : Below (w.alloc (.cells #[.int .i64 0, .int .i64 0, .int .i64 0] 118)).heap.size (w.alloc (.cells #[.int .i64 0, .int .i64 0, .int .i64 0] 118)) w') : w'.heap[w.heap.size]? = some (.cells #[.int .i64 0, .int .i64 0, .int .i64 0] 118 (0, 0)) := keep0 hb (heap_alloc_new w _)
theorem new2a {w w' : World} (hb : Below ((w.alloc (.cells #[.int .i64 0, .int .i64 0, .int .i64 0] 118)).alloc (.cells #[.int .i64 0, .int .i64 0, .int .i64 0] 118)).heap.size ((w.alloc (.cells #[.int .i64 0, .int .i64 0, .int .i64 0] 118)).alloc (.cells #[.int .i64 0, .int .i64 0, .int .i64 0] 118)) w') : w'.heap[w.heap.size]? = some (.cells #[.int .i64 0, .int .i64 0, .int .i64 0] 118 (0, 0)) := keep0 hb (al2_fst w)
theorem new2b {w w' : World} (hb : Below ((w.alloc (.cells #[.int .i64 0, .int .i64 0, .int .i64 0] 118)).alloc (.cells #[.int .i64 0, .int .i64 0, .int .i64 0] 118)).heap.size ((w.alloc (.cells #[.int .i64 0, .int .i64 0, .int .i64 0] 118)).alloc (.cells #[.int .i64 0, .int .i64 0, .int .i64 0] 118)) w') : w'.heap[w.heap.size + 1]? = some (.cells #[.int .i64 0, .int .i64 0, .int .i64 0] 118 (0, 0)) := keep0 hb (al2_snd w)
theorem undrew {w w' : World} {B : Nat} (hb : Below B w.drew w') : Below B w w' := ⟨hb.os, hb.tape, hb.output, hb.size, hb.block⟩
theorem new1d {w w' : World} (hb : Below (w.alloc (.cells #[.int .i64 0, .int .i64 0, .int .i64 0] 118)).drew.heap.size (w.alloc (.cells #[.int .i64 0, .int .i64 0, .int .i64 0] 118)).drew w') : w'.heap[w.heap.size]? = some (.cells #[.int .i64 0, .int .i64 0, .int .i64 0] 118 (0, 0)) := new1 (undrew hb)
theorem new2ad {w w' : World} (hb : Below ((w.alloc (.cells #[.int .i64 0, .int .i64 0, .int .i64 0] 118)).alloc (.cells #[.int .i64 0, .int .i64 0, .int .i64 0] 118)).drew.heap.size ((w.alloc (.cells #[.int .i64 0, .int .i64 0, .int .i64 0] 118)).alloc (.cells #[.int .i64 0, .int .i64 0, .int .i64 0] 118)).drew w') : w'.heap[w.heap.size]? = some (.cells #[.int .i64 0, .int .i64 0, .int .i64 0] 118 (0, 0)) := new2a (undrew hb)
theorem new2bd {w w' : World} (hb : Below ((w.alloc (.cells #[.int .i64 0, .int .i64 0, .int .i64 0] 118)).alloc (.cells #[.int .i64 0, .int .i64 0, .int .i64 0] 118)).drew.heap.size ((w.alloc (.cells #[.int .i64 0, .int .i64 0, .int .i64 0] 118)).alloc (.cells #[.int .i64 0, .int .i64 0, .int .i64 0] 118)).drew w') : w'.heap[w.heap.size + 1]? = some (.cells #[.int .i64 0, .int .i64 0, .int .i64 0] 118 (0, 0)) := new2b (undrew hb)
theorem twoAr_B {w w2 : World} {b : Nat} (hb : Below w.heap.size w w2) (h4 : w2.heap[b]? = some (.cells #[.int .i64 0, .int .i64 0, .int .i64 0] 118 (0, 0))) (l4 : w.heap.size ≤ b) (x0 x1 x2 y0 y1 y2 : Value) :
    TwoAr w (((((((w2.alloc (.cells #[.int .i64 0, .int .i64 0, .int .i64 0] 118)).setCell ⟨b, 0, none⟩ x0).setCell ⟨b, 1, none⟩ x1).setCell ⟨b, 2, none⟩ x2).setCell ⟨w2.heap.size, 0, none⟩ y0).setCell ⟨w2.heap.size, 1, none⟩ y1).setCell ⟨w2.heap.size, 2, none⟩ y2) (.pointer (some ⟨b, 0, none⟩)) (.pointer (some ⟨w2.heap.size, 0, none⟩)) x0 x1 x2 y0 y1 y2 :=
  twoAr_of (below_al hb _) ((Below.heap_alloc _ _ _ (heap_lt h4)).trans h4) (heap_alloc_new w2 _) (Nat.ne_of_lt (heap_lt h4)) l4 hb.size x0 x1 x2 y0 y1 y2
theorem twoAr_C {w w2 : World} {b : Nat} (hb : Below w.heap.size w w2) (h5 : w2.heap[b]? = some (.cells #[.int .i64 0, .int .i64 0, .int .i64 0] 118 (0, 0))) (l5 : w.heap.size ≤ b) (x0 x1 x2 y0 y1 y2 : Value) :
    TwoAr w ((((w2.alloc (.cells #[x0, x1, x2] 118)).setCell ⟨b, 0, none⟩ y0).setCell ⟨b, 1, none⟩ y1).setCell ⟨b, 2, none⟩ y2) (.pointer (some ⟨w2.heap.size, 0, none⟩)) (.pointer (some ⟨b, 0, none⟩)) x0 x1 x2 y0 y1 y2 :=
  ⟨w2.heap.size, b, rfl, rfl, Nat.ne_of_gt (heap_lt h5), hb.size, l5, below_set3 (below_al hb _) l5 _ _ _, set3_other (heap_alloc_new w2 _) (Nat.ne_of_gt (heap_lt h5)) _ _ _, set3 ((Below.heap_alloc _ _ _ (heap_lt h5)).trans h5) _ _ _⟩
theorem twoAr_D {w w2 : World} (hb : Below w.heap.size w w2) (x0 x1 x2 y0 y1 y2 : Value) :
    TwoAr w ((w2.alloc (.cells #[x0, x1, x2] 118)).alloc (.cells #[y0, y1, y2] 118)) (.pointer (some ⟨w2.heap.size, 0, none⟩)) (.pointer (some ⟨w2.heap.size + 1, 0, none⟩)) x0 x1 x2 y0 y1 y2 :=
  ⟨w2.heap.size, w2.heap.size + 1, rfl, rfl, by omega, hb.size, Nat.le_succ_of_le hb.size, below_al (below_al hb _) _, (Below.heap_alloc _ _ _ (by simp)).trans (heap_alloc_new w2 _), by
    have := heap_alloc_new (w2.alloc (.cells #[x0, x1, x2] 118)) (.cells #[y0, y1, y2] 118)
    simpa using this⟩
theorem twoAr_E {w w2 : World} (hb : Below w.heap.size w w2) (x0 x1 x2 y0 y1 y2 : Value) :
    TwoAr w ((w2.alloc (.cells #[y0, y1, y2] 118)).alloc (.cells #[x0, x1, x2] 118)) (.pointer (some ⟨w2.heap.size + 1, 0, none⟩)) (.pointer (some ⟨w2.heap.size, 0, none⟩)) x0 x1 x2 y0 y1 y2 :=
  ⟨w2.heap.size + 1, w2.heap.size, rfl, rfl, by omega, Nat.le_succ_of_le hb.size, hb.size, below_al (below_al hb _) _, by
    have := heap_alloc_new (w2.alloc (.cells #[y0, y1, y2] 118)) (.cells #[x0, x1, x2] 118)
    simpa using this, (Below.heap_alloc _ _ _ (by simp)).trans (heap_alloc_new w2 _)⟩
theorem resAreas {w : World} {b c : Nat} {v0 v1 v2 u0 u1 u2 : Value} (h : w.heap[b]? = some (.cells #[v0, v1, v2] 118 (0, 0))) (k : w.heap[c]? = some (.cells #[u0, u1, u2] 118 (0, 0))) (tmps : Array Value) (h2 : tmps.getD 2 undef = .pointer (some ⟨b, 0, none⟩)) (h3 : tmps.getD 3 undef = .pointer (some ⟨c, 0, none⟩)) :
    (results Try.f61 tmps).run Try.prog w = .ok (.tuple #[.agg #[v0, v1, v2], .agg #[u0, u1, u2]]) w := by
  have e0 : w.cell? ⟨b, 0, none⟩ = some v0 := cell_of_row w b 0 _ _ _ h
  have e1 : w.cell? ⟨b, 1, none⟩ = some v1 := cell_of_row w b 1 _ _ _ h
  have e2 : w.cell? ⟨b, 2, none⟩ = some v2 := cell_of_row w b 2 _ _ _ h
  have d0 : w.cell? ⟨c, 0, none⟩ = some u0 := cell_of_row w c 0 _ _ _ k
  have d1 : w.cell? ⟨c, 1, none⟩ = some u1 := cell_of_row w c 1 _ _ _ k
  have d2 : w.cell? ⟨c, 2, none⟩ = some u2 := cell_of_row w c 2 _ _ _ k
  have h2' := h2
  have h3' := h3
  simp only [Array.getD_eq_getD_getElem?] at h2' h3'
  simp [results, Try.results61, go_sem, h2', h3', e0, e1, e2, d0, d1, d2]
theorem two_set3 {w : World} {b c : Nat} {t : TypeId} {x0 x1 x2 y0 y1 y2 : Value} (h : w.heap[b]? = some (.cells #[x0, x1, x2] t (0, 0))) (k : w.heap[c]? = some (.cells #[y0, y1, y2] t (0, 0))) (hne : b ≠ c) (v0 v1 v2 u0 u1 u2 : Value) :
    ((((((w.setCell ⟨b, 0, none⟩ v0).setCell ⟨b, 1, none⟩ v1).setCell ⟨b, 2, none⟩ v2).setCell ⟨c, 0, none⟩ u0).setCell ⟨c, 1, none⟩ u1).setCell ⟨c, 2, none⟩ u2).heap[b]? = some (.cells #[v0, v1, v2] t (0, 0)) ∧
    ((((((w.setCell ⟨b, 0, none⟩ v0).setCell ⟨b, 1, none⟩ v1).setCell ⟨b, 2, none⟩ v2).setCell ⟨c, 0, none⟩ u0).setCell ⟨c, 1, none⟩ u1).setCell ⟨c, 2, none⟩ u2).heap[c]? = some (.cells #[u0, u1, u2] t (0, 0)) :=
  ⟨set3_other (set3 h _ _ _) hne _ _ _, set3 (set3_other k (Ne.symm hne) _ _ _) _ _ _⟩
theorem two_set3d {a w : World} {b c : Nat} {t : TypeId} {x0 x1 x2 y0 y1 y2 : Value} (h : w.heap[b]? = some (.cells #[x0, x1, x2] t (0, 0))) (k : w.heap[c]? = some (.cells #[y0, y1, y2] t (0, 0))) (hne : b ≠ c) (hb : Below a.heap.size a w) (l1 : a.heap.size ≤ b) (l2 : a.heap.size ≤ c) (v0 v1 v2 u0 u1 u2 : Value) (W : World)
    (hW : W = ((((((w.setCell ⟨b, 0, none⟩ v0).setCell ⟨b, 1, none⟩ v1).setCell ⟨b, 2, none⟩ v2).setCell ⟨c, 0, none⟩ u0).setCell ⟨c, 1, none⟩ u1).setCell ⟨c, 2, none⟩ u2).drew) :
    W.heap[b]? = some (.cells #[v0, v1, v2] t (0, 0)) ∧ W.heap[c]? = some (.cells #[u0, u1, u2] t (0, 0)) ∧ Below a.heap.size a W := by
  subst hW
  have e : ∀ X : World, X.drew.heap = X.heap := fun _ => rfl
  rw [e]
  exact ⟨(two_set3 h k hne v0 v1 v2 u0 u1 u2).1, (two_set3 h k hne v0 v1 v2 u0 u1 u2).2, (below_set3 (below_set3 hb l1 _ _ _) l2 _ _ _).drew⟩
/-- What areas answers: the one that counts, the other one. -/
def areasV (first count : Nat) (x y : Option (Nat × Nat)) : Value := if pick x y then .tuple #[arV first x, arV (first + count) y] else .tuple #[arV (first + count) y, arV first x]
section
variable {w : World} {q p first count bs bw T : Nat} {M : DM}
set_option maxRecDepth 100000 in
set_option maxHeartbeats 4000000 in
theorem areas_any (h : ImgAt w q p first count) (hc : count ≤ 4096) (hD : DiskM w p bs bw M T) (hz : M.size ≤ 4096) (hf : first + count < M.size) :
    Calls Try.prog 61 #[.pointer (some ⟨q, 0, none⟩)] w fun e w' => e = .returned (areasV first count (hdA M.get first count) (hdB M.get first count)) ∧ Below w.heap.size w w' := by
  obtain ⟨x, hx⟩ : ∃ x, x = hdA M.get first count := ⟨_, rfl⟩
  obtain ⟨y, hy⟩ : ∃ y, y = hdB M.get first count := ⟨_, rfl⟩
  have hb0 : Below w.heap.size w ((w.alloc (.cells #[.int .i64 0, .int .i64 0, .int .i64 0] 118)).alloc (.cells #[.int .i64 0, .int .i64 0, .int .i64 0] 118)) := ((Below.refl _ _).alloc (Nat.le_refl _) _).alloc (by simp) _
  have hg2 : ((w.alloc (.cells #[.int .i64 0, .int .i64 0, .int .i64 0] 118)).alloc (.cells #[.int .i64 0, .int .i64 0, .int .i64 0] 118)).heap[w.heap.size]? = some (.cells #[.int .i64 0, .int .i64 0, .int .i64 0] 118 (0, 0)) := (Below.heap_alloc _ _ _ (by simp)).trans (heap_alloc_new w _)
  have hg3 : ((w.alloc (.cells #[.int .i64 0, .int .i64 0, .int .i64 0] 118)).alloc (.cells #[.int .i64 0, .int .i64 0, .int .i64 0] 118)).heap[w.heap.size + 1]? = some (.cells #[.int .i64 0, .int .i64 0, .int .i64 0] 118 (0, 0)) := by
    have := heap_alloc_new (w.alloc (.cells #[.int .i64 0, .int .i64 0, .int .i64 0] 118)) (.cells #[.int .i64 0, .int .i64 0, .int .i64 0] 118)
    simpa using this
  have hi0 := h.below hb0
  have hD0 := hD.kept hb0
  have hXY := And.intro hx hy
  rw [← hx, ← hy]
  have H0 := Lib.hid (And.intro hb0 (And.intro hg2 hg3))
  have h2c := h.two
  have hcI : (count : Int) ≤ 4096 := by omega
  have hfI : (first : Int) + (count : Int) ≤ 4096 := by omega
  have hf0 : (0 : Int) ≤ (first : Int) := by omega
  go_enter Try.func61, Try.ntmps61
  go_upto_region 1 with (fail)
  generalize (w.alloc (.cells #[.int .i64 0, .int .i64 0, .int .i64 0] 118)).alloc (.cells #[.int .i64 0, .int .i64 0, .int .i64 0] 118) = W0 at hb0 hg2 hg3 hi0 hD0 H0 ⊢
  have hA1 : ∀ W, Below W0.heap.size W0 W → Calls Try.prog 79 #[.pointer (some ⟨q, 0, none⟩), .int .i64 (first : Int)] W fun e w' => e = .returned (arV first x) ∧ Below W.heap.size W w' := fun W hW => by
    rw [hx]; exact area_any (hi0.below hW) hc (hD0.kept hW) hz (by omega) _ rfl _ rfl
  have hA2 : ∀ W, Below W0.heap.size W0 W → Calls Try.prog 79 #[.pointer (some ⟨q, 0, none⟩), .int .i64 ((first : Int) + (count : Int))] W fun e w' => e = .returned (arV (first + count) y) ∧ Below W.heap.size W w' := fun W hW => by
    rw [hy]
    have := area_any (hi0.below hW) hc (hD0.kept hW) hz (i := first + count) (by omega) _ rfl _ rfl
    rw [Int.natCast_add] at this
    exact this
  have hwr : IntKind.i64.wrap ((first : Int) + (count : Int)) = (first : Int) + (count : Int) := IntWalk.i64_in _ (by omega)
  unfold arV at hA1 hA2
  rw [Int.natCast_add] at hA2
  have HA1 := Lib.hid hA1
  have HA2 := Lib.hid hA2
  have hS : ∀ W, Below W0.heap.size W0 W → W.cell? ⟨q, 1, none⟩ = some (.int .i64 (first : Int)) ∧ W.cell? ⟨q, 2, none⟩ = some (.int .i64 (count : Int)) := fun W hW =>
    ⟨cell_of_row W q 1 _ _ _ (hi0.below hW).blk, cell_of_row W q 2 _ _ _ (hi0.below hW).blk⟩
  have HS := Lib.hid hS
  clear hA1 hA2 hS hi0 hD0 h hD hx hy hXY hb0 hg2 hg3 hc hz hf h2c
  go_cut [4, 5] from 6 to 22 (fun k v w' => TwoAr W0 w' k v (.int .i64 (first : Int)) (.int .i64 (seqO x : Int)) (.int .i64 (sizO x : Int)) (.int .i64 ((first : Int) + (count : Int))) (.int .i64 (seqO y : Int)) (.int .i64 (sizO y : Int)))
  case rest =>
    obtain ⟨b4, b5, rfl, rfl, hne, l4, l5, hB, h4, h5⟩ := hcut
    have hw0 := H0.out.1.size
    have hsz0 := heap_lt H0.out.2.2
    have g2 := (hB.block w.heap.size (heap_lt H0.out.2.1)).trans H0.out.2.1
    have g3 := (hB.block (w.heap.size + 1) (heap_lt H0.out.2.2)).trans H0.out.2.2
    have c40 := cell_of_row wc b4 0 _ _ _ h4
    have c41 := cell_of_row wc b4 1 _ _ _ h4
    have c42 := cell_of_row wc b4 2 _ _ _ h4
    have c50 := cell_of_row wc b5 0 _ _ _ h5
    have c51 := cell_of_row wc b5 1 _ _ _ h5
    have c52 := cell_of_row wc b5 2 _ _ _ h5
    have r20 := cell_of_row wc w.heap.size 0 _ _ _ g2
    have r21 := cell_of_row wc w.heap.size 1 _ _ _ g2
    have r22 := cell_of_row wc w.heap.size 2 _ _ _ g2
    have s20 := frozen_of_row wc w.heap.size 0 _ _ g2
    have s21 := frozen_of_row wc w.heap.size 1 _ _ g2
    have s22 := frozen_of_row wc w.heap.size 2 _ _ g2
    have r30 := cell_of_row wc (w.heap.size + 1) 0 _ _ _ g3
    have r31 := cell_of_row wc (w.heap.size + 1) 1 _ _ _ g3
    have r32 := cell_of_row wc (w.heap.size + 1) 2 _ _ _ g3
    have s30 := frozen_of_row wc (w.heap.size + 1) 0 _ _ g3
    have s31 := frozen_of_row wc (w.heap.size + 1) 1 _ _ g3
    have s32 := frozen_of_row wc (w.heap.size + 1) 2 _ _ g3
    have n1 : ¬ b4 = w.heap.size := by omega
    have n2 : ¬ b4 = w.heap.size + 1 := by omega
    have n3 : ¬ b5 = w.heap.size := by omega
    have n4 : ¬ b5 = w.heap.size + 1 := by omega
    have hBw : Below w.heap.size w wc := H0.out.1.trans (hB.mono hw0)
    have HG := Lib.hid (And.intro g2 (And.intro g3 hBw))
    have hsx : (0 : Int) ≤ (seqO x : Int) := by omega
    obtain ⟨Sx, hSx⟩ : ∃ Sx, Sx = seqO x := ⟨_, rfl⟩
    obtain ⟨Sy, hSy⟩ : ∃ Sy, Sy = seqO y := ⟨_, rfl⟩
    have hpt : 0 < Sx ∧ Sy ≤ Sx → pick x y = true := fun h => by unfold pick; rw [← hSx, ← hSy]; exact decide_eq_true h
    have hpf : ¬ (0 < Sx ∧ Sy ≤ Sx) → pick x y = false := fun h => by unfold pick; rw [← hSx, ← hSy]; exact decide_eq_false h
    rw [← hSx] at c41
    rw [← hSy] at c51
    clear g2 g3 hw0 hsz0 hB h4 h5 hsx l4 l5 HS HA1 HA2 hfI hf0 hcI hwr
    by_cases h1 : 0 < Sx
    · have h1I : (0 : Int) < (Sx : Int) := by omega
      by_cases h2 : Sy ≤ Sx
      · have h2I : (Sy : Int) ≤ (Sx : Int) := by omega
        have hpk := hpt ⟨h1, h2⟩
        have HV := Lib.hid (And.intro hpk (And.intro hSx hSy))
        clear hpk hpt hpf h1 h2 hSx hSy
        go_wp2
        go_region
        all_goals
          go_wp2_with (fail)
          generalize hW : World.drew _ = W
          have h23 := two_set3d HG.out.1 HG.out.2.1 (Nat.ne_of_lt (Nat.lt_succ_self _)) HG.out.2.2 (Nat.le_refl _) (Nat.le_succ _) (.int .i64 (first : Int)) (.int .i64 (Sx : Int)) (.int .i64 (sizO x : Int)) (.int .i64 ((first : Int) + (count : Int))) (.int .i64 (Sy : Int)) (.int .i64 (sizO y : Int)) W hW.symm
          clear hW
          exact bodyPost_ret (resAreas h23.1 h23.2.1 _ rfl rfl) rfl ⟨by unfold areasV; rw [HV.out.1, HV.out.2.1, HV.out.2.2]; simp [arV], h23.2.2⟩
      · have h2I : ¬ (Sy : Int) ≤ (Sx : Int) := by omega
        have hpk := hpf (fun h => h2 h.2)
        have HV := Lib.hid (And.intro hpk (And.intro hSx hSy))
        clear hpk hpt hpf h1 h2 hSx hSy
        go_wp2
        go_region
        all_goals
          go_wp2_with (fail)
          generalize hW : World.drew _ = W
          have h23 := two_set3d HG.out.1 HG.out.2.1 (Nat.ne_of_lt (Nat.lt_succ_self _)) HG.out.2.2 (Nat.le_refl _) (Nat.le_succ _) (.int .i64 ((first : Int) + (count : Int))) (.int .i64 (Sy : Int)) (.int .i64 (sizO y : Int)) (.int .i64 (first : Int)) (.int .i64 (Sx : Int)) (.int .i64 (sizO x : Int)) W hW.symm
          clear hW
          exact bodyPost_ret (resAreas h23.1 h23.2.1 _ rfl rfl) rfl ⟨by unfold areasV; rw [HV.out.1, HV.out.2.1, HV.out.2.2]; simp [arV], h23.2.2⟩
    · have h1I : ¬ (0 : Int) < (Sx : Int) := by omega
      have h2 := h1
      have hpk := hpf (fun h => h1 h.1)
      have HV := Lib.hid (And.intro hpk (And.intro hSx hSy))
      clear hpk hpt hpf h1 h2 hSx hSy
      go_wp2
      go_region
      all_goals
        go_wp2_with (fail)
        generalize hW : World.drew _ = W
        have h23 := two_set3d HG.out.1 HG.out.2.1 (Nat.ne_of_lt (Nat.lt_succ_self _)) HG.out.2.2 (Nat.le_refl _) (Nat.le_succ _) (.int .i64 ((first : Int) + (count : Int))) (.int .i64 (Sy : Int)) (.int .i64 (sizO y : Int)) (.int .i64 (first : Int)) (.int .i64 (Sx : Int)) (.int .i64 (sizO x : Int)) W hW.symm
        clear hW
        exact bodyPost_ret (resAreas h23.1 h23.2.1 _ rfl rfl) rfl ⟨by unfold areasV; rw [HV.out.1, HV.out.2.1, HV.out.2.2]; simp [arV], h23.2.2⟩
  case first =>
    go_region_held3 (fun W => W.cell? ⟨q, 1, none⟩ = some (.int .i64 (first : Int)) ∧ W.cell? ⟨q, 2, none⟩ = some (.int .i64 (count : Int)))
      (first
        | with_reducible assumption
        | (refine HS.out _ ?_; repeat (first | with_reducible exact Below.refl _ _ | with_reducible assumption | (with_reducible refine Below.drew ?_) | (with_reducible refine below_al ?_ _) | (with_reducible refine Below.setCell ?_ ?_ _) | with_reducible exact Nat.le_refl _ | (have h1 := hw1.size; have h2 := hw2.size; have h3 : W0.drew.heap.size = W0.heap.size := rfl; dsimp only; omega))))
      (first
        | (go_at_call 79; (with_reducible refine (HA1.out _ ?_).mono ?_); (repeat (first | with_reducible exact Below.refl _ _ | with_reducible assumption | (with_reducible refine Below.drew ?_) | (with_reducible refine below_al ?_ _))); rintro e w1 ⟨rfl, hb1⟩; have hw1 : Below W0.heap.size W0 w1 := below_via hb1 (by (repeat (first | with_reducible exact Below.refl _ _ | with_reducible assumption | (with_reducible refine Below.drew ?_) | (with_reducible refine below_al ?_ _)))); (with_reducible have hx : w1.heap[W0.heap.size]? = some (.cells #[.int .i64 0, .int .i64 0, .int .i64 0] 118 (0, 0)) := new2ad hb1); (with_reducible have hx' : w1.heap[W0.heap.size + 1]? = some (.cells #[.int .i64 0, .int .i64 0, .int .i64 0] 118 (0, 0)) := new2bd hb1))
        | (go_at_call 79; (with_reducible refine (HA1.out _ ?_).mono ?_); (repeat (first | with_reducible exact Below.refl _ _ | with_reducible assumption | (with_reducible refine Below.drew ?_) | (with_reducible refine below_al ?_ _))); rintro e w1 ⟨rfl, hb1⟩; have hw1 : Below W0.heap.size W0 w1 := below_via hb1 (by (repeat (first | with_reducible exact Below.refl _ _ | with_reducible assumption | (with_reducible refine Below.drew ?_) | (with_reducible refine below_al ?_ _)))); (with_reducible have hx : w1.heap[W0.heap.size]? = some (.cells #[.int .i64 0, .int .i64 0, .int .i64 0] 118 (0, 0)) := new1d hb1))
        | (go_at_call 79; (with_reducible refine (HA1.out _ ?_).mono ?_); (repeat (first | with_reducible exact Below.refl _ _ | with_reducible assumption | (with_reducible refine Below.drew ?_) | (with_reducible refine below_al ?_ _))); rintro e w1 ⟨rfl, hb1⟩; have hw1 : Below W0.heap.size W0 w1 := below_via hb1 (by (repeat (first | with_reducible exact Below.refl _ _ | with_reducible assumption | (with_reducible refine Below.drew ?_) | (with_reducible refine below_al ?_ _)))); skip)
        | (go_at_call 79; (with_reducible refine (HA2.out _ ?_).mono ?_); (repeat (first | with_reducible exact Below.refl _ _ | with_reducible assumption | (with_reducible refine Below.drew ?_) | (with_reducible refine below_al ?_ _))); rintro e w2 ⟨rfl, hb2⟩; have hw2 : Below W0.heap.size W0 w2 := below_via hb2 (by (repeat (first | with_reducible exact Below.refl _ _ | with_reducible assumption | (with_reducible refine Below.drew ?_) | (with_reducible refine below_al ?_ _)))); (with_reducible have hx4 : w2.heap[W0.heap.size]? = some (.cells #[.int .i64 0, .int .i64 0, .int .i64 0] 118 (0, 0)) := keep0 hb2 hx); (with_reducible have hx5 : w2.heap[W0.heap.size + 1]? = some (.cells #[.int .i64 0, .int .i64 0, .int .i64 0] 118 (0, 0)) := keep0 hb2 hx'); have hy := old2 hx4 hx5 (by omega); obtain ⟨f0, f1, f2, f3, f4, f5, f6, f7, f8, f9, f10, f11, f12, f13, f14, f15, f16, f17, f18, f19, f20, f21, f22, f23⟩ := hy)
        | (go_at_call 79; (with_reducible refine (HA2.out _ ?_).mono ?_); (repeat (first | with_reducible exact Below.refl _ _ | with_reducible assumption | (with_reducible refine Below.drew ?_) | (with_reducible refine below_al ?_ _))); rintro e w2 ⟨rfl, hb2⟩; have hw2 : Below W0.heap.size W0 w2 := below_via hb2 (by (repeat (first | with_reducible exact Below.refl _ _ | with_reducible assumption | (with_reducible refine Below.drew ?_) | (with_reducible refine below_al ?_ _)))); (with_reducible have hx4 : w2.heap[W0.heap.size]? = some (.cells #[.int .i64 0, .int .i64 0, .int .i64 0] 118 (0, 0)) := keep1 hb2 hx); (with_reducible have hx5 : w2.heap[w1.heap.size]? = some (.cells #[.int .i64 0, .int .i64 0, .int .i64 0] 118 (0, 0)) := new1 hb2); have hy := old2 hx4 hx5 (Nat.ne_of_lt (heap_lt hx)); obtain ⟨f0, f1, f2, f3, f4, f5, f6, f7, f8, f9, f10, f11, f12, f13, f14, f15, f16, f17, f18, f19, f20, f21, f22, f23⟩ := hy)
        | (go_at_call 79; (with_reducible refine (HA2.out _ ?_).mono ?_); (repeat (first | with_reducible exact Below.refl _ _ | with_reducible assumption | (with_reducible refine Below.drew ?_) | (with_reducible refine below_al ?_ _))); rintro e w2 ⟨rfl, hb2⟩; have hw2 : Below W0.heap.size W0 w2 := below_via hb2 (by (repeat (first | with_reducible exact Below.refl _ _ | with_reducible assumption | (with_reducible refine Below.drew ?_) | (with_reducible refine below_al ?_ _)))); (with_reducible have hx4 : w2.heap[w1.heap.size]? = some (.cells #[.int .i64 0, .int .i64 0, .int .i64 0] 118 (0, 0)) := new2a hb2); (with_reducible have hx5 : w2.heap[w1.heap.size + 1]? = some (.cells #[.int .i64 0, .int .i64 0, .int .i64 0] 118 (0, 0)) := new2b hb2); have hy := old2 hx4 hx5 (by omega); obtain ⟨f0, f1, f2, f3, f4, f5, f6, f7, f8, f9, f10, f11, f12, f13, f14, f15, f16, f17, f18, f19, f20, f21, f22, f23⟩ := hy)
        | (go_at_call 79; (with_reducible refine (HA2.out _ ?_).mono ?_); (repeat (first | with_reducible exact Below.refl _ _ | with_reducible assumption | (with_reducible refine Below.drew ?_) | (with_reducible refine below_al ?_ _))); rintro e w2 ⟨rfl, hb2⟩; have hw2 : Below W0.heap.size W0 w2 := below_via hb2 (by (repeat (first | with_reducible exact Below.refl _ _ | with_reducible assumption | (with_reducible refine Below.drew ?_) | (with_reducible refine below_al ?_ _)))); (with_reducible have hx4 : w2.heap[W0.heap.size]? = some (.cells #[.int .i64 0, .int .i64 0, .int .i64 0] 118 (0, 0)) := keep0 hb2 hx); have hy := old1 hx4; obtain ⟨f0, f1, f2, f3, f4, f5, f6, f7, f8, f9, f10, f11, f12, f13, f14, f15, f16, f17⟩ := hy)
        | (go_at_call 79; (with_reducible refine (HA2.out _ ?_).mono ?_); (repeat (first | with_reducible exact Below.refl _ _ | with_reducible assumption | (with_reducible refine Below.drew ?_) | (with_reducible refine below_al ?_ _))); rintro e w2 ⟨rfl, hb2⟩; have hw2 : Below W0.heap.size W0 w2 := below_via hb2 (by (repeat (first | with_reducible exact Below.refl _ _ | with_reducible assumption | (with_reducible refine Below.drew ?_) | (with_reducible refine below_al ?_ _)))); (with_reducible have hx4 : w2.heap[w1.heap.size]? = some (.cells #[.int .i64 0, .int .i64 0, .int .i64 0] 118 (0, 0)) := new1 hb2); have hy := old1 hx4; obtain ⟨f0, f1, f2, f3, f4, f5, f6, f7, f8, f9, f10, f11, f12, f13, f14, f15, f16, f17⟩ := hy)
        | (go_at_call 79; (with_reducible refine (HA2.out _ ?_).mono ?_); (repeat (first | with_reducible exact Below.refl _ _ | with_reducible assumption | (with_reducible refine Below.drew ?_) | (with_reducible refine below_al ?_ _))); rintro e w2 ⟨rfl, hb2⟩; have hw2 : Below W0.heap.size W0 w2 := below_via hb2 (by (repeat (first | with_reducible exact Below.refl _ _ | with_reducible assumption | (with_reducible refine Below.drew ?_) | (with_reducible refine below_al ?_ _)))); skip))
    all_goals
      first | clear f0 f1 f2 f3 f4 f5 f6 f7 f8 f9 f10 f11 f12 f13 f14 f15 f16 f17 f18 f19 f20 f21 f22 f23 | clear f0 f1 f2 f3 f4 f5 f6 f7 f8 f9 f10 f11 f12 f13 f14 f15 f16 f17 | skip
      go_wp2_with (fail)
      go_meet
      case rel => first
        | with_reducible exact twoAr_D hw2 (.int .i64 (first : Int)) (.int .i64 (seqO x : Int)) (.int .i64 (sizO x : Int)) (.int .i64 ((first : Int) + (count : Int))) (.int .i64 (seqO y : Int)) (.int .i64 (sizO y : Int))
        | with_reducible exact twoAr_E hw2 (.int .i64 (first : Int)) (.int .i64 (seqO x : Int)) (.int .i64 (sizO x : Int)) (.int .i64 ((first : Int) + (count : Int))) (.int .i64 (seqO y : Int)) (.int .i64 (sizO y : Int))
        | with_reducible exact twoAr_B hw2 hx4 (by have h1 := hw1.size; have h2 := hw2.size; omega) (.int .i64 (first : Int)) (.int .i64 (seqO x : Int)) (.int .i64 (sizO x : Int)) (.int .i64 ((first : Int) + (count : Int))) (.int .i64 (seqO y : Int)) (.int .i64 (sizO y : Int))
        | with_reducible exact twoAr_C hw2 hx4 (by have h1 := hw1.size; have h2 := hw2.size; omega) (.int .i64 (first : Int)) (.int .i64 (seqO x : Int)) (.int .i64 (sizO x : Int)) (.int .i64 ((first : Int) + (count : Int))) (.int .i64 (seqO y : Int)) (.int .i64 (sizO y : Int))
        | with_reducible exact twoAr_of hw2 hx4 hx5 (by first | omega | (have h3 := heap_lt hx; omega)) (by have h1 := hw1.size; have h2 := hw2.size; omega) (by have h1 := hw1.size; have h2 := hw2.size; omega) (.int .i64 (first : Int)) (.int .i64 (seqO x : Int)) (.int .i64 (sizO x : Int)) (.int .i64 ((first : Int) + (count : Int))) (.int .i64 (seqO y : Int)) (.int .i64 (sizO y : Int))
        | with_reducible exact twoAr_of hw2 hx5 hx4 (by first | omega | (have h3 := heap_lt hx; omega)) (by have h1 := hw1.size; have h2 := hw2.size; omega) (by have h1 := hw1.size; have h2 := hw2.size; omega) (.int .i64 (first : Int)) (.int .i64 (seqO x : Int)) (.int .i64 (sizO x : Int)) (.int .i64 ((first : Int) + (count : Int))) (.int .i64 (seqO y : Int)) (.int .i64 (sizO y : Int))
end
end Go.Proofs.Ytdjcpjfomgfjlaa
