/- The document's disk: how it lies, a step. -/
import Derived.Test.YtnjljalihjkmcaaDskB
import Derived.Deep.RegionWith
import Derived.Deep.OwnRows
namespace Go.Proofs.Ytnjljalihjkmcaa
open Go.RowKit Go.Maps

def strs (L : List (List UInt8)) : List Value := L.map fun l => .string ⟨l.toArray⟩
def bools (L : List Bool) : List Value := L.map Value.bool
@[simp] theorem strs_len (L : List (List UInt8)) : (strs L).length = L.length := by simp [strs]
@[simp] theorem bools_len (L : List Bool) : (bools L).length = L.length := by simp [bools]
/-- The document's disk, as lists. -/
structure RD where
  sure : List (List UInt8)
  now : List (List UInt8)
  fresh : List Bool
  steps : Int
  left : Int
/-- Other blocks may be named that weren't there yet. -/
theorem Sl.turn {w w' : World} {X Y : List Nat} {A : Option Addr} {xs : List Value} (h : Sl w X A xs) (hb : Below w.heap.size w w') (hY : ∀ y ∈ Y, w.heap.size ≤ y) : Sl w' (Y) A xs ∨ xs = [] := by
  by_cases hn : xs = []
  · exact .inr hn
  · left
    obtain ⟨b, o, e, hlt, hc⟩ := h.1 hn
    refine ⟨(h.below hb).1, fun a ha => ?_⟩
    rw [e] at ha
    cases ha
    exact fun hy => by have := hY b hy; omega
/-- The value v is the document's disk R. -/
def RefV (w : World) (X : List Nat) (R : RD) (v : Value) : Prop :=
  ∃ A1 A2 A3 c1 c2 c3, v = .agg #[.slice A1 R.sure.length c1, .slice A2 R.now.length c2, .slice A3 R.fresh.length c3, .int .i64 R.steps, .int .i64 R.left] ∧ Sl w X A1 (strs R.sure) ∧ Sl w X A2 (strs R.now) ∧ Sl w X A3 (bools R.fresh)
theorem RefV.below {w w' : World} {X : List Nat} {R : RD} {v : Value} (h : RefV w X R v) (hb : Below w.heap.size w w') : RefV w' X R v := by
  obtain ⟨A1, A2, A3, c1, c2, c3, rfl, h1, h2, h3⟩ := h
  exact ⟨A1, A2, A3, c1, c2, c3, rfl, h1.below hb, h2.below hb, h3.below hb⟩
theorem RefV.fr {w w' : World} {X S : List Nat} {R : RD} {v : Value} (h : RefV w X R v) (hf : Fr w w' S) (hS : ∀ x ∈ S, x ∈ X) : RefV w' X R v := by
  obtain ⟨A1, A2, A3, c1, c2, c3, rfl, h1, h2, h3⟩ := h
  exact ⟨A1, A2, A3, c1, c2, c3, rfl, h1.fr hf hS, h2.fr hf hS, h3.fr hf hS⟩

theorem set5 {w : World} {b : Nat} {t : TypeId} {x0 x1 x2 x3 x4 : Value} (h : w.heap[b]? = some (.cells #[x0, x1, x2, x3, x4] t (0, 0))) (v0 v1 v2 v3 v4 : Value) :
    (((((w.setCell ⟨b, 0, none⟩ v0).setCell ⟨b, 1, none⟩ v1).setCell ⟨b, 2, none⟩ v2).setCell ⟨b, 3, none⟩ v3).setCell ⟨b, 4, none⟩ v4).heap[b]? = some (.cells #[v0, v1, v2, v3, v4] t (0, 0)) := by
  have h1 := heap_setCell_same w b 0 #[x0, x1, x2, x3, x4] t v0 h
  have h2 := heap_setCell_same _ b 1 _ t v1 h1
  have h3 := heap_setCell_same _ b 2 _ t v2 h2
  have h4 := heap_setCell_same _ b 3 _ t v3 h3
  have h5 := heap_setCell_same _ b 4 _ t v4 h4
  simpa using h5

theorem resStep {w : World} {b : Nat} {v0 v1 v2 v3 v4 : Value} (h : w.heap[b]? = some (.cells #[v0, v1, v2, v3, v4] 33 (0, 0))) (tmps : Array Value) (h2 : tmps.getD 2 undef = .pointer (some ⟨b, 0, none⟩)) :
    (results Try.f60 tmps).run Try.prog w = .ok (.tuple #[.agg #[v0, v1, v2, v3, v4], tmps.getD 3 undef]) w := by
  have e0 : w.cell? ⟨b, 0, none⟩ = some v0 := cell_of_row w b 0 _ _ _ h
  have e1 : w.cell? ⟨b, 1, none⟩ = some v1 := cell_of_row w b 1 _ _ _ h
  have e2 : w.cell? ⟨b, 2, none⟩ = some v2 := cell_of_row w b 2 _ _ _ h
  have e3 : w.cell? ⟨b, 3, none⟩ = some v3 := cell_of_row w b 3 _ _ _ h
  have e4 : w.cell? ⟨b, 4, none⟩ = some v4 := cell_of_row w b 4 _ _ _ h
  have h2' := h2
  simp only [Array.getD_eq_getD_getElem?] at h2'
  simp [results, Try.results60, go_sem, h2', e0, e1, e2, e3, e4]

theorem below2 (w : World) (o o' : Obj) : Below w.heap.size w ((w.alloc o).alloc o') := ((Below.refl _ w).alloc (Nat.le_refl _) o).alloc (by simp) o'
def dv (A1 A2 A3 : Option Addr) (n1 n2 n3 c1 c2 c3 : Nat) (s l : Int) : Value := .agg #[.slice A1 n1 c1, .slice A2 n2 c2, .slice A3 n3 c3, .int .i64 s, .int .i64 l]
theorem lastAgg (w : World) (v0 v1 v2 v3 v4 : Value) : ((w.alloc (.cells #[v0, v1, v2, v3, v4] 33)).alloc (.cells #[v0, v1, v2, v3, v4] 33)).heap[w.heap.size + 1]? = some (.cells #[v0, v1, v2, v3, v4] 33 (0, 0)) := by
  have := heap_alloc_new (w.alloc (.cells #[v0, v1, v2, v3, v4] 33)) (.cells #[v0, v1, v2, v3, v4] 33)
  rw [alloc1_size] at this
  exact this
def stepS (s l : Int) : Int := if l = 0 then s else s + 1
def stepL (l : Int) : Int := if l = 0 then 0 else if 0 < l then l - 1 else l
set_option maxRecDepth 100000 in
set_option maxHeartbeats 1000000 in
theorem rstep_any (w : World) (A1 A2 A3 : Option Addr) (n1 n2 n3 c1 c2 c3 : Nat) (s l : Int) (hl : -1 ≤ l ∧ l ≤ 9223372036854775807) (hs : 0 ≤ s ∧ s ≤ 1000000000) :
    Calls Try.prog 60 #[dv A1 A2 A3 n1 n2 n3 c1 c2 c3 s l] w fun e w' => e = .returned (.tuple #[dv A1 A2 A3 n1 n2 n3 c1 c2 c3 (stepS s l) (stepL l), .bool (!decide (l = 0))]) ∧ Below w.heap.size w w' := by
  unfold dv
  have hst : wrap64 (s + 1) = s + 1 := by unfold wrap64; omega
  by_cases h0 : l = 0
  · rw [show stepS s l = s from if_pos h0, show stepL l = 0 from if_pos h0, decide_eq_true h0]
    go_enter Try.func60, Try.ntmps60
    go_wp2
    exact bodyPost_ret (resStep (lastAgg _ _ _ _ _ _) _ rfl) rfl ⟨rfl, below2 _ _ _⟩
  · rw [show stepS s l = s + 1 from if_neg h0, show stepL l = (if 0 < l then l - 1 else l) from if_neg h0, decide_eq_false h0]
    by_cases hp : 0 < l
    · rw [if_pos hp]
      have hlt : wrap64 (l - 1) = l - 1 := by unfold wrap64; omega
      go_enter Try.func60, Try.ntmps60
      go_wp2
      exact bodyPost_ret (resStep (lastAgg _ _ _ _ _ _) _ rfl) rfl ⟨rfl, below2 _ _ _⟩
    · rw [if_neg hp]
      go_enter Try.func60, Try.ntmps60
      go_wp2
      exact bodyPost_ret (resStep (lastAgg _ _ _ _ _ _) _ rfl) rfl ⟨rfl, below2 _ _ _⟩

/-- Numbers that the document's disk may have. -/
structure RD.Ok (R : RD) : Prop where
  n : R.now.length ≤ 4096
  sure : R.sure.length = R.now.length
  fresh : R.fresh.length = R.now.length
  steps : 0 ≤ R.steps ∧ R.steps ≤ 1000000000
  left : -1 ≤ R.left ∧ R.left ≤ 9223372036854775807
theorem refV_dv {w : World} {X : List Nat} {R : RD} {v : Value} (h : RefV w X R v) : ∃ A1 A2 A3 c1 c2 c3, v = dv A1 A2 A3 R.sure.length R.now.length R.fresh.length c1 c2 c3 R.steps R.left ∧ Sl w X A1 (strs R.sure) ∧ Sl w X A2 (strs R.now) ∧ Sl w X A3 (bools R.fresh) := h

theorem resArm {w : World} {b : Nat} {v0 v1 v2 v3 v4 : Value} (h : w.heap[b]? = some (.cells #[v0, v1, v2, v3, v4] 33 (0, 0))) (tmps : Array Value) (h2 : tmps.getD 4 undef = .pointer (some ⟨b, 0, none⟩)) :
    (results Try.f20 tmps).run Try.prog w = .ok (.tuple #[.agg #[v0, v1, v2, v3, v4], tmps.getD 5 undef]) w := by
  have e0 : w.cell? ⟨b, 0, none⟩ = some v0 := cell_of_row w b 0 _ _ _ h
  have e1 : w.cell? ⟨b, 1, none⟩ = some v1 := cell_of_row w b 1 _ _ _ h
  have e2 : w.cell? ⟨b, 2, none⟩ = some v2 := cell_of_row w b 2 _ _ _ h
  have e3 : w.cell? ⟨b, 3, none⟩ = some v3 := cell_of_row w b 3 _ _ _ h
  have e4 : w.cell? ⟨b, 4, none⟩ = some v4 := cell_of_row w b 4 _ _ _ h
  have h2' := h2
  simp only [Array.getD_eq_getD_getElem?] at h2'
  simp [results, Try.results20, go_sem, h2', e0, e1, e2, e3, e4]
def RD.armE (R : RD) (n : Int) : Int := if n < 0 then 1 else if R.left = 0 then 30 else 0
def RD.armM (R : RD) (n : Int) : RD := if n < 0 then R else if R.left = 0 then R else { R with left := n }
set_option maxRecDepth 100000 in
set_option maxHeartbeats 1000000 in
theorem rarm_any (w : World) (X : List Nat) (R : RD) (v : Value) (h : RefV w X R v) (n : Int) :
    Calls Try.prog 20 #[v, .int .i64 n] w fun e w' => ∃ v', e = .returned (.tuple #[v', .int .i64 (R.armE n)]) ∧ RefV w' X (R.armM n) v' ∧ Below w.heap.size w w' := by
  have hh := h
  obtain ⟨A1, A2, A3, c1, c2, c3, rfl, h1, h2, h3⟩ := h
  unfold RD.armE RD.armM
  by_cases hn : n < 0
  · rw [if_pos hn, if_pos hn]
    go_enter Try.func20, Try.ntmps20
    go_wp2
    exact bodyPost_ret (resArm (lastAgg _ _ _ _ _ _) _ rfl) rfl ⟨_, rfl, hh.below (below2 _ _ _), below2 _ _ _⟩
  · rw [if_neg hn, if_neg hn]
    by_cases h0 : R.left = 0
    · rw [if_pos h0, if_pos h0]
      go_enter Try.func20, Try.ntmps20
      go_wp2
      exact bodyPost_ret (resArm (lastAgg _ _ _ _ _ _) _ rfl) rfl ⟨_, rfl, by rw [h0] at hh; exact hh.below (below2 _ _ _), below2 _ _ _⟩
    · rw [if_neg h0, if_neg h0]
      go_enter Try.func20, Try.ntmps20
      go_wp2
      exact bodyPost_ret (resArm (lastAgg _ _ _ _ _ _) _ rfl) rfl ⟨_, rfl, RefV.below (w := w) ⟨A1, A2, A3, c1, c2, c3, rfl, h1, h2, h3⟩ (below2 _ _ _), below2 _ _ _⟩
end Go.Proofs.Ytnjljalihjkmcaa
