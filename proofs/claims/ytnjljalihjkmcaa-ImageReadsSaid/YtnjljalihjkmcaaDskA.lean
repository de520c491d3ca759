/- A disk in memory: what its block and its two maps hold. New, diskOf, Size, Steps, dead, has, step, Arm. -/
import Derived.Test.YtnjljalihjkmcaaProg
import Derived.Test.YtnjljalihjkmcaaMem
import Derived.Test.YtnjljalihjkmcaaFr
import Derived.WalkKit
import Derived.WalkSpells
import Derived.WalkLawsBesides
import Derived.Carry
import Derived.Maps.Own
import Derived.Maps.OwnSet
import Derived.Maps.Views
import Derived.Deep.QuietTactic
import Derived.BigQuiet
import Derived.KernelRfl
import Derived.Lib.Hide
namespace Go.Proofs.Ytnjljalihjkmcaa
open Go.RowKit Go.Maps

theorem keyZ : Maps.Keyed Try.prog 3 := Maps.int_keyed Try.underlying3

open Classical in
/-- How a sector reads: as its bytes. -/
noncomputable def secR (v : Value) : Option (DataW Unit × List MemPlace) :=
  if h : ∃ l : List UInt8, l.length = 64 ∧ v = .agg (u8s l).toArray then some (.lit (.string h.choose), []) else none
theorem secR_mk (l : List UInt8) (hl : l.length = 64) : secR (.agg (u8s l).toArray) = some (.lit (.string l), []) := by
  unfold secR
  have h : ∃ l' : List UInt8, l'.length = 64 ∧ Value.agg (u8s l).toArray = .agg (u8s l').toArray := ⟨l, hl, rfl⟩
  rw [dif_pos h]
  have h2 := h.choose_spec.2
  injection h2 with h3
  have h4 : u8s l = u8s h.choose := by
    have := congrArg Array.toList h3
    simpa using this
  rw [← u8s_inj h4]
theorem secR_inv {v : Value} {d : DataW Unit} {ps : List MemPlace} (h : secR v = some (d, ps)) : ∃ l : List UInt8, l.length = 64 ∧ v = .agg (u8s l).toArray ∧ d = .lit (.string l) ∧ ps = [] := by
  unfold secR at h
  split at h
  · rename_i hx
    injection h with h
    injection h with h1 h2
    exact ⟨hx.choose, hx.choose_spec.1, hx.choose_spec.2, h1.symm, h2.symm⟩
  · cases h

/-- The numbers of sectors, as keys. -/
def kz (i : Int) : Lit := .int .i64 i
theorem kz_of (i : Int) (h0 : -9223372036854775808 ≤ i) (h1 : i ≤ 9223372036854775807) : keyOf Try.prog 3 (.int .i64 i) = some (kz i) := by
  refine Maps.keyOf_int_mk Try.underlying3 ?_
  have b1 : IntKind.i64.min = -9223372036854775808 := by decide +kernel
  have b2 : IntKind.i64.max = 9223372036854775807 := by decide +kernel
  simp [Lit.wf]
  omega
theorem kz_ne {i j : Int} (h : i ≠ j) : kz i ≠ kz j := fun e => h (by unfold kz at e; injection e)
def zero64 : List UInt8 := List.replicate 64 0

/-- A disk: its size, what is sure, what was written since, the steps, whether it is armed, what is left. -/
structure DK where
  size : Int
  sure : DataW Unit
  wr : DataW Unit
  steps : Int
  armed : Bool
  left : Int
def DK.cells (D : DK) (bs bw : Nat) : Array Value := #[.int .i64 D.size, .map (some bs), .map (some bw), .int .i64 D.steps, .bool D.armed, .int .i64 D.left]

/-- It lies at block p; T: how often it was written, at most. -/
def DiskAt (w : World) (p bs bw : Nat) (D : DK) (T : Nat) : Prop :=
  w.heap[p]? = some (.cells (D.cells bs bw) 105 (0, 0)) ∧ bs ≠ bw ∧ ∃ ns nw, w.ownsMap Try.prog 3 secR bs ns D.sure ∧ w.ownsMap Try.prog 3 secR bw nw D.wr ∧ ns + nw ≤ T

theorem DiskAt.lt {w : World} {p bs bw T : Nat} {D : DK} (h : DiskAt w p bs bw D T) : p < w.heap.size ∧ bs < w.heap.size ∧ bw < w.heap.size := by
  obtain ⟨h1, _, ns, nw, h2, h3, _⟩ := h
  exact ⟨(Array.getElem?_eq_some_iff.1 h1).1, h2.lt, h3.lt⟩
theorem map_below {w w' : World} {b n B : Nat} {D : DataW Unit} (h : w.ownsMap Try.prog 3 secR b n D) (hb : Below B w w') (hB : b < B) : w'.ownsMap Try.prog 3 secR b n D := by
  obtain ⟨es, clock, h1, F, hs, hD⟩ := h
  exact ⟨es, clock, (hb.block b hB).trans h1, F, hs, hD⟩
theorem DiskAt.below {w w' : World} {p bs bw T B : Nat} {D : DK} (h : DiskAt w p bs bw D T) (hb : Below B w w') (hp : p < B) (hs : bs < B) (hw : bw < B) : DiskAt w' p bs bw D T := by
  obtain ⟨h1, hne, ns, nw, h2, h3, h4⟩ := h
  exact ⟨(hb.block p hp).trans h1, hne, ns, nw, map_below h2 hb hs, map_below h3 hb hw, h4⟩

set_option maxRecDepth 100000 in
theorem size_any (p bs bw T : Nat) (D : DK) (w : World) (h : DiskAt w p bs bw D T) :
    Calls Try.prog 44 #[.pointer (some ⟨p, 0, none⟩)] w fun e w' => e = .returned (.int .i64 D.size) ∧ w = w' := by
  have hg := h.1
  unfold DK.cells at hg
  have a0 := cell_of_row w p 0 _ _ _ hg
  clear h hg
  go_enter Try.func44, Try.ntmps44
  go_wp2
  go_ret
  exact ⟨rfl, rfl⟩
set_option maxRecDepth 100000 in
theorem steps_any (p bs bw T : Nat) (D : DK) (w : World) (h : DiskAt w p bs bw D T) :
    Calls Try.prog 41 #[.pointer (some ⟨p, 0, none⟩)] w fun e w' => e = .returned (.int .i64 D.steps) ∧ w = w' := by
  have hg := h.1
  unfold DK.cells at hg
  have a3 := cell_of_row w p 3 _ _ _ hg
  clear h hg
  go_enter Try.func41, Try.ntmps41
  go_wp2
  go_ret
  exact ⟨rfl, rfl⟩
/-- Is it dead? -/
def DK.dead (D : DK) : Bool := D.armed && (D.left == 0)
set_option maxRecDepth 100000 in
theorem dead_any (p bs bw T : Nat) (D : DK) (w : World) (h : DiskAt w p bs bw D T) :
    Calls Try.prog 57 #[.pointer (some ⟨p, 0, none⟩)] w fun e w' => e = .returned (.bool D.dead) ∧ w = w' := by
  have hg := h.1
  unfold DK.cells at hg
  have a4 := cell_of_row w p 4 _ _ _ hg
  have a5 := cell_of_row w p 5 _ _ _ hg
  clear h hg
  obtain ⟨z, s, wr, st, ar, lf⟩ := D
  unfold DK.dead
  cases ar with
  | false =>
    go_enter Try.func57, Try.ntmps57
    go_wp2
    go_ret
    exact ⟨rfl, rfl⟩
  | true =>
    go_enter Try.func57, Try.ntmps57
    go_wp2
    go_ret
    exact ⟨by simp, rfl⟩
set_option maxRecDepth 100000 in
theorem has_any (p bs bw T : Nat) (D : DK) (i : Int) (w : World) (h : DiskAt w p bs bw D T) :
    Calls Try.prog 58 #[.pointer (some ⟨p, 0, none⟩), .int .i64 i] w fun e w' => e = .returned (.bool (decide (0 ≤ i ∧ i < D.size))) ∧ w = w' := by
  have hg := h.1
  unfold DK.cells at hg
  have a0 := cell_of_row w p 0 _ _ _ hg
  clear h hg
  obtain ⟨b, hb⟩ : ∃ b, b = decide (0 ≤ i ∧ i < D.size) := ⟨_, rfl⟩
  rw [← hb]
  have HQ := Lib.hid hb
  clear hb
  by_cases h0 : 0 ≤ i
  · by_cases h1 : i < D.size
    · have hbt : b = true := HQ.out.trans (decide_eq_true ⟨h0, h1⟩)
      subst hbt
      go_enter Try.func58, Try.ntmps58
      go_wp2
      go_ret
      exact ⟨rfl, rfl⟩
    · have hbt : b = false := HQ.out.trans (decide_eq_false (fun h => h1 h.2))
      subst hbt
      go_enter Try.func58, Try.ntmps58
      go_wp2
      go_ret
      exact ⟨rfl, rfl⟩
  · have hbt : b = false := HQ.out.trans (decide_eq_false (fun h => h0 h.1))
    subst hbt
    go_enter Try.func58, Try.ntmps58
    go_wp2
    go_ret
    exact ⟨rfl, rfl⟩
end Go.Proofs.Ytnjljalihjkmcaa
