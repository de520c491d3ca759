/- A disk's Flush. -/
import Derived.Test.YtnjljalihjkmcaaDskF
namespace Go.Proofs.Ytnjljalihjkmcaa
open Go.RowKit Go.Maps

/-- clear of a map. -/
theorem clear_run {k e t : TypeId} {P : Program} {R : Value → Option (DataW Unit × List MemPlace)} {w : World} {b n : Nat} {D : DataW Unit} (h : w.ownsMap P k R b n D) (ht : P.underlying t = some (.map k e)) (ty : TypeId) :
    ∃ w', (Builtin.clear_ #[t] ty #[.map (some b)]).run P w = .ok (.tuple #[]) w' ∧ w'.ownsMap P k R b 0 (.map []) ∧ w.grownBy w' (some b) := by
  obtain ⟨es, clock, hb, F, hs, rfl⟩ := h
  refine ⟨{ w with heap := w.heap.setIfInBounds b (.map #[] clock) }, ?_, ⟨#[], clock, ?_, ⟨by simp, MapKept.stamped_empty clock, by simp⟩, Nat.le_refl _, rfl⟩, ⟨rfl, rfl, rfl, by simp, fun i _ hi => ?_⟩⟩
  · simp [Builtin.clear_, run_underlying ht, MapKept.run_getObj_map hb, MapKept.run_setObj_map _ hb, Result.andThen]
  · have hlt := (Array.getElem?_eq_some_iff.1 hb).1
    simp [hlt]
  · have hne : b ≠ i := fun e => hi (by rw [e])
    simp [hne]
theorem wpList_clear_own {P : Program} {ops : Array Oper} {rest : List Oper} {o : Oper} {a : Act} {Q : Exit → Act → World → Prop} (w : World) (hg : o.guard = none) (m : Operand) (t : TypeId) (hop : o.op = Op.call { callee := Callee.builtin Builtin.clear, args := #[m], argTypes := #[t] })
    (k e : TypeId) (ht : P.underlying t = some (.map k e)) (R : Value → Option (DataW Unit × List MemPlace)) (b n : Nat) (D : DataW Unit) (hm : a.eval m = .map (some b)) (hown : w.ownsMap P k R b n D)
    (hK : ∀ w', w'.ownsMap P k R b 0 (.map []) → w.grownBy w' (some b) → wpList P ops Q rest (a.put o.dst (.tuple #[])) w') :
    wpList P ops Q (o :: rest) a w := by
  refine wpList_plain hg fun K' hK' => ?_
  obtain ⟨w', hrun, r1, r2⟩ := clear_run hown ht o.type
  unfold Oper.wp
  simp [execOp, hop, resolve, invoke, builtin, hm, hrun, Result.andThen]
  exact hK' _ _ (hK w' r1 r2)

theorem flush_cell {w1 w2 : World} {p bs bw : Nat} {D : DK} (hg : w1.heap[p]? = some (.cells (D.cells bs bw) 105)) (hp : p < w1.heap.size) (hne : p ≠ bs) (hgr : w1.drew.grownBy w2 (some bs)) : w2.cell? ⟨p, 2, none⟩ = some (.map (some bw)) := by
  have h2 : w2.heap[p]? = some (.cells (D.cells bs bw) 105) := (hgr.block p hp (fun e => hne (Option.some.inj e))).trans hg
  unfold DK.cells at h2
  exact cell_of_row w2 p 2 _ _ _ h2
/-- A disk behind a flush that is done. -/
def DK.flushed (D : DK) : DK := { D.stepped with sure := Lib.mergeD D.sure D.wr, wr := .map [] }
set_option maxRecDepth 100000 in
set_option maxHeartbeats 1000000 in
theorem flush_dead (p bs bw T : Nat) (D : DK) (w : World) (h : DiskAt w p bs bw D T) (hd : D.dead = true) (hl : 0 ≤ D.left ∧ D.left ≤ 9223372036854775807) (hs : 0 ≤ D.steps ∧ D.steps ≤ 1000000000) :
    Calls Try.prog 77 #[.pointer (some ⟨p, 0, none⟩)] w fun e w' => e = .returned (.int .i64 30) ∧ w = w' := by
  have hst : Calls Try.prog 59 #[.pointer (some ⟨p, 0, none⟩)] w fun e w' => e = .returned (.int .i64 30) ∧ w = w' := (step_any p bs bw T D w h hl hs).mono (by
    rintro e w' (⟨_, h2⟩ | ⟨h1, _⟩)
    · exact h2
    · rw [hd] at h1; cases h1)
  have HS := Lib.hid hst
  clear hst h hd hl hs
  go_enter Try.func77, Try.ntmps77
  go_wp2_with (go_at_call 59; (with_reducible refine HS.out.mono ?_); rintro e w' ⟨rfl, rfl⟩)
  go_ret
  exact ⟨rfl, rfl⟩

set_option maxRecDepth 100000 in
set_option maxHeartbeats 1000000 in
theorem flush_any (p bs bw T : Nat) (D : DK) (w : World) (h : DiskAt w p bs bw D T) (hd : D.dead = false) (hl : 0 ≤ D.left ∧ D.left ≤ 9223372036854775807) (hs : 0 ≤ D.steps ∧ D.steps ≤ 1000000000) (hT : T ≤ 1000000000) :
    Calls Try.prog 77 #[.pointer (some ⟨p, 0, none⟩)] w fun e w' => e = .returned (.int .i64 0) ∧ DiskAt w' p bs bw D.flushed T ∧ Fr w w' [p, bs, bw] := by
  have hst : Calls Try.prog 59 #[.pointer (some ⟨p, 0, none⟩)] w fun e w' => e = .returned (.int .i64 0) ∧ DiskAt w' p bs bw D.stepped T ∧ Fr w w' [p] := (step_any p bs bw T D w h hl hs).mono (by
    rintro e w' (⟨h1, _⟩ | ⟨_, h2⟩)
    · rw [hd] at h1; cases h1
    · exact h2)
  have HT := Lib.hid hT
  have HS := Lib.hid hst
  clear hst h hd hl hs hT
  go_enter Try.func77, Try.ntmps77
  go_wp2_with (go_at_call 59; (with_reducible refine HS.out.mono ?_); rintro e w1 ⟨rfl, hD, hF⟩)
  have hap := hD.apart
  obtain ⟨hg, hne, ns, nw, h2, h3, h4⟩ := hD
  have hp := (Array.getElem?_eq_some_iff.1 hg).1
  have hT := HT.out
  have hsz := h3.size_le
  have hml : (1000000000 : Nat) ≤ maxLen := by decide
  have hcp := copy_any bs bw ns nw D.stepped.sure D.stepped.wr w1.drew h2 h3 hne (by omega)
  have hgc := hg
  unfold DK.cells at hgc
  have a1 := cell_of_row w1 p 1 _ _ _ hgc
  have a2 := cell_of_row w1 p 2 _ _ _ hgc
  have HG := Lib.hid hg
  have HC := Lib.hid hcp
  have HA := Lib.hid hap
  have HN := Lib.hid (And.intro (And.intro h4 hsz) (And.intro hp hF))
  clear hg hcp hgc h2 h3 h4 hT hsz hml hp hF hap hne
  go_still_tail 8, (by kernel_rfl)
  change wpList _ _ _ _ _ w1.drew
  go_wp2_with (first
    | (go_at_call 88; (with_reducible refine HC.out.mono ?_); rintro e w2 ⟨rfl, hs2, hw2, hgr2⟩; have hb2 := flush_cell HG.out HN.out.2.1 HA.out.1 hgr2)
    | (refine wpList_clear_own w2 rfl _ _ rfl 3 109 Try.underlying88 secR bw nw _ rfl hw2 ?_; intro w3 hw3 hgr3)
    | go_in)
  go_ret
  refine ⟨rfl, ?_⟩
  obtain ⟨⟨h4, hsz⟩, hp, hF⟩ := HN.out
  obtain ⟨n1, n2, n3⟩ := HA.out
  have hf2 : Fr w1 w2 [bs] := ((Fr.refl w1 [bs]).drew).trans (Fr.of_grown hgr2)
  have hf3 : Fr w1 w3 [bs, bw] := (hf2.mono (by simp)).trans ((Fr.of_grown hgr3).mono (by simp))
  refine ⟨⟨?_, n3, ns + size D.stepped.wr, 0, map_fr hs2 (Fr.of_grown hgr3) (by simp; exact n3), hw3, by omega⟩, (hF.mono (by simp)).trans (hf3.mono (by simp))⟩
  rw [hf3.block p hp (by simp; exact ⟨n1, n2⟩)]
  exact HG.out
end Go.Proofs.Ytnjljalihjkmcaa
