/- A disk's Write. -/
import Derived.Test.YtnjljalihjkmcaaDskC
import Derived.Deep.MidRow
import Derived.StillTailTactics
namespace Go.Proofs.Ytnjljalihjkmcaa
open Go.RowKit Go.Maps

theorem info_sec : (Try.prog.info? 109).map (fun i => (i.zero, i.size)) = some (some (Value.agg (u8s zero64).toArray), 64) := by kernel_rfl
theorem size_sec : (Try.prog.info? 109).map (·.size) = some 64 := by kernel_rfl
/-- A load in a region that draws, by its run. -/
theorem wpStill_load {P : Program} {ops : Array Oper} {w : World} {Q : Act → Prop} {a : Act} {o : Oper} {rest : List Oper} (ty : TypeId) (x : Operand) (ho : o.op = .load ty x) (pv v : Value) (hx : a.eval x = pv) (hr : (Instr.loadAt ty pv).run P w = .ok v w) (hw : Region.wanted o (yielded ops a.tmps) = true) (h : wpStill P ops w Q rest (a.put o.dst v)) : wpStill P ops w Q (o :: rest) a := by
  refine wpStill_step fun K hK => ?_
  rw [if_pos hw]
  unfold Oper.still execOp
  simp only [ho, hx, Sem.run_bind, hr, Result.andThen_ok, Sem.run_pure, Oper.stillUpon_value]
  exact hK _ h

/-- A disk behind a write that is done. -/
def DK.written (D : DK) (i : Int) (l : List UInt8) : DK := { D.stepped with wr := D.wr.put (kz i) (.lit (.string l)) }
set_option maxRecDepth 100000 in
set_option maxHeartbeats 1000000 in
theorem write_bad (p bs bw T : Nat) (D : DK) (i : Int) (a : Option Addr) (n c : Nat) (w : World) (h : DiskAt w p bs bw D T) (hbad : ¬ (0 ≤ i ∧ i < D.size) ∨ n ≠ 64) :
    Calls Try.prog 21 #[.pointer (some ⟨p, 0, none⟩), .int .i64 i, .slice a n c] w fun e w' => e = .returned (.int .i64 1) ∧ w = w' := by
  have hh := has_any p bs bw T D i w h
  clear h
  obtain ⟨b, hb⟩ : ∃ b, b = decide (0 ≤ i ∧ i < D.size) := ⟨_, rfl⟩
  rw [← hb] at hh
  have HH := Lib.hid hh
  clear hh
  cases b with
  | false =>
    clear hb hbad
    go_enter Try.func21, Try.ntmps21
    go_wp2_with (go_at_call 58; (with_reducible refine HH.out.mono ?_); rintro e w' ⟨rfl, rfl⟩)
    go_ret
    exact ⟨rfl, rfl⟩
  | true =>
    have hn : n ≠ 64 := hbad.resolve_left (fun hx => hx (of_decide_eq_true hb.symm))
    have hn' : ¬ ((n : Int) = 64) := fun e => hn (by omega)
    clear hb hbad hn
    go_enter Try.func21, Try.ntmps21
    go_wp2_with (go_at_call 58; (with_reducible refine HH.out.mono ?_); rintro e w' ⟨rfl, rfl⟩)
    go_ret
    exact ⟨rfl, rfl⟩
set_option maxRecDepth 100000 in
set_option maxHeartbeats 1000000 in
theorem write_dead (p bs bw T : Nat) (D : DK) (i : Int) (a : Option Addr) (c : Nat) (w : World) (h : DiskAt w p bs bw D T) (hi : 0 ≤ i ∧ i < D.size) (hd : D.dead = true) (hl : 0 ≤ D.left ∧ D.left ≤ 9223372036854775807) (hs : 0 ≤ D.steps ∧ D.steps ≤ 1000000000) :
    Calls Try.prog 21 #[.pointer (some ⟨p, 0, none⟩), .int .i64 i, .slice a 64 c] w fun e w' => e = .returned (.int .i64 30) ∧ w = w' := by
  have hh := has_any p bs bw T D i w h
  rw [decide_eq_true hi] at hh
  have hst : Calls Try.prog 59 #[.pointer (some ⟨p, 0, none⟩)] w fun e w' => e = .returned (.int .i64 30) ∧ w = w' := (step_any p bs bw T D w h hl hs).mono (by
    rintro e w' (⟨_, h2⟩ | ⟨h1, _⟩)
    · exact h2
    · rw [hd] at h1; cases h1)
  have HH := Lib.hid hh
  have HS := Lib.hid hst
  clear hh hst h hd hl hs hi
  go_enter Try.func21, Try.ntmps21
  go_wp2_with (first
    | (go_at_call 58; (with_reducible refine HH.out.mono ?_); rintro e w' ⟨rfl, rfl⟩)
    | (go_at_call 59; (with_reducible refine HS.out.mono ?_); rintro e w' ⟨rfl, rfl⟩))
  go_ret
  exact ⟨rfl, rfl⟩

set_option maxRecDepth 100000 in
set_option maxHeartbeats 1000000 in
theorem write_any (p bs bw T : Nat) (D : DK) (i : Int) (sb so : Nat) (c : Nat) (l : List UInt8) (w : World) (h : DiskAt w p bs bw D T) (hi : 0 ≤ i ∧ i < D.size) (hd : D.dead = false) (hl : 0 ≤ D.left ∧ D.left ≤ 9223372036854775807) (hs : 0 ≤ D.steps ∧ D.steps ≤ 1000000000)
    (hz : D.size ≤ 4096) (hT : T ≤ 1000000000) (hL : l.length = 64) (hr : w.rangeAt sb so (u8s l)) (hsp : sb ≠ p) :
    Calls Try.prog 21 #[.pointer (some ⟨p, 0, none⟩), .int .i64 i, .slice (some ⟨sb, so, none⟩) 64 c] w fun e w' => e = .returned (.int .i64 0) ∧ DiskAt w' p bs bw (D.written i l) (T + 1) ∧ Fr w w' [p, bw] := by
  have hh := has_any p bs bw T D i w h
  rw [decide_eq_true hi] at hh
  have hst : Calls Try.prog 59 #[.pointer (some ⟨p, 0, none⟩)] w fun e w' => e = .returned (.int .i64 0) ∧ DiskAt w' p bs bw D.stepped T ∧ Fr w w' [p] := (step_any p bs bw T D w h hl hs).mono (by
    rintro e w' (⟨h1, _⟩ | ⟨_, h2⟩)
    · rw [hd] at h1; cases h1
    · exact h2)
  have hkey := kz_of i (by omega) (by omega)
  have hsec := secR_mk l hL
  have HK := Lib.hid hkey
  have HC := Lib.hid hsec
  have HR := Lib.hid hr
  have HL := Lib.hid hL
  have HT := Lib.hid hT
  have HH := Lib.hid hh
  have HS := Lib.hid hst
  clear hh hst h hd hl hs hi hz hkey hsec hr hT hL
  have hA : ∀ w : World, (Instr.arrayAt 109 (.slice (some ⟨sb, so, none⟩) 64 c)).run Try.prog w = .ok (.pointer (some ⟨sb, so, none⟩)) w := fun w => by
    unfold Instr.arrayAt
    rw [Sem.run_bind, run_underlying Try.underlying109 w]
    simp [Result.andThen]
  go_enter Try.func21, Try.ntmps21
  go_wp2_with (first
    | (go_at_call 58; (with_reducible refine HH.out.mono ?_); rintro e w' ⟨rfl, rfl⟩)
    | (go_at_call 59; (with_reducible refine HS.out.mono ?_); rintro e w1 ⟨rfl, hD, hF⟩))
  have hr1 : w1.rangeAt sb so (u8s l) := fun j v hv => by
    have h0 := HR.out j v hv
    have hb := World.block_lt_of_cell? w _ h0
    rw [← h0]
    unfold World.cell?
    rw [hF.block sb hb (by simp; exact hsp)]
  have hld : ∀ w2 : World, w2.rangeAt sb so (u8s l) → (Instr.loadAt 109 (.pointer (some ⟨sb, so, none⟩))).run Try.prog w2 = .ok (.agg (u8s l).toArray) w2 := fun w2 h2 =>
    run_loadAt_mid w2 sb so _ _ _ h2 Try.underlying109 rfl (by rw [u8s_len, HL.out]; exact size_sec)
  have hl1 := hld w1 hr1
  have hl2 := hld w1.drew ((World.rangeAt_drew _ _ _ _).2 hr1)
  have hg := hD.1
  unfold DK.cells at hg
  have a2 := cell_of_row w1 p 2 _ _ _ hg
  clear hg hld
  go_still_tail 8, (by kernel_rfl)
  refine wpStill_load _ _ rfl _ _ rfl hl2 (by kernel_rfl) ?_
  refine wpStill_nil ?_
  obtain ⟨hg, hne, ns, nw, h2, h3, h4⟩ := hD
  have hT := HT.out
  refine wpList_mapUpdate_own w1.drew rfl _ _ _ 88 rfl 3 109 keyZ Try.underlying88 secR bw nw _ rfl (map_below h3 (Below.drew (Below.refl w1.heap.size w1)) h3.lt) (by unfold maxLen; omega) _ _ _ rfl rfl HK.out _ _ HC.out ?_
  intro w2 hown hgrow
  have hap : p ≠ bw := by
    rintro rfl
    obtain ⟨es, cl, h5, _⟩ := h3
    rw [hg] at h5
    cases h5
  have hfr1 : Fr w1 w2 [bw] := ((Fr.refl w1 [bw]).drew).trans (Fr.of_grown hgrow)
  have hfin : DiskAt w2 p bs bw (D.written i l) (T + 1) ∧ Fr w w2 [p, bw] := by
    refine ⟨⟨?_, hne, ns, nw + 1, map_fr h2 hfr1 (by simp; exact hne), hown, by omega⟩, (hF.mono (by simp)).trans (hfr1.mono (by simp))⟩
    rw [hfr1.block p (Array.getElem?_eq_some_iff.1 hg).1 (by simp; exact hap)]
    exact hg
  have HF := Lib.hid hfin
  clear hfin hfr1 hown hgrow h2 h3 h4 hg hl1 hl2 a2 hr1 hF hT hA
  go_wp2
  go_ret
  exact ⟨rfl, HF.out.1, HF.out.2⟩
end Go.Proofs.Ytnjljalihjkmcaa
