/- A disk's step, Arm, diskOf, New; what stays. -/
import Derived.Test.YtnjljalihjkmcaaDskA
import Derived.WalkSmall
namespace Go.Proofs.Ytnjljalihjkmcaa
open Go.RowKit Go.Maps

theorem map_fr {w w' : World} {b n : Nat} {D : DataW Unit} {S : List Nat} (h : w.ownsMap Try.prog 3 secR b n D) (hf : Fr w w' S) (hb : b ∉ S) : w'.ownsMap Try.prog 3 secR b n D := by
  have hlt := h.lt
  obtain ⟨es, clock, h1, F, hs, hD⟩ := h
  exact ⟨es, clock, (hf.block b hlt hb).trans h1, F, hs, hD⟩
/-- Another disk stays. -/
theorem DiskAt.fr {w w' : World} {p bs bw T : Nat} {D : DK} {S : List Nat} (h : DiskAt w p bs bw D T) (hf : Fr w w' S) (hp : p ∉ S) (hs : bs ∉ S) (hw : bw ∉ S) : DiskAt w' p bs bw D T := by
  have hlt := h.lt
  obtain ⟨h1, hne, ns, nw, h2, h3, h4⟩ := h
  exact ⟨(hf.block p hlt.1 hp).trans h1, hne, ns, nw, map_fr h2 hf hs, map_fr h3 hf hw, h4⟩
theorem DiskAt.mono {w : World} {p bs bw T T' : Nat} {D : DK} (h : DiskAt w p bs bw D T) (hT : T ≤ T') : DiskAt w p bs bw D T' := by
  obtain ⟨h1, hne, ns, nw, h2, h3, h4⟩ := h
  exact ⟨h1, hne, ns, nw, h2, h3, by omega⟩
/-- The block of a disk is none of its maps'. -/
theorem DiskAt.apart {w : World} {p bs bw T : Nat} {D : DK} (h : DiskAt w p bs bw D T) : p ≠ bs ∧ p ≠ bw ∧ bs ≠ bw := by
  obtain ⟨h1, hne, ns, nw, ⟨es, cl, h2, _⟩, ⟨es2, cl2, h3, _⟩, _⟩ := h
  refine ⟨?_, ?_, hne⟩
  · rintro rfl
    rw [h1] at h2
    cases h2
  · rintro rfl
    rw [h1] at h3
    cases h3

/-- A disk behind a step that is done. -/
def DK.stepped (D : DK) : DK := { D with left := if D.armed then D.left - 1 else D.left, steps := D.steps + 1 }
set_option maxRecDepth 100000 in
set_option maxHeartbeats 1000000 in
theorem step_any (p bs bw T : Nat) (D : DK) (w : World) (h : DiskAt w p bs bw D T) (hl : 0 ≤ D.left ∧ D.left ≤ 9223372036854775807) (hs : 0 ≤ D.steps ∧ D.steps ≤ 1000000000) :
    Calls Try.prog 59 #[.pointer (some ⟨p, 0, none⟩)] w fun e w' => (D.dead = true ∧ e = .returned (.int .i64 30) ∧ w = w') ∨ (D.dead = false ∧ e = .returned (.int .i64 0) ∧ DiskAt w' p bs bw D.stepped T ∧ Fr w w' [p]) := by
  have hd := dead_any p bs bw T D w h
  have hap := h.apart
  obtain ⟨hg, hne, ns, nw, h2, h3, h4⟩ := h
  unfold DK.cells at hg
  obtain ⟨b, hb⟩ : ∃ b, b = D.dead := ⟨_, rfl⟩
  rw [← hb] at hd ⊢
  have HD := Lib.hid hd
  have HB := Lib.hid hb
  clear hd hb
  cases b with
  | true =>
    go_enter Try.func59, Try.ntmps59
    go_wp2_with (go_at_call 57; (with_reducible refine HD.out.mono ?_); rintro e w' ⟨rfl, rfl⟩)
    go_ret
    exact .inl ⟨trivial, rfl, rfl⟩
  | false =>
    have a3 := cell_of_row w p 3 _ _ _ hg
    have a4 := cell_of_row w p 4 _ _ _ hg
    have a5 := cell_of_row w p 5 _ _ _ hg
    have f3 := frozen_of_row w p 3 _ _ hg
    have f4 := frozen_of_row w p 4 _ _ hg
    have f5 := frozen_of_row w p 5 _ _ hg
    have HG := Lib.hid hg
    have H2 := Lib.hid h2
    have H3 := Lib.hid h3
    clear hg h2 h3
    obtain ⟨z, su, wr, st, ar, lf⟩ := D
    simp only at hl hs a3 a4 a5
    obtain ⟨hl0, hl1⟩ := hl
    obtain ⟨hs0, hs1⟩ := hs
    cases ar with
    | false =>
      have hfin : DiskAt (w.setCell ⟨p, 3, none⟩ (.int .i64 (st + 1))) p bs bw (DK.stepped ⟨z, su, wr, st, false, lf⟩) T ∧ Fr w (w.setCell ⟨p, 3, none⟩ (.int .i64 (st + 1))) [p] := by
        have hfr : Fr w (w.setCell ⟨p, 3, none⟩ (.int .i64 (st + 1))) [p] := (Fr.refl w [p]).setCell (by simp) _
        refine ⟨⟨?_, hne, ns, nw, map_fr H2.out hfr (by simp; exact fun e => hap.1 e.symm), map_fr H3.out hfr (by simp; exact fun e => hap.2.1 e.symm), h4⟩, hfr⟩
        exact heap_setCell_same w p 3 _ _ _ HG.out
      have HF := Lib.hid hfin
      clear hfin
      go_enter Try.func59, Try.ntmps59
      go_wp2_with (go_at_call 57; (with_reducible refine HD.out.mono ?_); rintro e w' ⟨rfl, rfl⟩)
      go_ret
      exact .inr ⟨trivial, rfl, HF.out.1, HF.out.2⟩
    | true =>
      have hfin : DiskAt ((w.setCell ⟨p, 5, none⟩ (.int .i64 (lf - 1))).setCell ⟨p, 3, none⟩ (.int .i64 (st + 1))) p bs bw (DK.stepped ⟨z, su, wr, st, true, lf⟩) T ∧ Fr w ((w.setCell ⟨p, 5, none⟩ (.int .i64 (lf - 1))).setCell ⟨p, 3, none⟩ (.int .i64 (st + 1))) [p] := by
        have hfr : Fr w ((w.setCell ⟨p, 5, none⟩ (.int .i64 (lf - 1))).setCell ⟨p, 3, none⟩ (.int .i64 (st + 1))) [p] := ((Fr.refl w [p]).setCell (by simp) _).setCell (by simp) _
        refine ⟨⟨?_, hne, ns, nw, map_fr H2.out hfr (by simp; exact fun e => hap.1 e.symm), map_fr H3.out hfr (by simp; exact fun e => hap.2.1 e.symm), h4⟩, hfr⟩
        exact heap_setCell_same _ p 3 _ _ _ (heap_setCell_same w p 5 _ _ _ HG.out)
      have HF := Lib.hid hfin
      clear hfin
      go_enter Try.func59, Try.ntmps59
      go_wp2_with (go_at_call 57; (with_reducible refine HD.out.mono ?_); rintro e w' ⟨rfl, rfl⟩)
      go_ret
      exact .inr ⟨trivial, rfl, HF.out.1, HF.out.2⟩
end Go.Proofs.Ytnjljalihjkmcaa
