/- A disk's Arm, diskOf, New. -/
import Derived.Test.YtnjljalihjkmcaaDskB
namespace Go.Proofs.Ytnjljalihjkmcaa
open Go.RowKit Go.Maps

/-- What Arm answers, and the disk behind it. -/
def DK.armE (D : DK) (n : Int) : Int := if n < 0 then 1 else if D.dead then 30 else 0
def DK.armD (D : DK) (n : Int) : DK := if n < 0 then D else if D.dead then D else { D with armed := true, left := n }
set_option maxRecDepth 100000 in
set_option maxHeartbeats 1000000 in
theorem arm_any (p bs bw T : Nat) (D : DK) (n : Int) (w : World) (h : DiskAt w p bs bw D T) :
    Calls Try.prog 19 #[.pointer (some ⟨p, 0, none⟩), .int .i64 n] w fun e w' => e = .returned (.int .i64 (D.armE n)) ∧ DiskAt w' p bs bw (D.armD n) T ∧ Fr w w' [p] := by
  have hd := dead_any p bs bw T D w h
  have hap := h.apart
  by_cases hn : n < 0
  · have h1 : D.armE n = 1 := if_pos hn
    have h2 : D.armD n = D := if_pos hn
    rw [h1, h2]
    have HH := Lib.hid h
    clear h hd h1 h2 hap
    go_enter Try.func19, Try.ntmps19
    go_wp2
    go_ret
    exact ⟨rfl, HH.out, Fr.refl _ _⟩
  · obtain ⟨b, hb⟩ : ∃ b, b = D.dead := ⟨_, rfl⟩
    have h1 : D.armE n = if b then 30 else 0 := by unfold DK.armE; rw [if_neg hn, hb]
    have h2 : D.armD n = if b then D else { D with armed := true, left := n } := by unfold DK.armD; rw [if_neg hn, hb]
    rw [h1, h2]
    rw [← hb] at hd
    have HD := Lib.hid hd
    clear hd hb h1 h2
    cases b with
    | true =>
      have HH := Lib.hid h
      clear h
      go_enter Try.func19, Try.ntmps19
      go_wp2_with (go_at_call 57; (with_reducible refine HD.out.mono ?_); rintro e w' ⟨rfl, rfl⟩)
      go_ret
      exact ⟨rfl, HH.out, Fr.refl _ _⟩
    | false =>
      obtain ⟨hg, hne, ns, nw, h2, h3, h4⟩ := h
      unfold DK.cells at hg
      have a4 := cell_of_row w p 4 _ _ _ hg
      have a5 := cell_of_row w p 5 _ _ _ hg
      have f4 := frozen_of_row w p 4 _ _ hg
      have f5 := frozen_of_row w p 5 _ _ hg
      have hfin : DiskAt ((w.setCell ⟨p, 4, none⟩ (.bool true)).setCell ⟨p, 5, none⟩ (.int .i64 n)) p bs bw { D with armed := true, left := n } T ∧ Fr w ((w.setCell ⟨p, 4, none⟩ (.bool true)).setCell ⟨p, 5, none⟩ (.int .i64 n)) [p] := by
        have hfr : Fr w ((w.setCell ⟨p, 4, none⟩ (.bool true)).setCell ⟨p, 5, none⟩ (.int .i64 n)) [p] := ((Fr.refl w [p]).setCell (by simp) _).setCell (by simp) _
        refine ⟨⟨?_, hne, ns, nw, map_fr h2 hfr (by simp; exact fun e => hap.1 e.symm), map_fr h3 hfr (by simp; exact fun e => hap.2.1 e.symm), h4⟩, hfr⟩
        exact heap_setCell_same _ p 5 _ _ _ (heap_setCell_same w p 4 _ _ _ hg)
      have HF := Lib.hid hfin
      clear hfin hg h2 h3 h4
      go_enter Try.func19, Try.ntmps19
      go_wp2_with (go_at_call 57; (with_reducible refine HD.out.mono ?_); rintro e w' ⟨rfl, rfl⟩)
      go_ret
      exact ⟨rfl, HF.out.1, HF.out.2⟩

set_option maxRecDepth 100000 in
set_option maxHeartbeats 1000000 in
/-- A disk of what is sure. -/
theorem diskOf_any (z : Int) (bs ns : Nat) (S : DataW Unit) (w : World) (h : w.ownsMap Try.prog 3 secR bs ns S) :
    Calls Try.prog 42 #[.int .i64 z, .map (some bs)] w fun e w' => e = .returned (.pointer (some ⟨w.heap.size + 1, 0, none⟩)) ∧ DiskAt w' (w.heap.size + 1) bs w.heap.size ⟨z, S, .map [], 0, false, 0⟩ ns ∧ Fr w w' [] := by
  have hmm := @run_makeMap Try.prog
  have hlt := h.lt
  have hs1 : (w.alloc (.map #[] 0)).heap.size = w.heap.size + 1 := by simp
  have hfin : DiskAt ((w.alloc (.map #[] 0)).alloc (.cells #[.int .i64 z, .map (some bs), .map (some w.heap.size), .int .i64 0, .bool false, .int .i64 0] 105)) (w.heap.size + 1) bs w.heap.size ⟨z, S, .map [], 0, false, 0⟩ ns := by
    refine ⟨?_, by omega, ns, 0, (h.alloc _).alloc _, (World.ownsMap_made _ _ _ _).alloc _, by omega⟩
    have := heap_alloc_new (w.alloc (.map #[] 0)) (.cells #[.int .i64 z, .map (some bs), .map (some w.heap.size), .int .i64 0, .bool false, .int .i64 0] 105)
    rw [hs1] at this
    exact this
  have hfr : Fr w ((w.alloc (.map #[] 0)).alloc (.cells #[.int .i64 z, .map (some bs), .map (some w.heap.size), .int .i64 0, .bool false, .int .i64 0] 105)) [] := ((Fr.refl _ _).alloc _).alloc _
  have HF := Lib.hid hfin
  have HR := Lib.hid hfr
  clear h hfin hfr
  go_enter Try.func42, Try.ntmps42
  go_wp2
  go_ret
  exact ⟨by simp, HF.out, HR.out⟩

set_option maxRecDepth 100000 in
set_option maxHeartbeats 1000000 in
theorem new_bad (n : Int) (w : World) (h : n < 1 ∨ 4096 < n) :
    Calls Try.prog 11 #[.int .i64 n] w fun e w' => e = .returned (.tuple #[.pointer none, .int .i64 1]) ∧ w = w' := by
  by_cases h1 : n < 1
  · go_enter Try.func11, Try.ntmps11
    go_wp2
    go_ret2
    exact ⟨rfl, rfl⟩
  · have h2 : 4096 < n := by omega
    clear h
    go_enter Try.func11, Try.ntmps11
    go_wp2
    go_ret2
    exact ⟨rfl, rfl⟩
/-- A new disk of so many sectors. -/
def DK.new (n : Int) : DK := ⟨n, .map [], .map [], 0, false, 0⟩
set_option maxRecDepth 100000 in
set_option maxHeartbeats 1000000 in
theorem new_any (n : Int) (w : World) (h1 : 1 ≤ n) (h2 : n ≤ 4096) :
    Calls Try.prog 11 #[.int .i64 n] w fun e w' => e = .returned (.tuple #[.pointer (some ⟨w.heap.size + 2, 0, none⟩), .int .i64 0]) ∧ DiskAt w' (w.heap.size + 2) w.heap.size (w.heap.size + 1) (DK.new n) 0 ∧ Fr w w' [] := by
  have hmm := @run_makeMap Try.prog
  have hd := diskOf_any n w.heap.size 0 (.map []) (w.alloc (.map #[] 0)) (World.ownsMap_made _ _ _ _)
  have hs1 : (w.alloc (.map #[] 0)).heap.size = w.heap.size + 1 := by simp
  rw [hs1] at hd
  have HD := Lib.hid hd
  have HR := Lib.hid (show Fr w (w.alloc (.map #[] 0)) [] from (Fr.refl _ _).alloc _)
  clear hd
  go_enter Try.func11, Try.ntmps11
  go_wp2_with (go_at_call 42; (with_reducible refine HD.out.mono ?_); rintro e w' ⟨rfl, hD, hF⟩)
  go_ret2
  exact ⟨rfl, hD, HR.out.trans hF⟩
end Go.Proofs.Ytnjljalihjkmcaa
