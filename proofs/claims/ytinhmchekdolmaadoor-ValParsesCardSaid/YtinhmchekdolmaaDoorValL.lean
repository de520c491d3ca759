/- val.Parse; awake. -/
import Derived.Test.YtinhmchekdolmaaDoorProg
import Derived.Test.YtinhmchekdolmaaDoorValK
import Derived.WalkKit
import Derived.WalkSpells
import Derived.WalkLawsBesides
import Derived.Deep.QuietTactic
import Derived.BigQuiet
import Derived.KernelRfl
import Derived.Lib.Hide
namespace Go.Proofs.YtinhmchekdolmaaDoor
open Go.RowKit

theorem res20 {w : World} {b : Nat} {v0 v1 v2 : Value} (h : w.heap[b]? = some (.cells #[v0, v1, v2] 23 (0, 0))) (tmps : Array Value) (h2 : tmps.getD 2 undef = .pointer (some ⟨b, 0, none⟩)) :
    (results Tryd.f20 tmps).run Tryd.prog w = .ok (.tuple #[.agg #[v0, v1, v2], tmps.getD 3 undef]) w := by
  have e0 : w.cell? ⟨b, 0, none⟩ = some v0 := cell_of_row w b 0 _ _ _ h
  have e1 : w.cell? ⟨b, 1, none⟩ = some v1 := cell_of_row w b 1 _ _ _ h
  have e2 : w.cell? ⟨b, 2, none⟩ = some v2 := cell_of_row w b 2 _ _ _ h
  have h2' := h2
  simp only [Array.getD_eq_getD_getElem?] at h2'
  simp [results, Tryd.results20, go_sem, h2', e0, e1, e2]

theorem at_old {W : World} {b : Nat} {x : Obj} (h : W.heap[b]? = some x) (o : Obj) (hlt : b < W.heap.size) : (W.alloc o).heap[b]? = some x :=
  ((World.grownBy_alloc W o none).block b hlt (by simp)).trans h

def parV (s : ByteArray) : VVal × Nat := if (prsV s).2 = true then ((prsV s).1, 0) else (⟨0, 0, ⟨#[]⟩⟩, 6)

set_option maxRecDepth 100000 in
set_option maxHeartbeats 2000000 in
theorem parseV_any (s : ByteArray) (w : World) (hs : s.size ≤ 140737488355328) (hT : Tabs w) :
    Calls Tryd.prog 20 #[.string s] w fun e w' => e = .returned (.tuple #[.agg (parV s).1.cells, .int .i64 ((parV s).2 : Int)]) ∧ Below w.heap.size w w' := by
  have hblk : (w.alloc (.cells #[.int .i64 0, .int .i64 0, .string ⟨#[]⟩] 23)).heap[w.heap.size]? = some (.cells #[.int .i64 0, .int .i64 0, .string ⟨#[]⟩] 23 (0, 0)) := heap_alloc_new w _
  have hBW : Below w.heap.size w (w.alloc (.cells #[.int .i64 0, .int .i64 0, .string ⟨#[]⟩] 23)) := (Below.refl _ _).alloc (Nat.le_refl _) _
  have hszW : w.heap.size < (w.alloc (.cells #[.int .i64 0, .int .i64 0, .string ⟨#[]⟩] 23)).heap.size := by simp
  have hp := parse_any s (w.alloc (.cells #[.int .i64 0, .int .i64 0, .string ⟨#[]⟩] 23)) hs (hT.alloc _)
  have hX : parV s = if (prsV s).2 = true then ((prsV s).1, 0) else (⟨0, 0, ⟨#[]⟩⟩, 6) := rfl
  obtain ⟨X, hXX⟩ : ∃ X, X = parV s := ⟨_, rfl⟩
  obtain ⟨Y, hY⟩ : ∃ Y, Y = prsV s := ⟨_, rfl⟩
  rw [← hXX, ← hY] at hX
  rw [← hXX]
  rw [← hY] at hp
  obtain ⟨⟨k, n, t⟩, ok⟩ := Y
  simp only [VVal.cells] at hp hX
  have HP := Lib.hid hp
  have HBLK := Lib.hid hblk
  have HBW := Lib.hid hBW
  have HSZ := Lib.hid hszW
  clear hp hblk hBW hszW hT hXX hY hs
  rcases ok with _ | _
  · have HX : Hid (X = (⟨0, 0, ⟨#[]⟩⟩, 6)) := Lib.hid (by rw [hX]; rfl)
    clear hX
    go_enter Tryd.func20, Tryd.ntmps20
    go_wp2_with (go_at_call 40; (with_reducible refine HP.out.mono ?_); rintro e w2 ⟨rfl, hb2⟩; have hblk2 := (hb2.block w.heap.size HSZ.out).trans HBLK.out; have e0 := cell_of_row w2 w.heap.size 0 _ _ _ hblk2; have e1 := cell_of_row w2 w.heap.size 1 _ _ _ hblk2; have e2 := cell_of_row w2 w.heap.size 2 _ _ _ hblk2; have f0 := frozen_of_row w2 w.heap.size 0 _ _ hblk2; have f1 := frozen_of_row w2 w.heap.size 1 _ _ hblk2; have f2 := frozen_of_row w2 w.heap.size 2 _ _ hblk2; have HB2 := Lib.hid hblk2; have hlt2 : w.heap.size < w2.heap.size := Nat.lt_of_lt_of_le HSZ.out hb2.size; clear hblk2)
    refine bodyPost_ret (res20 (at_old (set3 HB2.out _ _ _) _ (by rw [World.size_setCell, World.size_setCell, World.size_setCell]; exact hlt2)) _ rfl) rfl ⟨?_, (below_set3 (HBW.out.trans (hb2.mono HBW.out.size)) (Nat.le_refl _) _ _ _).alloc (by rw [World.size_setCell, World.size_setCell, World.size_setCell]; omega) _⟩
    rw [HX.out]
    rfl
  · have HX : Hid (X = (⟨k, n, t⟩, 0)) := Lib.hid (by rw [hX]; rfl)
    clear hX
    go_enter Tryd.func20, Tryd.ntmps20
    go_wp2_with (go_at_call 40; (with_reducible refine HP.out.mono ?_); rintro e w2 ⟨rfl, hb2⟩; have hblk2 := (hb2.block w.heap.size HSZ.out).trans HBLK.out; have e0 := cell_of_row w2 w.heap.size 0 _ _ _ hblk2; have e1 := cell_of_row w2 w.heap.size 1 _ _ _ hblk2; have e2 := cell_of_row w2 w.heap.size 2 _ _ _ hblk2; have f0 := frozen_of_row w2 w.heap.size 0 _ _ hblk2; have f1 := frozen_of_row w2 w.heap.size 1 _ _ hblk2; have f2 := frozen_of_row w2 w.heap.size 2 _ _ hblk2; have HB2 := Lib.hid hblk2; have hlt2 : w.heap.size < w2.heap.size := Nat.lt_of_lt_of_le HSZ.out hb2.size; clear hblk2)
    refine bodyPost_ret (res20 (at_old (set3 HB2.out _ _ _) _ (by rw [World.size_setCell, World.size_setCell, World.size_setCell]; exact hlt2)) _ rfl) rfl ⟨?_, (below_set3 (HBW.out.trans (hb2.mono HBW.out.size)) (Nat.le_refl _) _ _ _).alloc (by rw [World.size_setCell, World.size_setCell, World.size_setCell]; omega) _⟩
    rw [HX.out]
    rfl
end Go.Proofs.YtinhmchekdolmaaDoor
