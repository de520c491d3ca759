/- ValFF, what this seat can fill of it. -/
import Derived.Test.YtgjjdmkoamjdpaaGreatDoorProg
import Derived.Test.YtgjjdmkoamjdpaaGreatDoorValEE
import Derived.WalkKit
import Derived.WalkSpells
import Derived.WalkLawsBesides
import Derived.Deep.QuietTactic
import Derived.BigQuiet
import Derived.KernelRfl
import Derived.Lib.Hide
namespace Go.Proofs.YtgjjdmkoamjdpaaGreatDoor
/- val.Decode. -/
open Go.RowKit

theorem resDC {w : World} {b : Nat} {v0 v1 v2 : Value} (h : w.heap[b]? = some (.cells #[v0, v1, v2] 51 (0, 0))) (tmps : Array Value) (h2 : tmps.getD 2 undef = .pointer (some ⟨b, 0, none⟩)) :
    (results Tryz.f77 tmps).run Tryz.prog w = .ok (.tuple #[.agg #[v0, v1, v2], tmps.getD 3 undef, tmps.getD 4 undef]) w := by
  have e0 : w.cell? ⟨b, 0, none⟩ = some v0 := cell_of_row w b 0 _ _ _ h
  have e1 : w.cell? ⟨b, 1, none⟩ = some v1 := cell_of_row w b 1 _ _ _ h
  have e2 : w.cell? ⟨b, 2, none⟩ = some v2 := cell_of_row w b 2 _ _ _ h
  have h2' := h2
  simp only [Array.getD_eq_getD_getElem?] at h2'
  simp [results, Tryz.results77, go_sem, h2', e0, e1, e2]

/-- The value, how many bytes, the error. -/
def dcV (l : List UInt8) : VVal × Nat × Nat := if (rvV l).2 = 0 then (noV, 0, 6) else ((rvV l).1, (rvV l).2, 0)

set_option maxRecDepth 100000 in
set_option maxHeartbeats 2000000 in
theorem decode_any (A : Option Addr) (l : List UInt8) (n c B : Nat) (w : World) (hn : n = l.length) (hr : Rd w B A (u8s l)) (hB : B ≤ w.heap.size) (hl : l.length ≤ 140737488355328) (hc : l.length ≤ c) (hcm : c ≤ 9223372036854775807) (hT : Tabs w) :
    Calls Tryz.prog 77 #[.slice A n c] w fun e w' => e = .returned (.tuple #[.agg (dcV l).1.cells, .int .i64 ((dcV l).2.1 : Int), .int .i64 ((dcV l).2.2 : Int)]) ∧ Below w.heap.size w w' := by
  subst hn
  have hZ := heap_alloc_new w (.cells #[.int .i64 0, .int .i64 0, .string ⟨#[]⟩] 51)
  have hBZ : Below w.heap.size w (w.alloc (.cells #[.int .i64 0, .int .i64 0, .string ⟨#[]⟩] 51)) := (Below.refl _ _).alloc (Nat.le_refl _) _
  have hsz : w.heap.size < (w.alloc (.cells #[.int .i64 0, .int .i64 0, .string ⟨#[]⟩] 51)).heap.size := by simp
  have hrd := read_any A l l.length c B (w.alloc (.cells #[.int .i64 0, .int .i64 0, .string ⟨#[]⟩] 51)) rfl (hr.alloc hB _) (by simp; omega) hl hc hcm (hT.alloc _)
  obtain ⟨X, hX⟩ : ∃ X, X = dcV l := ⟨_, rfl⟩
  rw [← hX]
  unfold dcV at hX
  obtain ⟨⟨⟨k, n, s⟩, z⟩, hY⟩ : ∃ Y, Y = rvV l := ⟨_, rfl⟩
  rw [← hY] at hX hrd
  simp only [VVal.cells] at hrd hX
  have HX := Lib.hid hX
  have HRD := Lib.hid hrd
  have HZ := Lib.hid hZ
  have HBZ := Lib.hid hBZ
  have HSZ := Lib.hid hsz
  clear hX hY hrd hZ hBZ hsz hr hT
  by_cases hz : z = 0
  · have HXX := Lib.hid (HX.out.trans (if_pos hz))
    subst hz
    clear HX
    go_enter Tryz.func77, Tryz.ntmps77
    go_wp2_with fail
    refine HRD.out.mono ?_
    rintro e w2 ⟨rfl, hb2⟩
    have hg0 := (hb2.block w.heap.size HSZ.out).trans HZ.out
    have hlt := Nat.lt_of_lt_of_le HSZ.out hb2.size
    have hB2 := HBZ.out.trans (hb2.mono (Nat.le_of_lt HSZ.out))
    clear hb2
    have e0 := cell_of_row w2 w.heap.size 0 _ _ _ hg0
    have e1 := cell_of_row w2 w.heap.size 1 _ _ _ hg0
    have e2 := cell_of_row w2 w.heap.size 2 _ _ _ hg0
    have f0 := frozen_of_row w2 w.heap.size 0 _ _ hg0
    have f1 := frozen_of_row w2 w.heap.size 1 _ _ hg0
    have f2 := frozen_of_row w2 w.heap.size 2 _ _ hg0
    have HG0 := Lib.hid hg0
    clear hg0
    go_wp2
    refine bodyPost_ret (resDC (vAt_old (vSet3 HG0.out _ _ _) _ (by rw [vSize3]; exact hlt)) _ rfl) rfl ⟨?_, (vBelow_set3 hB2 (Nat.le_refl _) _ _ _).alloc (by rw [vSize3]; omega) _⟩
    rw [HXX.out]
    rfl
  · have HXX := Lib.hid (HX.out.trans (if_neg hz))
    have hz' : ((z : Int) == 0) = false := by rw [beq_eq_false_iff_ne]; omega
    clear HX
    go_enter Tryz.func77, Tryz.ntmps77
    go_wp2_with fail
    refine HRD.out.mono ?_
    rintro e w2 ⟨rfl, hb2⟩
    have hg0 := (hb2.block w.heap.size HSZ.out).trans HZ.out
    have hlt := Nat.lt_of_lt_of_le HSZ.out hb2.size
    have hB2 := HBZ.out.trans (hb2.mono (Nat.le_of_lt HSZ.out))
    clear hb2
    have e0 := cell_of_row w2 w.heap.size 0 _ _ _ hg0
    have e1 := cell_of_row w2 w.heap.size 1 _ _ _ hg0
    have e2 := cell_of_row w2 w.heap.size 2 _ _ _ hg0
    have f0 := frozen_of_row w2 w.heap.size 0 _ _ hg0
    have f1 := frozen_of_row w2 w.heap.size 1 _ _ hg0
    have f2 := frozen_of_row w2 w.heap.size 2 _ _ hg0
    have HG0 := Lib.hid hg0
    clear hg0
    go_wp2
    refine bodyPost_ret (resDC (vAt_old (vSet3 HG0.out _ _ _) _ (by rw [vSize3]; exact hlt)) _ rfl) rfl ⟨?_, (vBelow_set3 hB2 (Nat.le_refl _) _ _ _).alloc (by rw [vSize3]; omega) _⟩
    rw [HXX.out]
    rfl
end Go.Proofs.YtgjjdmkoamjdpaaGreatDoor
