/- val.Show. -/
import Derived.Test.YtinhmchekdolmaaDoorProg
import Derived.Test.YtinhmchekdolmaaDoorValD
import Derived.WalkKit
import Derived.WalkSpells
import Derived.WalkLawsBesides
import Derived.Lib.AppendIntMem
import Derived.Deep.QuietTactic
import Derived.BigQuiet
import Derived.KernelRfl
import Derived.Lib.Hide
namespace Go.Proofs.YtinhmchekdolmaaDoor
open Go.RowKit

theorem itoa_any (n : Int) (w : World) (h0 : -9223372036854775808 ≤ n) (h1 : n ≤ 9223372036854775807) (hT : Tabs w) :
    Calls Tryd.prog 34 #[.int .i64 n] w fun e w' => e = .returned (.string ⟨(Lib.itoa n).toArray⟩) ∧ Below w.heap.size w w' :=
  (Tryd.strconv_Itoa n h0 h1 w hT.ten).mono fun e w' ⟨he, k, os, hw⟩ => ⟨he, by subst hw; exact Lib.below_grow _ _ (Nat.le_refl _) _ _⟩

def showV (v : VVal) : List UInt8 := if v.kind = 1 then Lib.itoa v.n else if v.kind = 3 then (if v.n = 0 then [102, 97, 108, 115, 101] else [116, 114, 117, 101]) else showT v.s
def showR (v : VVal) : List UInt8 := if ckN v = 0 then showV v else []

set_option maxRecDepth 100000 in
set_option maxHeartbeats 2000000 in
theorem show_any (v : VVal) (w : World) (hf : v.fits) (hT : Tabs w) :
    Calls Tryd.prog 14 #[.agg v.cells] w fun e w' => e = .returned (.tuple #[.string ⟨(showR v).toArray⟩, .int .i64 (ckN v)]) ∧ Below w.heap.size w w' := by
  have hB : Below w.heap.size w (w.alloc (.cells v.cells 23)) := (Below.refl _ _).alloc (Nat.le_refl _) _
  have hck := check_any v (w.alloc (.cells v.cells 23)) hf (hT.alloc _)
  have hcz := ckN_zero (v := v)
  have henc : showR v = if ckN v = 0 then showV v else [] := rfl
  obtain ⟨x, hx⟩ : ∃ x, x = ckN v := ⟨_, rfl⟩
  rw [← hx] at hck hcz henc ⊢
  clear hx
  obtain ⟨k, n, s⟩ := v
  obtain ⟨f0, f1, f2⟩ := hf
  simp only at f0 f1 f2
  simp only [VVal.cells] at hck hB ⊢
  have hblk : (w.alloc (.cells #[.int .i64 k, .int .i64 n, .string s] 23)).heap[w.heap.size]? = some (.cells #[.int .i64 k, .int .i64 n, .string s] 23 (0, 0)) := heap_alloc_new w _
  have hsz : w.heap.size < (w.alloc (.cells #[.int .i64 k, .int .i64 n, .string s] 23)).heap.size := by simp
  have HCK := Lib.hid hck
  have HBL := Lib.hid hblk
  have HSZ := Lib.hid hsz
  have HB := Lib.hid hB
  have HT := Lib.hid hT
  clear hck hblk hsz hB hT
  by_cases hx0 : x = 0
  · subst hx0
    have henc' : showR ⟨k, n, s⟩ = showV ⟨k, n, s⟩ := by rw [henc, if_pos rfl]
    rw [henc']
    have HCZ := Lib.hid (hcz rfl)
    clear henc henc' hcz
    go_enter Tryd.func14, Tryd.ntmps14
    go_wp2_with fail
    refine HCK.out.mono ?_
    rintro e w1 ⟨rfl, hb1⟩
    have e0 : w1.cell? ⟨w.heap.size, 0, none⟩ = some (.int .i64 k) := (hb1.cell (p := ⟨w.heap.size, 0, none⟩) HSZ.out).trans (cell_of_row _ _ 0 _ _ _ HBL.out)
    have e1 : w1.cell? ⟨w.heap.size, 1, none⟩ = some (.int .i64 n) := (hb1.cell (p := ⟨w.heap.size, 1, none⟩) HSZ.out).trans (cell_of_row _ _ 1 _ _ _ HBL.out)
    have e2 : w1.cell? ⟨w.heap.size, 2, none⟩ = some (.string s) := (hb1.cell (p := ⟨w.heap.size, 2, none⟩) HSZ.out).trans (cell_of_row _ _ 2 _ _ _ HBL.out)
    have hB1 : Below w.heap.size w w1 := HB.out.trans (hb1.mono (Nat.le_of_lt HSZ.out))
    have hT1 : Tabs w1 := HT.out.below hB1
    have hs1 := hB1.size
    have HT1 := Lib.hid hT1
    clear hb1 hT1
    rcases HCZ.out with h1 | ⟨h3, hn⟩ | ⟨h2, hsl, -⟩
    · replace h1 : k = 1 := h1
      subst h1
      have HE : Hid (showV ⟨1, n, s⟩ = Lib.itoa n) := Lib.hid (if_pos rfl)
      clear HCZ
      go_wp2_with (go_at_call 34; (with_reducible refine (itoa_any n _ f1 f2 HT1.out).mono ?_); rintro e w2 ⟨rfl, hb2⟩)
      go_ret2
      exact ⟨by rw [HE.out]; rfl, hB1.trans (hb2.mono hs1)⟩
    · replace h3 : k = 3 := h3
      subst h3
      have hnb : n = 0 ∨ n = 1 := hn
      clear HCZ hn
      rcases hnb with rfl | rfl
      all_goals
        go_wp2
        go_ret2
        exact ⟨rfl, hB1⟩
    · replace h2 : k = 2 := h2
      replace hsl : s.size ≤ 64 := hsl
      subst h2
      have HE : Hid (showV ⟨2, n, s⟩ = showT s) := Lib.hid rfl
      clear HCZ
      go_wp2_with (go_at_call 35; (with_reducible refine (showText_any s _ (by omega) HT1.out).mono ?_); rintro e w2 ⟨rfl, hb2⟩)
      go_ret2
      exact ⟨by rw [HE.out]; rfl, hB1.trans (hb2.mono hs1)⟩
  · have hx1 : ((x : Int) != 0) = true := by simpa using hx0
    have henc' : showR ⟨k, n, s⟩ = [] := by rw [henc, if_neg hx0]
    rw [henc']
    clear henc henc' hcz hx0
    go_enter Tryd.func14, Tryd.ntmps14
    go_wp2_with fail
    refine HCK.out.mono ?_
    rintro e w1 ⟨rfl, hb1⟩
    go_wp2
    go_ret2
    exact ⟨rfl, HB.out.trans (hb1.mono HB.out.size)⟩
end Go.Proofs.YtinhmchekdolmaaDoor
