/- awake (layer 2): the document's examples. -/
import Derived.Test.YtinhmchekdolmaaDoorProg
import Derived.Test.YtinhmchekdolmaaDoorValL
import Derived.WalkKit
import Derived.WalkSpells
import Derived.WalkLawsBesides
import Derived.Deep.QuietTactic
import Derived.BigQuiet
import Derived.KernelRfl
import Derived.Lib.Hide
namespace Go.Proofs.YtinhmchekdolmaaDoor
open Go.RowKit

theorem ex1 : ckN ⟨1, 64, ⟨#[]⟩⟩ = 0 ∧ encR ⟨1, 64, ⟨#[]⟩⟩ = [1, 128, 1] := by
  have h1 : ckN ⟨1, 64, ⟨#[]⟩⟩ = 0 := rfl
  refine ⟨h1, ?_⟩
  have h2 : foldN 64 = 128 := rfl
  have h3 : digs 128 = [128, 1] := by
    rw [digs, dif_neg (by decide), digs, dif_pos (by decide)]
    rfl
  show (if ckN ⟨1, 64, ⟨#[]⟩⟩ = 0 then encV ⟨1, 64, ⟨#[]⟩⟩ else []) = _
  rw [if_pos h1]
  show 1 :: digs (foldN 64) = _
  rw [h2, h3]
theorem ex2 : ckN ⟨2, 0, ⟨#[7, 34]⟩⟩ = 0 ∧ showR ⟨2, 0, ⟨#[7, 34]⟩⟩ = [34, 92, 117, 123, 55, 125, 92, 34, 34] := by
  have h : ckN ⟨2, 0, ⟨#[7, 34]⟩⟩ = 0 := by kernel_rfl
  refine ⟨h, ?_⟩
  show (if ckN ⟨2, 0, ⟨#[7, 34]⟩⟩ = 0 then showV ⟨2, 0, ⟨#[7, 34]⟩⟩ else []) = _
  rw [if_pos h]
  kernel_rfl
theorem ex3 : parV ⟨#[34, 92, 117, 123, 48, 48, 52, 49, 125, 34]⟩ = (⟨2, 0, ⟨#[65]⟩⟩, 0) := by kernel_rfl
theorem ex4 : parV ⟨#[45, 48]⟩ = (⟨0, 0, ⟨#[]⟩⟩, 6) := by
  have h0 : prsV ⟨#[45, 48]⟩ = numV [45, 48] := by
    unfold prsV
    rw [if_neg (by decide), if_neg (by decide), if_neg (by decide)]
  have h1 : Lib.atoiAll [45, 48] = .ok 0 := by kernel_rfl
  have h2 : Lib.itoa 0 = [48] := by
    show Lib.decDigits 0 = _
    rw [Lib.decDigits_one (by decide)]
    rfl
  have h3 : numV [45, 48] = (⟨1, 0, ⟨#[]⟩⟩, false) := by
    unfold numV
    rw [h1]
    simp only
    rw [h2]
    rfl
  unfold parV
  rw [h0, h3]
  rfl

set_option maxRecDepth 100000 in
set_option maxHeartbeats 2000000 in
theorem awake_any (w : World) (hT : Tabs w) : Calls Tryd.prog 11 #[] w fun e w' => e = .returned (.bool true) ∧ Below w.heap.size w w' := by
  have h1 := fun W (h : Tabs W) => encode_any ⟨1, 64, ⟨#[]⟩⟩ W ⟨by decide, by decide, by decide⟩ h
  have h2 := fun W (h : Tabs W) => show_any ⟨2, 0, ⟨#[7, 34]⟩⟩ W ⟨by decide, by decide, by decide⟩ h
  have h3 := fun W (h : Tabs W) => parseV_any ⟨#[34, 92, 117, 123, 48, 48, 52, 49, 125, 34]⟩ W (by decide) h
  have h4 := fun W (h : Tabs W) => parseV_any ⟨#[45, 48]⟩ W (by decide) h
  rw [ex1.1, ex1.2] at h1
  rw [ex2.1, ex2.2] at h2
  rw [ex3] at h3
  rw [ex4] at h4
  simp only [VVal.cells] at h1 h2 h3 h4
  have H1 := Lib.hid h1
  have H2 := Lib.hid h2
  have H3 := Lib.hid h3
  have H4 := Lib.hid h4
  have HT := Lib.hid hT
  clear h1 h2 h3 h4 hT
  go_enter Tryd.func11, Tryd.ntmps11
  go_wp2_with fail
  refine (H1.out _ HT.out).mono ?_
  rintro e w1 ⟨v1, rfl, hown, hb1⟩
  have HT1 := Lib.hid (HT.out.below hb1)
  obtain ⟨A1, c1, rfl, -, -, hr1, -⟩ := hown.shape
  clear hown
  go_wp2_with fail
  refine (H2.out _ HT1.out).mono ?_
  rintro e w2 ⟨rfl, hb2⟩
  have HT2 := Lib.hid (HT1.out.below hb2)
  have hr2 := hr1.below hb2 (Nat.le_refl _)
  have hB2 := hb1.trans (hb2.mono hb1.size)
  have hs2 := hb2.size
  clear hb1 hb2 hr1
  go_wp2_with fail
  refine (H3.out _ HT2.out).mono ?_
  rintro e w3 ⟨rfl, hb3⟩
  have HT3 := Lib.hid ((HT2.out.below hb3).alloc (.cells #[.int .i64 2, .int .i64 0, .string ⟨#[65]⟩] 23))
  have hr3 := (hr2.below hb3 hs2).alloc (by have := hb3.size; omega) (.cells #[.int .i64 2, .int .i64 0, .string ⟨#[65]⟩] 23)
  have hB3 := (hB2.trans (hb3.mono hB2.size)).alloc (by have := hb3.size; have := hB2.size; omega) (.cells #[.int .i64 2, .int .i64 0, .string ⟨#[65]⟩] 23)
  have hg := heap_alloc_new w3 (.cells #[.int .i64 2, .int .i64 0, .string ⟨#[65]⟩] 23)
  have hc2 : (w3.alloc (.cells #[.int .i64 2, .int .i64 0, .string ⟨#[65]⟩] 23)).cell? ⟨w3.heap.size, 2, none⟩ = some (.string ⟨#[65]⟩) := cell_of_row _ _ 2 _ _ (0, 0) hg
  have hsz3 : w1.heap.size ≤ w3.heap.size := by have := hb3.size; omega
  have HC2 := Lib.hid hc2
  clear hr2 hb3 hB2 hg hc2
  go_wp2_with fail
  refine (H4.out _ HT3.out).mono ?_
  rintro e w4 ⟨rfl, hb4⟩
  have hc4 : w4.cell? ⟨w3.heap.size, 2, none⟩ = some (.string ⟨#[65]⟩) := (hb4.cell (p := ⟨w3.heap.size, 2, none⟩) (by show w3.heap.size < _; simp)).trans HC2.out
  have hl4 := World.block_lt_of_cell? w4 _ hc4
  have hr4 := hr3.below hb4 (by simp; omega)
  have hB4 := hB3.trans (hb4.mono hB3.size)
  have hr5 := hr4.alloc (by have := hb4.size; simp at this; omega) (.cells #[.int .i64 0, .int .i64 0, .string ⟨#[]⟩] 23)
  have q := strAt0 (n := 3) (c := c1) hr5 rfl
  clear hr3 hr4 hr5 hb4 hB3
  go_wp2
  go_ret
  exact ⟨rfl, hB4.alloc (by have := hB4.size; omega) _⟩
end Go.Proofs.YtinhmchekdolmaaDoor
