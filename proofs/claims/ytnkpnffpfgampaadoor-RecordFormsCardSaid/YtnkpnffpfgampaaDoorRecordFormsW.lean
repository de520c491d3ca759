/- The law RecordForms, walked. -/
import Derived.Test.YtnkpnffpfgampaaDoorRcG
namespace Go.Proofs.YtnkpnffpfgampaaDoor
open Go.RowKit Go.Maps

set_option maxRecDepth 100000 in
set_option maxHeartbeats 4000000 in
theorem recordForms_walk (c : ChV) (W : World) (hf : c.fits) (hT : Tabs W) : Calls Tryd.prog 3 #[.agg c.cells] W fun e w' => e = .returned (.bool true) ∧ Below W.heap.size W w' := by
  have hb0 : Below W.heap.size W (W.alloc (.cells c.cells 27)) := (Below.refl _ _).alloc (Nat.le_refl _) _
  have hx0 := heap_alloc_new W (.cells c.cells 27)
  have haw := awake15_any _ (hT.below hb0)
  have hF : ∀ w, Below W.heap.size W w → Calls Tryd.prog 6 #[.agg c.cells] w fun e w' => e = .returned (.int .i64 (if formB c then 0 else 1)) ∧ Below w.heap.size w w' := fun w hb => Form_any c w hf (hT.below hb)
  have hR : ∀ w, Below W.heap.size W w → Calls Tryd.prog 7 #[.agg c.cells] w fun e w' => e = .returned (.bool (formB c)) ∧ Below w.heap.size w w' := fun w hb => rForm_any c w hf (hT.below hb)
  have haw2 : ∀ w, Below W.heap.size W w → Calls Tryd.prog 5 #[] w fun e w' => e = .returned (.bool true) ∧ Below w.heap.size w w' := fun w hb => awake15_any w (hT.below hb)
  obtain ⟨B, hB⟩ : ∃ B, B = formB c := ⟨_, rfl⟩
  rw [← hB] at hF hR
  have f1 := hf.lab; have f2 := hf.key; have f3 := hf.v.1
  obtain ⟨k, n, ef, lab, et, key, vk, vn, vs⟩ := c
  dsimp only [ChV.cells] at hb0 hx0 haw hF hR f1 f2 f3 ⊢
  have HX := Lib.hid (And.intro hb0 hx0)
  have HAW := Lib.hid haw
  have HAW2 := Lib.hid haw2
  have HF := Lib.hid hF
  have HR := Lib.hid hR
  have f1I : (lab.size : Int) ≤ 140737488355328 := by omega
  have f2I : (key.size : Int) ≤ 140737488355328 := by omega
  have f3I : (vs.size : Int) ≤ 140737488355328 := by omega
  clear hb0 hx0 haw haw2 hF hR hf hT hB f1 f2 f3
  by_cases h2 : key.size + lab.size + vs.size ≤ 2000
  · have hlI : ¬ (2000 : Int) < (key.size : Int) + (lab.size : Int) + (vs.size : Int) := by omega
    go_enter Tryd.func3, Tryd.ntmps3
    cases B
    all_goals
      go_wp2_with (first
        | (go_at_call 5; (with_reducible refine HAW.out.mono ?_); rintro e w1 ⟨rfl, b1⟩; have B1 := Lib.hid (HX.out.1.trans (lower' b1 HX.out.1.size)); have HX1 := Lib.hid ((b1.block W.heap.size (by simp)).trans HX.out.2); obtain ⟨d0, d1, d2, d3, d4, d5, d6, d7, d8⟩ := box9 HX1.out; clear b1)
        | (go_at_call 6; (with_reducible refine (HF.out _ B1.out).mono ?_); rintro e w2 ⟨rfl, b2⟩; clear d0 d1 d2 d3 d4 d5 d6 d7 d8; obtain ⟨d0, d1, d2, d3, d4, d5, d6, d7, d8⟩ := box9 ((b2.block _ (heap_lt HX1.out)).trans HX1.out); have B2 := Lib.hid (B1.out.trans (lower' b2 B1.out.size)); clear b2)
        | (go_at_call 7; (with_reducible refine (HR.out _ B2.out).mono ?_); rintro e w3 ⟨rfl, b3⟩; have B3 := Lib.hid (B2.out.trans (lower' b3 B2.out.size)); clear b3))
      go_ret
      exact ⟨rfl, B3.out⟩
  · have hlI : (2000 : Int) < (key.size : Int) + (lab.size : Int) + (vs.size : Int) := by omega
    go_enter Tryd.func3, Tryd.ntmps3
    go_upto_region 2 with (go_at_call 5; (with_reducible refine HAW.out.mono ?_); rintro e w1 ⟨rfl, b1⟩; have B1 := Lib.hid (HX.out.1.trans (lower' b1 HX.out.1.size)); have HX1 := Lib.hid ((b1.block W.heap.size (by simp)).trans HX.out.2); obtain ⟨d0, d1, d2, d3, d4, d5, d6, d7, d8⟩ := box9 HX1.out; clear b1)
    go_wp2_with (go_at_call 5; (with_reducible refine (HAW2.out _ B1.out).mono ?_); rintro e w2 ⟨rfl, b2⟩; have B2 := Lib.hid (B1.out.trans (lower' b2 B1.out.size)); clear b2)
    go_ret
    exact ⟨rfl, B2.out⟩
end Go.Proofs.YtnkpnffpfgampaaDoor
