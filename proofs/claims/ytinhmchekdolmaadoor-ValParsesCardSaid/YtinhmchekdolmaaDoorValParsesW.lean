/- ValParses: the walk. -/
import Derived.Test.YtinhmchekdolmaaDoorProg
import Derived.Test.YtinhmchekdolmaaDoorValN
import Derived.Test.YtinhmchekdolmaaDoorValWW
import Derived.WalkKit
import Derived.WalkSpells
import Derived.WalkLawsBesides
import Derived.Deep.QuietTactic
import Derived.Deep.RegionHeld3
import Derived.Deep.DeepCutAuto
import Derived.Deep.CutRange
import Derived.BigQuiet
import Derived.KernelRfl
import Derived.Lib.Hide
namespace Go.Proofs.YtinhmchekdolmaaDoor
open Go.RowKit

set_option maxRecDepth 100000 in
set_option maxHeartbeats 4000000 in
theorem valParses_walk (s : ByteArray) (w : World) (hs : s.size ≤ 140737488355328) (hT : Tabs w) :
    Calls Tryd.prog 6 #[.string s] w fun e w' => e = .returned (.bool true) ∧ Below w.heap.size w w' := by
  have HT := Lib.hid hT
  clear hT
  by_cases hlen : 2000 < s.size
  · have hlen' : (2000 : Int) < (s.size : Int) := by omega
    clear hlen
    go_enter Tryd.func6, Tryd.ntmps6
    go_wp2_with fail
    refine (awake_any _ HT.out).mono ?_
    rintro e w1 ⟨rfl, hb1⟩
    have HT1 := Lib.hid (HT.out.below hb1)
    go_wp2_with fail
    refine (awake_any _ HT1.out).mono ?_
    rintro e w2 ⟨rfl, hb2⟩
    go_wp2
    go_ret
    exact ⟨rfl, hb1.trans (hb2.mono hb1.size)⟩
  · have hlen' : ¬ (2000 : Int) < (s.size : Int) := by omega
    have hp := fun W (h : Tabs W) => parseV_any s W hs h
    have hr := fun W => refParse_any s W (by omega)
    obtain ⟨hv1, hv2⟩ := refO_parV s
    obtain ⟨O, hO⟩ : ∃ O, O = refO s.data.toList := ⟨_, rfl⟩
    have hans : ∀ e, ansP s.data.toList e → ∃ (k n : Int) (t : ByteArray), e = .returned (.tuple #[.agg #[.int .i64 k, .int .i64 n, .string t], .bool O.isSome]) ∧ ∀ u, O = some u → (⟨k, n, t⟩ : VVal) = u := by
      rw [hO]; exact fun e h => h
    rw [← hO] at hv1 hv2
    clear hlen hO
    cases O with
    | none =>
      have hpv := hv2 rfl
      rw [hpv] at hp
      simp only [VVal.cells] at hp
      have HP := Lib.hid hp
      have HR := Lib.hid hr
      have HA := Lib.hid hans
      clear hp hr hans hv1 hv2 hpv
      go_enter Tryd.func6, Tryd.ntmps6
      go_wp2_with fail
      refine (awake_any _ HT.out).mono ?_
      rintro e w1 ⟨rfl, hb1⟩
      have HT1 := Lib.hid (HT.out.below hb1)
      have hB1 := hb1
      clear hb1
      go_wp2_with fail
      refine (HP.out _ HT1.out).mono ?_
      rintro e w2 ⟨rfl, hb⟩
      have hB2 := hB1.trans (hb.mono hB1.size)
      replace hB2 := hB2.alloc hB2.size (.cells #[.int .i64 0, .int .i64 0, .string ⟨#[]⟩] 23)
      have hx := heap_alloc_new w2 (.cells #[.int .i64 0, .int .i64 0, .string ⟨#[]⟩] 23)
      have hz : w2.heap.size < (w2.alloc (.cells #[.int .i64 0, .int .i64 0, .string ⟨#[]⟩] 23)).heap.size := by simp
      clear hb HP
      go_wp2_with fail
      refine (HR.out _).mono ?_
      rintro e w3 ⟨he, hb⟩
      obtain ⟨k, n, t, rfl, -⟩ := HA.out e he
      have hB3 := hB2.trans (hb.mono hB2.size)
      replace hB3 := hB3.alloc hB3.size (.cells #[.int .i64 k, .int .i64 n, .string t] 23)
      have hx3 := at_old ((hb.block w2.heap.size hz).trans hx) (.cells #[.int .i64 k, .int .i64 n, .string t] 23) (Nat.lt_of_lt_of_le hz hb.size)
      have d0 := cell_of_row _ w2.heap.size 0 _ _ _ hx3
      have d1 := cell_of_row _ w2.heap.size 1 _ _ _ hx3
      have d2 := cell_of_row _ w2.heap.size 2 _ _ _ hx3
      clear hx hx3 hb he hB2 HR HA
      simp only [Option.isSome]
      go_wp2
      go_ret
      exact ⟨rfl, hB3⟩
    | some v =>
      obtain ⟨vk, vn, vs⟩ := v
      have hpv := hv1 _ rfl
      rw [hpv] at hp
      simp only [VVal.cells] at hp
      have HP := Lib.hid hp
      have HR := Lib.hid hr
      have HA := Lib.hid hans
      clear hp hr hans hv1 hv2 hpv
      go_enter Tryd.func6, Tryd.ntmps6
      go_wp2_with fail
      refine (awake_any _ HT.out).mono ?_
      rintro e w1 ⟨rfl, hb1⟩
      have HT1 := Lib.hid (HT.out.below hb1)
      have hB1 := hb1
      clear hb1
      go_wp2_with fail
      refine (HP.out _ HT1.out).mono ?_
      rintro e w2 ⟨rfl, hb⟩
      have hB2 := hB1.trans (hb.mono hB1.size)
      replace hB2 := hB2.alloc hB2.size (.cells #[.int .i64 vk, .int .i64 vn, .string vs] 23)
      have hx := heap_alloc_new w2 (.cells #[.int .i64 vk, .int .i64 vn, .string vs] 23)
      have hz : w2.heap.size < (w2.alloc (.cells #[.int .i64 vk, .int .i64 vn, .string vs] 23)).heap.size := by simp
      clear hb HP
      go_wp2_with fail
      refine (HR.out _).mono ?_
      rintro e w3 ⟨he, hb⟩
      obtain ⟨k, n, t, rfl, hu⟩ := HA.out e he
      have hu2 := hu _ rfl
      injection hu2 with u1 u2 u3
      subst u1 u2 u3
      have hB3 := hB2.trans (hb.mono hB2.size)
      replace hB3 := hB3.alloc hB3.size (.cells #[.int .i64 k, .int .i64 n, .string t] 23)
      have hx3 := at_old ((hb.block w2.heap.size hz).trans hx) (.cells #[.int .i64 k, .int .i64 n, .string t] 23) (Nat.lt_of_lt_of_le hz hb.size)
      have hy3 := heap_alloc_new w3 (.cells #[.int .i64 k, .int .i64 n, .string t] 23)
      have d0 := cell_of_row _ w2.heap.size 0 _ _ _ hx3
      have d1 := cell_of_row _ w2.heap.size 1 _ _ _ hx3
      have d2 := cell_of_row _ w2.heap.size 2 _ _ _ hx3
      have e0 := cell_of_row _ w3.heap.size 0 _ _ _ hy3
      have e1 := cell_of_row _ w3.heap.size 1 _ _ _ hy3
      have e2 := cell_of_row _ w3.heap.size 2 _ _ _ hy3
      clear hx hx3 hy3 hb he hB2 HR HA hu
      simp only [Option.isSome]
      go_wp2
      go_ret
      exact ⟨rfl, hB3⟩
end Go.Proofs.YtinhmchekdolmaaDoor
