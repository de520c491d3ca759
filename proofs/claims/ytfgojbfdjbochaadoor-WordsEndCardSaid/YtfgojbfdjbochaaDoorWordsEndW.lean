/- WordsEnd: the walk. -/
import Derived.Test.YtfgojbfdjbochaaDoorWdI
import Derived.Test.YtfgojbfdjbochaaDoorWdJ
namespace Go.Proofs.YtfgojbfdjbochaaDoor
open Go.RowKit Go.Maps

set_option maxRecDepth 100000 in
set_option maxHeartbeats 4000000 in
theorem wordsEnd_walk (s : ByteArray) (w : World) (hs : s.size ≤ 140737488355328) (hT : Tabs w) :
    Calls Tryd.prog 4 #[.string s] w fun e w' => e = .returned (.bool true) ∧ Below w.heap.size w w' := by
  by_cases hlen : 3000 < s.size
  · have hlen' : (3000 : Int) < (s.size : Int) := by omega
    have HT := Lib.hid hT
    clear hT hlen hs
    go_enter Tryd.func4, Tryd.ntmps4
    go_wp2_with fail
    refine (awake_any _ HT.out).mono ?_
    rintro e w1 ⟨rfl, hb1⟩
    have HT1 := Lib.hid (HT.out.below hb1)
    go_wp2_with fail
    refine (awake_any _ HT1.out).mono ?_
    rintro e w2 ⟨rfl, hb2⟩
    go_wp2
    go_ret
    exact ⟨rfl, hb1.trans (hb2.mono hb1.size)⟩
  · have hlen' : ¬ (3000 : Int) < (s.size : Int) := by omega
    have HT := Lib.hid hT
    have HE := Lib.hid (fun W (h : Tabs W) => end_any s W hs h)
    have HR := Lib.hid (fun W => refRunes_any s W (by omega))
    clear hT hlen hs
    go_enter Tryd.func4, Tryd.ntmps4
    go_wp2_with fail
    refine (awake_any _ HT.out).mono ?_
    rintro e w1 ⟨rfl, hb1⟩
    have HT1 := Lib.hid (HT.out.below hb1)
    go_wp2_with fail
    refine (HE.out _ HT1.out).mono ?_
    rintro e w2 ⟨rfl, hb2⟩
    go_wp2_with fail
    refine (HR.out _).mono ?_
    rintro e w3 ⟨A, c, rfl, -, hb3⟩
    generalize plc (1, 1) (rns s.data.toList) = X
    have HB := Lib.hid (hb1.trans ((hb2.trans (hb3.mono hb2.size)).mono hb1.size))
    clear hb1 hb2 hb3
    have g0 := heap_alloc_new w3 (.cells #[.int .i64 0, .int .i64 (X.1 : Int), .int .i64 (X.2 : Int)] 37)
    have c1 := cell_of_row _ _ 1 _ _ _ g0
    have c2 := cell_of_row _ _ 2 _ _ _ g0
    clear g0
    go_wp2_with (fail)
    go_ret
    exact ⟨by simp, (HB.out).alloc (by have := HB.out.size; omega) _⟩
end Go.Proofs.YtfgojbfdjbochaaDoor
