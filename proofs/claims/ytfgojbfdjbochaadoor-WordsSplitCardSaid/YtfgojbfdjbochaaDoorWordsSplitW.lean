/- WordsSplit: the walk. -/
import Derived.Test.YtfgojbfdjbochaaDoorWdS
namespace Go.Proofs.YtfgojbfdjbochaaDoor
open Go.RowKit Go.Maps

theorem refSplit_any (s : ByteArray) (w : World) (hs : s.size ≤ 100000) :
    Calls Tryd.prog 10 #[.string s] w fun e w' => SplitPostR w (splitW s.data.toList) e w' := by
  by_cases h : 1024 < s.size ∨ Lib.validD s.data.toList = false
  · exact refSplit_bad s w hs h
  · exact refSplit_ok s w (by omega) (by simpa using (not_or.1 h).2)

set_option maxRecDepth 100000 in
set_option maxHeartbeats 4000000 in
theorem wordsSplit_walk (s : ByteArray) (w : World) (hs : s.size ≤ 140737488355328) (hT : Tabs w) :
    Calls Tryd.prog 3 #[.string s] w fun e w' => e = .returned (.bool true) ∧ Below w.heap.size w w' := by
  by_cases hlen : 3000 < s.size
  · have hlen' : (3000 : Int) < (s.size : Int) := by omega
    have HT := Lib.hid hT
    clear hT hlen hs
    go_enter Tryd.func3, Tryd.ntmps3
    go_wp2_with fail
    refine (awake_any _ HT.out).mono ?_
    rintro e w1 ⟨rfl, hb1⟩
    have HT1 := Lib.hid (HT.out.below hb1)
    go_wp2_with fail
    refine (awake_any _ HT1.out).mono ?_
    rintro e w2 ⟨rfl, hb2⟩
    go_wp2
    go_ret
    exact ⟨rfl, hb1.trans (hb2.mono hb1.size)⟩
  · have hlen' : ¬ (3000 : Int) < (s.size : Int) := by omega
    have HT := Lib.hid hT
    have hsp := fun W (h : Tabs W) => split_any s W hs h
    have hrf := fun W => refSplit_any s W (by omega)
    have hc := split_code s.data.toList
    have hsl := (split_len s.data.toList).1
    obtain ⟨⟨ws, a, b, code⟩, hX⟩ : ∃ X, X = splitW s.data.toList := ⟨_, rfl⟩
    rw [← hX] at hsp hrf hc hsl
    simp only at hc hsl
    have HSP := Lib.hid hsp
    have HRF := Lib.hid hrf
    have HSL := Lib.hid hsl
    have hcc : code = 0 ∨ (code ≠ 0 ∧ ws = []) := hc.elim (fun h => .inl h.1) (fun h => .inr ⟨h.1, h.2.1⟩)
    clear hT hlen hs hsp hrf hX hsl hc
    go_enter Tryd.func3, Tryd.ntmps3
    go_upto_region 3 with (go_at_call 8; (with_reducible refine (awake_any _ HT.out).mono ?_); rintro e w1 ⟨rfl, hb1⟩)
    have HT1 := Lib.hid (HT.out.below hb1)
    go_upto_region 4 with (go_at_call 9; (with_reducible refine (HSP.out _ HT1.out).mono ?_); rintro e w2 ⟨A, c, rfl, hown, hb2⟩)
    go_upto_region 5 with (go_at_call 10; (with_reducible refine (HRF.out _).mono ?_); rintro e w3 ⟨A3, c3, rfl, hown3, hb3⟩)
    have HO := Lib.hid (And.intro (own_below hown hb3 (Nat.le_refl _)) (And.intro hown3 (hb1.trans ((hb2.trans (hb3.mono hb2.size)).mono hb1.size))))
    have HLR := Lib.hid (lawRef_any A c w1.heap.size ws w3 HO.out.1 (by have := HSL.out; omega))
    clear hown hown3 hb1 hb2 hb3 HSP HRF HT HT1
    rcases hcc with rfl | ⟨h0, rfl⟩
    · go_wp2_with (first
        | (go_at_call 12; (with_reducible refine HLR.out.mono ?_); rintro e w4 ⟨A4, c4, rfl, hown4, hb4⟩; have hsm := refSame_any A4 A3 c4 c3 _ _ ws w4 hown4 (own_below HO.out.2.1 hb4 (Nat.le_refl _)) (by have := HSL.out; omega))
        | (go_at_call 11; (with_reducible refine hsm.mono ?_); rintro e w5 ⟨rfl, hb5⟩))
      go_ret
      exact ⟨rfl, HO.out.2.2.trans ((hb4.trans (hb5.mono hb4.size)).mono HO.out.2.2.size)⟩
    · have hcb : ((code : Int) == 0) = false := by rw [beq_eq_false_iff_ne]; omega
      clear h0
      have HL0 : Hid (Calls Tryd.prog 12 #[.slice A 0 c] w3 fun e w' => ∃ A' c', e = .returned (.slice A' 0 c') ∧ w'.ownsRow w3.heap.size 56 4 (.slice A' 0 c') 0 (wdsV []) ∧ Below w3.heap.size w3 w') := HLR
      clear HLR
      go_wp2_with (first
        | (go_at_call 12; (with_reducible refine HL0.out.mono ?_); rintro e w4 ⟨A4, c4, rfl, hown4, hb4⟩; have hsm : Calls Tryd.prog 11 #[.slice A4 0 c4, .slice A3 0 c3] w4 (fun e w' => e = .returned (.bool true) ∧ Below w4.heap.size w4 w') := refSame_any A4 A3 c4 c3 _ _ [] w4 hown4 (own_below HO.out.2.1 hb4 (Nat.le_refl _)) (by simp))
        | (go_at_call 11; (with_reducible refine hsm.mono ?_); rintro e w5 ⟨rfl, hb5⟩))
      go_ret
      exact ⟨rfl, HO.out.2.2.trans ((hb4.trans (hb5.mono hb4.size)).mono HO.out.2.2.size)⟩
end Go.Proofs.YtfgojbfdjbochaaDoor
