/- ValCuts: the walk. -/
import Derived.Test.YtinhmchekdolmaaDoorProg
import Derived.Test.YtinhmchekdolmaaDoorValN
import Derived.Test.YtinhmchekdolmaaDoorValY
import Derived.WalkKit
import Derived.WalkSpells
import Derived.WalkLawsBesides
import Derived.Deep.QuietTactic
import Derived.BigQuiet
import Derived.KernelRfl
import Derived.Lib.Hide
namespace Go.Proofs.YtinhmchekdolmaaDoor
open Go.RowKit

theorem cutV_zero (s : ByteArray) (n : Int) (h : (cutV s n).2 = 0) : Lib.validD s.data.toList = true ∧ 0 ≤ n := by
  unfold cutV at h
  split at h
  · cases h
  · rename_i h1
    split at h
    · cases h
    · exact ⟨by simpa using h1, by omega⟩
theorem cutV_size (s : ByteArray) (n : Int) : (cutV s n).1.size ≤ s.size := by
  have hl : s.data.toList.length = s.size := Array.length_toList
  unfold cutV
  split
  · exact Nat.zero_le _
  · split
    · exact Nat.zero_le _
    · show (List.toArray _).size ≤ _
      rw [List.size_toArray, List.length_take]
      omega

set_option maxRecDepth 100000 in
set_option maxHeartbeats 2000000 in
theorem valCuts_walk (s : ByteArray) (n m : Int) (w : World) (hs : s.size ≤ 140737488355328) (hn1 : -9223372036854775808 ≤ n) (hn2 : n ≤ 9223372036854775807) (hm1 : -9223372036854775808 ≤ m) (hm2 : m ≤ 9223372036854775807) (hT : Tabs w) :
    Calls Tryd.prog 8 #[.string s, .int .i64 n, .int .i64 m] w fun e w' => e = .returned (.bool true) ∧ Below w.heap.size w w' := by
  by_cases hlen : 2000 < s.size
  · have hlen' : (2000 : Int) < (s.size : Int) := by omega
    have HT := Lib.hid hT
    clear hT hlen hs hn1 hn2 hm1 hm2
    go_enter Tryd.func8, Tryd.ntmps8
    go_wp2_with fail
    refine (awake_any _ HT.out).mono ?_
    rintro e w1 ⟨rfl, hb1⟩
    have HT1 := Lib.hid (HT.out.below hb1)
    go_wp2_with fail
    refine (awake_any _ HT1.out).mono ?_
    rintro e w2 ⟨rfl, hb2⟩
    go_wp2
    go_ret
    exact ⟨rfl, hb1.trans (hb2.mono hb1.size)⟩
  · have hlen' : ¬ (2000 : Int) < (s.size : Int) := by omega
    have h1 := fun W (h : Tabs W) => cut_any s n W hs hn2 h
    have h2 := fun W => refCut_any s n W hs hn2
    have h3 := fun W (h : Tabs W) => cut_any (cutV s n).1 m W (Nat.le_trans (cutV_size s n) hs) hm2 h
    have h4 := fun W (h : Tabs W) => cut_any s (min n m) W hs (by omega) h
    have hz := cutV_zero s n
    have htw := fun (h : (cutV s n).2 = 0) (hm : 0 ≤ m) => cutV_twice s n m (hz h).2 hm (hz h).1
    obtain ⟨P, hP⟩ : ∃ P, P = cutV s n := ⟨_, rfl⟩
    rw [← hP] at h1 h2 h3 hz htw
    obtain ⟨X, c⟩ := P
    obtain ⟨Q, hQ⟩ : ∃ Q, Q = cutV X m := ⟨_, rfl⟩
    obtain ⟨R, hR⟩ : ∃ R, R = cutV s (min n m) := ⟨_, rfl⟩
    simp only at h1 h2 h3 hz htw
    rw [← hQ] at h3 htw
    rw [← hR] at h4 htw
    have HT := Lib.hid hT
    have H1 := Lib.hid h1
    have H2 := Lib.hid h2
    have H3 := Lib.hid h3
    have H4 := Lib.hid h4
    have HZ := Lib.hid hz
    have HTW := Lib.hid htw
    clear hT h1 h2 h3 h4 hz htw hP hQ hR hlen hs
    by_cases hc : c = 0 ∧ 0 ≤ m
    · obtain ⟨rfl, hm0⟩ := hc
      obtain ⟨hQR, hR0⟩ := HTW.out rfl hm0
      obtain ⟨-, hn0⟩ := HZ.out rfl
      obtain ⟨Y, c2⟩ := R
      obtain rfl : Q = (Y, c2) := hQR
      obtain rfl : c2 = 0 := hR0
      have hm0' : ¬ m < 0 := by omega
      clear HZ HTW
      simp only at H3 H4
      go_enter Tryd.func8, Tryd.ntmps8
      go_wp2_with fail
      refine (awake_any _ HT.out).mono ?_
      rintro e w1 ⟨rfl, hb1⟩
      have HT1 := Lib.hid (HT.out.below hb1)
      go_wp2_with fail
      refine (H1.out _ HT1.out).mono ?_
      rintro e w2 ⟨rfl, hb2⟩
      have HT2 := Lib.hid (HT1.out.below hb2)
      go_wp2_with fail
      refine (H2.out _).mono ?_
      rintro e w3 ⟨rfl, rfl⟩
      go_wp2_with fail
      refine (H3.out _ HT2.out).mono ?_
      rintro e w4 ⟨rfl, hb4⟩
      have HT4 := Lib.hid (HT2.out.below hb4)
      go_wp2_with fail
      refine (H4.out _ HT4.out).mono ?_
      rintro e w5 ⟨rfl, hb5⟩
      have hB := ((hb1.trans (hb2.mono hb1.size)).trans (hb4.mono (by have := hb1.size; have := hb2.size; omega))).trans (hb5.mono (by have := hb1.size; have := hb2.size; have := hb4.size; omega))
      go_wp2
      go_ret
      exact ⟨rfl, hB⟩
    · by_cases hc0 : c = 0
      · subst hc0
        have hm0' : m < 0 := by omega
        clear HZ HTW H3 H4 hc
        go_enter Tryd.func8, Tryd.ntmps8
        go_wp2_with fail
        refine (awake_any _ HT.out).mono ?_
        rintro e w1 ⟨rfl, hb1⟩
        have HT1 := Lib.hid (HT.out.below hb1)
        go_wp2_with fail
        refine (H1.out _ HT1.out).mono ?_
        rintro e w2 ⟨rfl, hb2⟩
        go_wp2_with fail
        refine (H2.out _).mono ?_
        rintro e w3 ⟨rfl, rfl⟩
        go_wp2
        go_ret
        exact ⟨rfl, hb1.trans (hb2.mono hb1.size)⟩
      · have hc' : ((c : Int) == 0) = false := by rw [beq_eq_false_iff_ne]; omega
        clear HZ HTW H3 H4 hc
        go_enter Tryd.func8, Tryd.ntmps8
        go_wp2_with fail
        refine (awake_any _ HT.out).mono ?_
        rintro e w1 ⟨rfl, hb1⟩
        have HT1 := Lib.hid (HT.out.below hb1)
        go_wp2_with fail
        refine (H1.out _ HT1.out).mono ?_
        rintro e w2 ⟨rfl, hb2⟩
        go_wp2_with fail
        refine (H2.out _).mono ?_
        rintro e w3 ⟨rfl, rfl⟩
        go_wp2
        go_ret
        exact ⟨rfl, hb1.trans (hb2.mono hb1.size)⟩
end Go.Proofs.YtinhmchekdolmaaDoor
