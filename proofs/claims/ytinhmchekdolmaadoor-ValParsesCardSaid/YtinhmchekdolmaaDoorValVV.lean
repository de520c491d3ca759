/- The reference's escape. -/
import Derived.Test.YtinhmchekdolmaaDoorProg
import Derived.Test.YtinhmchekdolmaaDoorValUU
import Derived.Test.YtinhmchekdolmaaDoorValNN
import Derived.Test.YtinhmchekdolmaaDoorValSS
import Derived.WalkKit
import Derived.WalkSpells
import Derived.WalkLawsBesides
import Derived.Deep.QuietTactic
import Derived.Deep.RegionHeld3
import Derived.Deep.CutBlock
import Derived.Deep.DeepCutAuto
import Derived.Deep.CutRange
import Derived.BigQuiet
import Derived.KernelRfl
import Derived.Lib.Hide
namespace Go.Proofs.YtinhmchekdolmaaDoor
open Go.RowKit

theorem beqT {a b : Nat} (h : a = b) : ((a : Int) == (b : Int)) = true := by rw [beq_iff_eq, h]
theorem beqF {a b : Nat} (h : a ≠ b) : ((a : Int) == (b : Int)) = false := by rw [beq_eq_false_iff_ne]; omega

set_option maxRecDepth 100000 in
set_option maxHeartbeats 4000000 in
theorem refEscape_any (s : ByteArray) (i : Nat) (w : World) (hs : s.size ≤ 140737488355328) (hi : i < s.size) :
    Calls Tryd.prog 42 #[.string s, .int .i64 (i : Int)] w fun e w' => e = .returned (.tuple #[.int .i64 ((escL (s.data.toList.drop (i + 1))).1 : Int), .int .i64 ((escL (s.data.toList.drop (i + 1))).2 : Int)]) ∧ w = w' := by
  have hl : s.data.toList.length = s.size := Array.length_toList
  obtain ⟨X, hX⟩ : ∃ X, X = escL (s.data.toList.drop (i + 1)) := ⟨_, rfl⟩
  rw [← hX]
  by_cases h1 : s.size ≤ i + 1
  · have h1' : (s.size : Int) ≤ (i : Int) + 1 := by omega
    rw [List.drop_eq_nil_of_le (by omega)] at hX
    have hX0 : X = (0, 0) := hX
    subst hX0
    clear hX
    go_enter Tryd.func42, Tryd.ntmps42
    go_wp2
    go_ret2
    exact ⟨rfl, rfl⟩
  · have h1' : ¬ (s.size : Int) ≤ (i : Int) + 1 := by omega
    have hi1 : i + 1 < s.size := by omega
    rw [byte_drop s (i + 1) hi1, escL] at hX
    have HX := Lib.hid hX
    clear hX h1
    by_cases c34 : s[i + 1].toNat = 34
    · have HXX := Lib.hid (HX.out.trans (if_pos (.inl c34)))
      have b34 := beqT c34
      clear HX
      go_enter Tryd.func42, Tryd.ntmps42
      go_wp2
      go_ret2
      exact ⟨by rw [HXX.out]; simp only [c34]; rfl, rfl⟩
    · have b34 := beqF c34
      by_cases c92 : s[i + 1].toNat = 92
      · have HXX := Lib.hid (HX.out.trans (if_pos (.inr c92)))
        have b92 := beqT c92
        clear HX
        go_enter Tryd.func42, Tryd.ntmps42
        go_wp2
        go_ret2
        exact ⟨by rw [HXX.out]; simp only [c92]; rfl, rfl⟩
      · have b92 := beqF c92
        have HX2 := Lib.hid (HX.out.trans (if_neg (show ¬ (s[i + 1].toNat = 34 ∨ s[i + 1].toNat = 92) by omega)))
        clear HX
        by_cases c110 : s[i + 1].toNat = 110
        · have HXX := Lib.hid (HX2.out.trans (if_pos c110))
          have b110 := beqT c110
          clear HX2
          go_enter Tryd.func42, Tryd.ntmps42
          go_wp2
          go_ret2
          exact ⟨by rw [HXX.out]; rfl, rfl⟩
        · have b110 := beqF c110
          have HX3 := Lib.hid (HX2.out.trans (if_neg c110))
          clear HX2
          by_cases c116 : s[i + 1].toNat = 116
          · have HXX := Lib.hid (HX3.out.trans (if_pos c116))
            have b116 := beqT c116
            clear HX3
            go_enter Tryd.func42, Tryd.ntmps42
            go_wp2
            go_ret2
            exact ⟨by rw [HXX.out]; rfl, rfl⟩
          · have b116 := beqF c116
            have HX4 := Lib.hid (HX3.out.trans (if_neg c116))
            clear HX3
            by_cases c117 : s[i + 1].toNat = 117
            · have b117 := beqT c117
              by_cases h2 : s.size ≤ i + 2
              · have h2' : (s.size : Int) ≤ (i : Int) + 2 := by omega
                have hX0 : X = (0, 0) := HX4.out.trans (if_neg (by
                  rintro ⟨-, h⟩
                  rw [List.drop_eq_nil_of_le (by omega)] at h
                  exact absurd h (by decide)))
                subst hX0
                clear HX4
                go_enter Tryd.func42, Tryd.ntmps42
                go_wp2
                go_ret2
                exact ⟨rfl, rfl⟩
              · have h2' : ¬ (s.size : Int) ≤ (i : Int) + 2 := by omega
                have hi2 : i + 2 < s.size := by omega
                have hx4 := HX4.out
                rw [show i + 1 + 1 = i + 2 from rfl, byte_drop s (i + 2) hi2] at hx4
                clear HX4 h2
                by_cases c123 : s[i + 2].toNat = 123
                · have b123 := beqT c123
                  have hX5 : X = hexE 0 0 (s.data.toList.drop (i + 3)) := hx4.trans (if_pos ⟨c117, UInt8.toNat_inj.mp c123⟩)
                  have HX5 := Lib.hid hX5
                  clear hx4 hX5
                  go_enter Tryd.func42, Tryd.ntmps42
                  go_wp2_with fail
                  go_loop [6, 7] (fun nv av => ∃ (a n k : Nat), nv = .int .i64 (n : Int) ∧ av = .int .i64 (a : Int) ∧ a = i + 3 + k ∧ k ≤ 6 ∧ a ≤ s.size ∧ n < 16 ^ k ∧ hexE k n (s.data.toList.drop a) = X) (fun _ av => s.size - (intOf av).toNat)
                  case atStart => exact ⟨i + 3, 0, 0, rfl, by go_num, rfl, by omega, by omega, by simp, HX5.out.symm⟩
                  case round =>
                    clear HX5
                    obtain ⟨a, n, k, rfl, rfl, hak, hk, has, hn, hg⟩ := hrel
                    have hnb : n < 16777216 := Nat.lt_of_lt_of_le hn (pow16 k hk)
                    have HAK := Lib.hid hak
                    clear hak
                    have HN := Lib.hid hn
                    have HG := Lib.hid hg
                    clear hn hg
                    by_cases ca : a < s.size
                    · have ca' : (a : Int) < (s.size : Int) := by omega
                      have hst : hexE k n (s.data.toList.drop a) = if k < 6 ∧ 0 ≤ hexZ s[a].toNat then hexE (k + 1) (n * 16 + (hexZ s[a].toNat).toNat) (s.data.toList.drop (a + 1)) else if k = 0 ∨ s[a].toNat ≠ 125 ∨ ¬ okR n then (0, 0) else (n, k + 4) := by
                        rw [byte_drop s a ca, hexE]
                      rw [HG.out] at hst
                      have HST := Lib.hid hst
                      have hdg := refDigit_any s[a].toNat w (UInt8.toNat_lt _)
                      obtain ⟨z, hz⟩ : ∃ z, z = hexZ s[a].toNat := ⟨_, rfl⟩
                      have hzb := hexZ_le s[a].toNat
                      rw [← hz] at hdg HST hzb
                      obtain ⟨hz15, hz1⟩ := hzb
                      have HDG := Lib.hid hdg
                      clear hst hdg hz HG
                      by_cases ck : k < 6
                      · have ck' : (a : Int) < (i : Int) + 9 := by have := HAK.out; omega
                        by_cases cd : 0 ≤ z
                        · have HS := Lib.hid (HST.out.trans (if_pos ⟨ck, cd⟩))
                          obtain ⟨v, rfl⟩ : ∃ v : Nat, z = (v : Int) := ⟨z.toNat, by omega⟩
                          clear HST
                          go_wp2_with (go_at_call 57; (with_reducible refine HDG.out.mono ?_); rintro e w' ⟨rfl, rfl⟩)
                          go_round
                          case rel => exact ⟨a + 1, n * 16 + v, k + 1, by go_num, by go_num, by have := HAK.out; omega, by omega, by omega, by have := HN.out; rw [Nat.pow_succ]; omega, HS.out.symm⟩
                          case measure => simp [intOf]; omega
                        · have HS := Lib.hid (HST.out.trans (if_neg (fun h => cd h.2)))
                          clear HST
                          go_upto_region 18 with (go_at_call 57; (with_reducible refine HDG.out.mono ?_); rintro e w' ⟨rfl, rfl⟩)
                          clear HDG
                          by_cases t0 : k = 0
                          · have hX0 : X = (0, 0) := HS.out.trans (if_pos (.inl t0))
                            have bt0 : ((a : Int) == (i : Int) + 3) = true := by have := HAK.out; rw [beq_iff_eq]; omega
                            subst hX0
                            clear HS HN
                            go_wp2
                            go_ret2
                            exact ⟨rfl, rfl⟩
                          · have bt0 : ((a : Int) == (i : Int) + 3) = false := by have := HAK.out; rw [beq_eq_false_iff_ne]; omega
                            by_cases t1 : s[a].toNat = 125
                            · have b125 := beqT t1
                              by_cases t2 : okR n
                              · have hX0 : X = (n, k + 4) := HS.out.trans (if_neg (by
                                  rintro (h | h | h)
                                  · exact t0 h
                                  · exact h t1
                                  · exact h t2))
                                subst hX0
                                have t3 : ¬ (1114111 : Int) < (n : Int) := by unfold okR at t2; omega
                                have hak4 : (a : Int) + 1 - (i : Int) = ((k + 4 : Nat) : Int) := by have := HAK.out; omega
                                clear HS HN
                                by_cases t4 : 55296 ≤ n
                                · have t4' : (55296 : Int) ≤ (n : Int) := by omega
                                  have t5 : ¬ (n : Int) ≤ 57343 := by unfold okR at t2; omega
                                  go_wp2
                                  go_ret2
                                  exact ⟨rfl, rfl⟩
                                · have t4' : ¬ (55296 : Int) ≤ (n : Int) := by omega
                                  go_wp2
                                  go_ret2
                                  exact ⟨rfl, rfl⟩
                              · have hX0 : X = (0, 0) := HS.out.trans (if_pos (.inr (.inr t2)))
                                subst hX0
                                clear HS HN
                                by_cases t3 : 1114111 < n
                                · have t3' : (1114111 : Int) < (n : Int) := by omega
                                  go_wp2
                                  go_ret2
                                  exact ⟨rfl, rfl⟩
                                · have t3' : ¬ (1114111 : Int) < (n : Int) := by omega
                                  have t4' : (55296 : Int) ≤ (n : Int) := by unfold okR at t2; omega
                                  have t5' : (n : Int) ≤ 57343 := by unfold okR at t2; omega
                                  go_wp2
                                  go_ret2
                                  exact ⟨rfl, rfl⟩
                            · have b125 := beqF t1
                              have hX0 : X = (0, 0) := HS.out.trans (if_pos (.inr (.inl t1)))
                              subst hX0
                              clear HS HN
                              go_wp2
                              go_ret2
                              exact ⟨rfl, rfl⟩
                      · have ck' : ¬ (a : Int) < (i : Int) + 9 := by have := HAK.out; omega
                        have HS := Lib.hid (HST.out.trans (if_neg (fun h => ck h.1)))
                        clear HST HDG
                        by_cases t0 : k = 0
                        · have hX0 : X = (0, 0) := HS.out.trans (if_pos (.inl t0))
                          have bt0 : ((a : Int) == (i : Int) + 3) = true := by have := HAK.out; rw [beq_iff_eq]; omega
                          subst hX0
                          clear HS HN
                          go_wp2
                          go_ret2
                          exact ⟨rfl, rfl⟩
                        · have bt0 : ((a : Int) == (i : Int) + 3) = false := by have := HAK.out; rw [beq_eq_false_iff_ne]; omega
                          by_cases t1 : s[a].toNat = 125
                          · have b125 := beqT t1
                            by_cases t2 : okR n
                            · have hX0 : X = (n, k + 4) := HS.out.trans (if_neg (by
                                rintro (h | h | h)
                                · exact t0 h
                                · exact h t1
                                · exact h t2))
                              subst hX0
                              have t3 : ¬ (1114111 : Int) < (n : Int) := by unfold okR at t2; omega
                              have hak4 : (a : Int) + 1 - (i : Int) = ((k + 4 : Nat) : Int) := by have := HAK.out; omega
                              clear HS HN
                              by_cases t4 : 55296 ≤ n
                              · have t4' : (55296 : Int) ≤ (n : Int) := by omega
                                have t5 : ¬ (n : Int) ≤ 57343 := by unfold okR at t2; omega
                                go_wp2
                                go_ret2
                                exact ⟨rfl, rfl⟩
                              · have t4' : ¬ (55296 : Int) ≤ (n : Int) := by omega
                                go_wp2
                                go_ret2
                                exact ⟨rfl, rfl⟩
                            · have hX0 : X = (0, 0) := HS.out.trans (if_pos (.inr (.inr t2)))
                              subst hX0
                              clear HS HN
                              by_cases t3 : 1114111 < n
                              · have t3' : (1114111 : Int) < (n : Int) := by omega
                                go_wp2
                                go_ret2
                                exact ⟨rfl, rfl⟩
                              · have t3' : ¬ (1114111 : Int) < (n : Int) := by omega
                                have t4' : (55296 : Int) ≤ (n : Int) := by unfold okR at t2; omega
                                have t5' : (n : Int) ≤ 57343 := by unfold okR at t2; omega
                                go_wp2
                                go_ret2
                                exact ⟨rfl, rfl⟩
                          · have b125 := beqF t1
                            have hX0 : X = (0, 0) := HS.out.trans (if_pos (.inr (.inl t1)))
                            subst hX0
                            clear HS HN
                            go_wp2
                            go_ret2
                            exact ⟨rfl, rfl⟩
                    · have ca' : ¬ (a : Int) < (s.size : Int) := by omega
                      have hX0 : X = (0, 0) := by rw [← HG.out, List.drop_eq_nil_of_le (by omega)]; rfl
                      subst hX0
                      clear HG HN
                      by_cases t0 : k = 0
                      · have bt0 : ((a : Int) == (i : Int) + 3) = true := by have := HAK.out; rw [beq_iff_eq]; omega
                        go_wp2
                        go_ret2
                        exact ⟨rfl, rfl⟩
                      · have bt0 : ((a : Int) == (i : Int) + 3) = false := by have := HAK.out; rw [beq_eq_false_iff_ne]; omega
                        go_wp2
                        go_ret2
                        exact ⟨rfl, rfl⟩
                · have b123 := beqF c123
                  have hX0 : X = (0, 0) := hx4.trans (if_neg (by
                    rintro ⟨-, h⟩
                    exact c123 (by rw [show s[i + 2] = 123 from h]; rfl)))
                  subst hX0
                  clear hx4
                  go_enter Tryd.func42, Tryd.ntmps42
                  go_wp2
                  go_ret2
                  exact ⟨rfl, rfl⟩
            · have b117 := beqF c117
              have hX0 : X = (0, 0) := HX4.out.trans (if_neg (fun h => c117 h.1))
              subst hX0
              clear HX4
              go_enter Tryd.func42, Tryd.ntmps42
              go_wp2
              go_ret2
              exact ⟨rfl, rfl⟩
end Go.Proofs.YtinhmchekdolmaaDoor
