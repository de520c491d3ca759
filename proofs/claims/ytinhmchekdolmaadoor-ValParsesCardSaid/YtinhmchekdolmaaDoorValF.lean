/- val.hexDigit, readNumber, readEscape, readRune. -/
import Derived.Test.YtinhmchekdolmaaDoorProg
import Derived.Test.YtinhmchekdolmaaDoorValE
import Derived.WalkKit
import Derived.WalkSpells
import Derived.WalkLawsBesides
import Derived.Deep.QuietTactic
import Derived.BigQuiet
import Derived.KernelRfl
import Derived.Lib.Hide
namespace Go.Proofs.YtinhmchekdolmaaDoor
open Go.RowKit

def hexZ (r : Nat) : Int := if 48 ≤ r ∧ r ≤ 57 then (r : Int) - 48 else if 97 ≤ r ∧ r ≤ 102 then (r : Int) - 97 + 10 else if 65 ≤ r ∧ r ≤ 70 then (r : Int) - 65 + 10 else -1
theorem hexZ_le (r : Nat) : hexZ r ≤ 15 ∧ -1 ≤ hexZ r := by
  unfold hexZ
  split
  · omega
  · split
    · omega
    · split <;> omega

set_option maxRecDepth 100000 in
set_option maxHeartbeats 1000000 in
theorem hexDigit_any (r : Nat) (w : World) (hr : r ≤ 1114111) : Calls Tryd.prog 92 #[.int .i32 (r : Int)] w fun e w' => e = .returned (.int .i32 (hexZ r)) ∧ w = w' := by
  by_cases h1 : 48 ≤ r ∧ r ≤ 57
  · have HE : Hid (hexZ r = (r : Int) - 48) := Lib.hid (if_pos h1)
    obtain ⟨a, b⟩ := h1
    have a' : (48 : Int) ≤ (r : Int) := by omega
    have b' : (r : Int) ≤ 57 := by omega
    go_enter Tryd.func92, Tryd.ntmps92
    go_wp2
    go_ret
    exact ⟨by rw [HE.out]; rfl, rfl⟩
  · by_cases h2 : 97 ≤ r ∧ r ≤ 102
    · have HE : Hid (hexZ r = (r : Int) - 97 + 10) := Lib.hid (by unfold hexZ; rw [if_neg h1, if_pos h2])
      clear h1
      obtain ⟨a, b⟩ := h2
      have a0 : (48 : Int) ≤ (r : Int) := by omega
      have b0 : ¬ (r : Int) ≤ 57 := by omega
      have a' : (97 : Int) ≤ (r : Int) := by omega
      have b' : (r : Int) ≤ 102 := by omega
      go_enter Tryd.func92, Tryd.ntmps92
      go_wp2
      go_ret
      exact ⟨by rw [HE.out]; rfl, rfl⟩
    · by_cases h3 : 65 ≤ r ∧ r ≤ 70
      · have HE : Hid (hexZ r = (r : Int) - 65 + 10) := Lib.hid (by unfold hexZ; rw [if_neg h1, if_neg h2, if_pos h3])
        clear h1 h2
        obtain ⟨a, b⟩ := h3
        have a0 : (48 : Int) ≤ (r : Int) := by omega
        have b0 : ¬ (r : Int) ≤ 57 := by omega
        have a1 : ¬ (97 : Int) ≤ (r : Int) := by omega
        have a' : (65 : Int) ≤ (r : Int) := by omega
        have b' : (r : Int) ≤ 70 := by omega
        go_enter Tryd.func92, Tryd.ntmps92
        go_wp2
        go_ret
        exact ⟨by rw [HE.out]; rfl, rfl⟩
      · have HE : Hid (hexZ r = -1) := Lib.hid (by unfold hexZ; rw [if_neg h1, if_neg h2, if_neg h3])
        have d1 : r < 48 ∨ (57 < r ∧ r < 65) ∨ (70 < r ∧ r < 97) ∨ 102 < r := by omega
        clear h1 h2 h3
        rcases d1 with d | ⟨d, d'⟩ | ⟨d, d'⟩ | d
        · have a0 : ¬ (48 : Int) ≤ (r : Int) := by omega
          have a1 : ¬ (97 : Int) ≤ (r : Int) := by omega
          have a2 : ¬ (65 : Int) ≤ (r : Int) := by omega
          go_enter Tryd.func92, Tryd.ntmps92
          go_wp2
          go_ret
          exact ⟨by rw [HE.out]; rfl, rfl⟩
        · have a0 : (48 : Int) ≤ (r : Int) := by omega
          have b0 : ¬ (r : Int) ≤ 57 := by omega
          have a1 : ¬ (97 : Int) ≤ (r : Int) := by omega
          have a2 : ¬ (65 : Int) ≤ (r : Int) := by omega
          go_enter Tryd.func92, Tryd.ntmps92
          go_wp2
          go_ret
          exact ⟨by rw [HE.out]; rfl, rfl⟩
        · have a0 : (48 : Int) ≤ (r : Int) := by omega
          have b0 : ¬ (r : Int) ≤ 57 := by omega
          have a1 : ¬ (97 : Int) ≤ (r : Int) := by omega
          have a2 : (65 : Int) ≤ (r : Int) := by omega
          have b2 : ¬ (r : Int) ≤ 70 := by omega
          go_enter Tryd.func92, Tryd.ntmps92
          go_wp2
          go_ret
          exact ⟨by rw [HE.out]; rfl, rfl⟩
        · have a0 : (48 : Int) ≤ (r : Int) := by omega
          have b0 : ¬ (r : Int) ≤ 57 := by omega
          have a1 : (97 : Int) ≤ (r : Int) := by omega
          have b1 : ¬ (r : Int) ≤ 102 := by omega
          have a2 : (65 : Int) ≤ (r : Int) := by omega
          have b2 : ¬ (r : Int) ≤ 70 := by omega
          go_enter Tryd.func92, Tryd.ntmps92
          go_wp2
          go_ret
          exact ⟨by rw [HE.out]; rfl, rfl⟩

/-- Runes as cells. -/
def r32s (rs : List Nat) : List Value := rs.map fun (r : Nat) => Value.int .i32 (r : Int)
theorem r32s_length (rs : List Nat) : (r32s rs).length = rs.length := List.length_map _
theorem r32s_drop (rs : List Nat) (n : Nat) : r32s (rs.drop n) = (r32s rs).drop n := List.map_drop
theorem Rd.rune {w : World} {B : Nat} {A : Option Addr} {rs : List Nat} (h : Rd w B A (r32s rs)) {k : Nat} (hk : k < rs.length) : ∃ b o, A = some ⟨b, o, none⟩ ∧ b < B ∧ w.cell? ⟨b, o + k, none⟩ = some (.int .i32 (rs[k] : Int)) := by
  obtain ⟨b, o, e, hb, hc⟩ := h.get (k := k) (by rw [r32s_length]; exact hk)
  exact ⟨b, o, e, hb, by rw [hc]; simp [r32s]⟩

/-- The digits of a number in braces, and over how many runes it goes: (0, 0) if it is none. -/
def numGo : Nat → Nat → List Nat → Nat × Nat
  | _, _, [] => (0, 0)
  | i, n, r :: rs => if r = 125 then (if i = 0 ∨ Lib.validRune (n : Int) = false then (0, 0) else (n, i + 2)) else if hexZ r < 0 ∨ i = 6 then (0, 0) else numGo (i + 1) (n * 16 + (hexZ r).toNat) rs
def numP : List Nat → Nat × Nat
  | [] => (0, 0)
  | r :: rs => if r = 123 then numGo 0 0 rs else (0, 0)

theorem pow16 (k : Nat) (h : k ≤ 6) : 16 ^ k ≤ 16777216 := Nat.le_trans (Nat.pow_le_pow_right (by omega) h) (by decide)

set_option maxRecDepth 100000 in
set_option maxHeartbeats 2000000 in
theorem readNumber_any (A : Option Addr) (rs : List Nat) (n c B : Nat) (w : World) (hn : n = rs.length) (hr : Rd w B A (r32s rs)) (hc : rs.length ≤ c) (hcm : c ≤ 9223372036854775807) (hl : rs.length ≤ 10000) (hv : ∀ r ∈ rs, r ≤ 1114111) :
    Calls Tryd.prog 86 #[.slice A n c] w fun e w' => e = .returned (.tuple #[.int .i32 ((numP rs).1 : Int), .int .i64 ((numP rs).2 : Int)]) ∧ w = w' := by
  subst hn
  rcases rs with _ | ⟨r, rs⟩
  · go_enter Tryd.func86, Tryd.ntmps86
    go_wp2
    go_ret2
    exact ⟨rfl, rfl⟩
  · obtain ⟨b, o, rfl, hb, hc0⟩ := hr.rune (k := 0) (by simp)
    have hc0' : w.cell? ⟨b, o, none⟩ = some (.int .i32 (r : Int)) := by simpa using hc0
    have hlen : (((rs.length : Int) + 1 == 0)) = false := by rw [beq_eq_false_iff_ne]; omega
    clear hc0
    by_cases h123 : r = 123
    · subst h123
      have HP : Hid (numP (123 :: rs) = numGo 0 0 rs) := Lib.hid (by simp [numP])
      have hcut := hr.cut (k := 1) (size := 1) (cap := c) (n := rs.length + 1) (by rw [r32s_length]; simp) (by omega) hc
      rw [Nat.mul_one, ← r32s_drop, Option.map_some, plainAdd] at hcut
      simp only [List.drop_succ_cons, List.drop_zero] at hcut
      simp only [List.length_cons] at hc hl ⊢
      have hc1 : (1 : Int) ≤ (c : Int) := by omega
      have hl1 : (1 : Int) ≤ (rs.length : Int) + 1 := by omega
      obtain ⟨X, hX⟩ : ∃ X, X = numP (123 :: rs) := ⟨_, rfl⟩
      rw [← hX] at HP ⊢
      have HX := Lib.hid hX
      have HV := Lib.hid hv
      clear hX hv hr
      by_cases hce : c = 1
      · subst hce
        obtain rfl : rs = [] := List.eq_nil_of_length_eq_zero (by omega)
        have hend : X = (0, 0) := by rw [HX.out]; rfl
        have HEND := Lib.hid hend
        clear hend HP HX HV hcut
        go_enter Tryd.func86, Tryd.ntmps86
        go_wp2
        go_loop [4, 20] (fun nv iv => nv = .int .i32 0 ∧ iv = .int .i64 0) (fun _ _ => 0)
        case atStart => exact ⟨rfl, rfl⟩
        case round =>
          obtain ⟨rfl, rfl⟩ := hrel
          go_wp2
          go_ret2
          exact ⟨by rw [HEND.out]; rfl, rfl⟩
      · rw [if_neg hce] at hcut
        go_enter Tryd.func86, Tryd.ntmps86
        go_wp2
        go_loop [4, 20] (fun nv iv => ∃ (i m : Nat), i ≤ 6 ∧ i ≤ rs.length ∧ iv = .int .i64 (i : Int) ∧ nv = .int .i32 (m : Int) ∧ m < 16 ^ i ∧ numGo i m (rs.drop i) = X) (fun _ iv => rs.length - (intOf iv).toNat)
        case atStart => exact ⟨0, 0, by omega, by omega, rfl, rfl, by simp, HP.out.symm⟩
        case round =>
          obtain ⟨i, m, hi6, hil, rfl, rfl, hm, hgo⟩ := hrel
          have hm2 : m < 16777216 := Nat.lt_of_lt_of_le hm (pow16 i hi6)
          have HGO := Lib.hid hgo
          have HM := Lib.hid hm
          clear hgo hm
          rcases Nat.lt_or_ge i rs.length with h9 | h9
          · obtain ⟨b2, o2, hA2, hb2, hc2⟩ := hcut.rune h9
            injection hA2 with hA2
            injection hA2 with hA3 hA4
            subst hA3 hA4
            obtain ⟨x, hx⟩ : ∃ x, x = rs[i] := ⟨_, rfl⟩
            have hx1 : x ≤ 1114111 := HV.out x (by rw [hx]; exact List.mem_cons_of_mem _ (List.getElem_mem _))
            have hst : numGo i m (rs.drop i) = if x = 125 then (if i = 0 ∨ Lib.validRune (m : Int) = false then (0, 0) else (m, i + 2)) else if hexZ x < 0 ∨ i = 6 then (0, 0) else numGo (i + 1) (m * 16 + (hexZ x).toNat) (rs.drop (i + 1)) := by
              rw [List.drop_eq_getElem_cons h9, ← hx, numGo]
            rw [HGO.out] at hst
            rw [← hx] at hc2
            have HST := Lib.hid hst
            clear hx hst
            by_cases h125 : x = 125
            · have hX0 : (i = 0 ∨ Lib.validRune (m : Int) = false) → X = (0, 0) := fun h => by rw [HST.out, if_pos h125, if_pos h]
              have hX1 : ¬ (i = 0 ∨ Lib.validRune (m : Int) = false) → X = (m, i + 2) := fun h => by rw [HST.out, if_pos h125, if_neg h]
              have hvr := fun W => Tryd.utf8_ValidRune (m : Int) W
              obtain ⟨vr, hvr'⟩ : ∃ b, b = Lib.validRune (m : Int) := ⟨_, rfl⟩
              rw [← hvr'] at hvr hX0 hX1
              have HVR := Lib.hid hvr
              clear hvr hvr' HST
              subst h125
              by_cases hi0 : i = 0
              · have HXX := Lib.hid (hX0 (.inl hi0))
                clear hX0 hX1
                subst hi0
                go_wp2
                go_ret2
                exact ⟨by rw [HXX.out]; rfl, rfl⟩
              · have hi0' : ((i : Int) == 0) = false := by rw [beq_eq_false_iff_ne]; omega
                rcases vr with _ | _
                · have HXX := Lib.hid (hX0 (.inr rfl))
                  clear hX0 hX1 hi0
                  go_wp2_with (go_at_call 91; (with_reducible refine (HVR.out _).mono ?_); rintro e w' ⟨rfl, rfl⟩)
                  go_ret2
                  exact ⟨by rw [HXX.out]; rfl, rfl⟩
                · have HXX := Lib.hid (hX1 (by rintro (h | h); exact hi0 h; cases h))
                  clear hX0 hX1 hi0
                  go_wp2_with (go_at_call 91; (with_reducible refine (HVR.out _).mono ?_); rintro e w' ⟨rfl, rfl⟩)
                  go_ret2
                  exact ⟨by rw [HXX.out]; rfl, rfl⟩
            · have h125' : ((x : Int) == 125) = false := by rw [beq_eq_false_iff_ne]; omega
              have hhd := fun W => hexDigit_any x W hx1
              have hz := hexZ_le x
              obtain ⟨z, hzz⟩ : ∃ z, z = hexZ x := ⟨_, rfl⟩
              rw [← hzz] at hhd hz HST
              have HHD := Lib.hid hhd
              have H125 := Lib.hid h125
              clear hhd hzz h125
              by_cases hz0 : z < 0
              · have HXX : Hid (X = (0, 0)) := Lib.hid (by rw [HST.out, if_neg H125.out, if_pos (.inl hz0)])
                clear HST
                go_wp2_with (go_at_call 92; (with_reducible refine (HHD.out _).mono ?_); rintro e w' ⟨rfl, rfl⟩)
                go_ret2
                exact ⟨by rw [HXX.out]; rfl, rfl⟩
              · by_cases hi6' : i = 6
                · have HXX : Hid (X = (0, 0)) := Lib.hid (by rw [HST.out, if_neg H125.out, if_pos (.inr hi6')])
                  clear HST
                  subst hi6'
                  go_wp2_with (go_at_call 92; (with_reducible refine (HHD.out _).mono ?_); rintro e w' ⟨rfl, rfl⟩)
                  go_ret2
                  exact ⟨by rw [HXX.out]; rfl, rfl⟩
                · have hi6'' : ((i : Int) == 6) = false := by rw [beq_eq_false_iff_ne]; omega
                  obtain ⟨y, rfl⟩ : ∃ y : Nat, z = (y : Int) := ⟨z.toNat, by omega⟩
                  have HI6 := Lib.hid hi6'
                  clear hi6'
                  go_wp2_with (go_at_call 92; (with_reducible refine (HHD.out _).mono ?_); rintro e w' ⟨rfl, rfl⟩)
                  go_round
                  case rel =>
                    have hm3 := HM.out
                    refine ⟨i + 1, m * 16 + y, by have := HI6.out; omega, by omega, by go_num, by go_num, ?_, ?_⟩
                    · rw [Nat.pow_succ]; omega
                    · rw [HST.out, if_neg H125.out, if_neg (by rintro (h | h); omega; exact HI6.out h)]
                      simp
                  case measure => simp [intOf]; omega
          · obtain rfl : i = rs.length := by omega
            have hend : X = (0, 0) := by rw [← HGO.out, List.drop_length]; rfl
            have HEND := Lib.hid hend
            clear hend
            go_wp2
            go_ret2
            exact ⟨by rw [HEND.out]; rfl, rfl⟩
    · have h123' : ((r : Int) != 123) = true := by simp; omega
      have HP : Hid (numP (r :: rs) = (0, 0)) := Lib.hid (by simp [numP, h123])
      clear h123
      go_enter Tryd.func86, Tryd.ntmps86
      go_wp2
      go_ret2
      exact ⟨by rw [HP.out]; rfl, rfl⟩
end Go.Proofs.YtinhmchekdolmaaDoor
