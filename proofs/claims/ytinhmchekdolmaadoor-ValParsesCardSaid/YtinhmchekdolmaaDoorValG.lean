/- val.readEscape, readRune. -/
import Derived.Test.YtinhmchekdolmaaDoorProg
import Derived.Test.YtinhmchekdolmaaDoorValF
import Derived.WalkKit
import Derived.WalkSpells
import Derived.WalkLawsBesides
import Derived.Deep.QuietTactic
import Derived.BigQuiet
import Derived.KernelRfl
import Derived.Lib.Hide
namespace Go.Proofs.YtinhmchekdolmaaDoor
open Go.RowKit

theorem numGo_le : ∀ (i n : Nat) (rs : List Nat), (numGo i n rs).2 = 0 ∨ (numGo i n rs).2 ≤ i + 1 + rs.length
  | _, _, [] => .inl rfl
  | i, n, r :: rs => by
    rw [numGo]
    split
    · split
      · exact .inl rfl
      · refine .inr ?_
        simp
        omega
    · split
      · exact .inl rfl
      · rcases numGo_le (i + 1) (n * 16 + (hexZ r).toNat) rs with h | h
        · exact .inl h
        · refine .inr ?_
          simp
          omega
theorem numP_le (rs : List Nat) : (numP rs).2 ≤ rs.length := by
  rcases rs with _ | ⟨r, rs⟩
  · simp [numP]
  · rw [numP]
    split
    · rcases numGo_le 0 0 rs with h | h
      · rw [h]; omega
      · simp at h ⊢; omega
    · simp

/-- An escape: the rune, and over how many it goes (0: none). -/
def escP : List Nat → Nat × Nat
  | _ :: x :: rest => if x = 34 ∨ x = 92 then (x, 2) else if x = 110 then (10, 2) else if x = 116 then (9, 2) else if x = 117 then (if (numP rest).2 = 0 then (0, 0) else ((numP rest).1, 2 + (numP rest).2)) else (1, 0)
  | _ => (0, 0)

set_option maxRecDepth 100000 in
set_option maxHeartbeats 2000000 in
theorem readEscape_any (A : Option Addr) (rs : List Nat) (n c B : Nat) (w : World) (hn : n = rs.length) (hr : Rd w B A (r32s rs)) (hc : rs.length ≤ c) (hcm : c ≤ 9223372036854775807) (hl : rs.length ≤ 10000) (hv : ∀ r ∈ rs, r ≤ 1114111) :
    Calls Tryd.prog 75 #[.slice A n c] w fun e w' => e = .returned (.tuple #[.int .i32 ((escP rs).1 : Int), .int .i64 ((escP rs).2 : Int)]) ∧ w = w' := by
  subst hn
  rcases rs with _ | ⟨r, _ | ⟨x, rest⟩⟩
  · go_enter Tryd.func75, Tryd.ntmps75
    go_wp2
    go_ret2
    exact ⟨rfl, rfl⟩
  · go_enter Tryd.func75, Tryd.ntmps75
    go_wp2
    go_ret2
    exact ⟨rfl, rfl⟩
  · obtain ⟨b, o, rfl, hb, hc1⟩ := hr.rune (k := 1) (by simp)
    have hc1' : w.cell? ⟨b, o + 1, none⟩ = some (.int .i32 (x : Int)) := by simpa using hc1
    have hlen : ¬ ((rest.length : Int) + 1 + 1 < 2) := by omega
    have hlen2 : (1 : Int) < (rest.length : Int) + 1 + 1 := by omega
    have hE : escP (r :: x :: rest) = if x = 34 ∨ x = 92 then (x, 2) else if x = 110 then (10, 2) else if x = 116 then (9, 2) else if x = 117 then (if (numP rest).2 = 0 then (0, 0) else ((numP rest).1, 2 + (numP rest).2)) else (1, 0) := rfl
    obtain ⟨X, hX⟩ : ∃ X, X = escP (r :: x :: rest) := ⟨_, rfl⟩
    rw [← hX] at hE ⊢
    have hcut := hr.cut (k := 2) (size := 1) (cap := c) (n := rest.length + 2) (by rw [r32s_length]; simp) (by omega) hc
    rw [Nat.mul_one, ← r32s_drop, Option.map_some, plainAdd] at hcut
    simp only [List.drop_succ_cons, List.drop_zero] at hcut
    simp only [List.length_cons] at hc hl ⊢
    have hvr : ∀ r ∈ rest, r ≤ 1114111 := fun q hq => hv q (by simp [hq])
    clear hc1 hr hX hv
    by_cases h34 : x = 34 ∨ x = 92
    · have HXX : Hid (X = (x, 2)) := Lib.hid (by rw [hE, if_pos h34])
      clear hE hcut hvr
      rcases h34 with rfl | rfl
      all_goals
        go_enter Tryd.func75, Tryd.ntmps75
        go_wp2
        go_ret2
        exact ⟨by rw [HXX.out]; rfl, rfl⟩
    · have n34 : ((x : Int) == 34) = false := by rw [beq_eq_false_iff_ne]; omega
      have n92 : ((x : Int) == 92) = false := by rw [beq_eq_false_iff_ne]; omega
      by_cases h110 : x = 110
      · have HXX : Hid (X = (10, 2)) := Lib.hid (by rw [hE, if_neg h34, if_pos h110])
        clear hE hcut hvr h34 n34 n92
        subst h110
        go_enter Tryd.func75, Tryd.ntmps75
        go_wp2
        go_ret2
        exact ⟨by rw [HXX.out]; rfl, rfl⟩
      · have n110 : ((x : Int) == 110) = false := by rw [beq_eq_false_iff_ne]; omega
        by_cases h116 : x = 116
        · have HXX : Hid (X = (9, 2)) := Lib.hid (by rw [hE, if_neg h34, if_neg h110, if_pos h116])
          clear hE hcut hvr h34 n34 n92 n110 h110
          subst h116
          go_enter Tryd.func75, Tryd.ntmps75
          go_wp2
          go_ret2
          exact ⟨by rw [HXX.out]; rfl, rfl⟩
        · have n116 : ((x : Int) == 116) = false := by rw [beq_eq_false_iff_ne]; omega
          by_cases h117 : x = 117
          · have hX2 : X = if (numP rest).2 = 0 then (0, 0) else ((numP rest).1, 2 + (numP rest).2) := by rw [hE, if_neg h34, if_neg h110, if_neg h116, if_pos h117]
            clear hE h34 n34 n92 n110 h110 n116 h116
            subst h117
            by_cases hce : c = 2
            · subst hce
              obtain rfl : rest = [] := List.eq_nil_of_length_eq_zero (by omega)
              have HXX : Hid (X = (0, 0)) := Lib.hid (by rw [hX2]; rfl)
              have hnum : Calls Tryd.prog 86 #[.slice (some ⟨b, o, none⟩) 0 0] w fun e w' => e = .returned (.tuple #[.int .i32 0, .int .i64 0]) ∧ w = w' := readNumber_any _ [] _ 0 B w rfl (Rd.emp _ _ _) (by simp) (by omega) (by simp) (by simp)
              have HN := Lib.hid hnum
              clear hnum hX2 hcut hvr hc hl
              go_enter Tryd.func75, Tryd.ntmps75
              go_wp2_with (go_at_call 86; ((with_reducible refine HN.out.mono ?_); rintro e w' ⟨rfl, rfl⟩))
              go_ret2
              exact ⟨by rw [HXX.out]; rfl, rfl⟩
            · rw [if_neg hce] at hcut
              have hnum := readNumber_any _ rest _ (c - 2) B w rfl hcut (by omega) (by omega) (by omega) hvr
              obtain ⟨q, hq⟩ : ∃ q, q = numP rest := ⟨_, rfl⟩
              rw [← hq] at hX2 hnum
              have hq2 : q.2 ≤ 10000 := by
                have := numP_le rest
                rw [← hq] at this
                omega
              obtain ⟨q1, q2⟩ := q
              simp only at hq2 hX2 hnum
              have HN := Lib.hid hnum
              have h2c : (2 : Int) ≤ (c : Int) := by omega
              have h2l : (2 : Int) ≤ (rest.length : Int) + 1 + 1 := by omega
              clear hq hnum hcut hvr
              by_cases hq0 : q2 = 0
              · have HXX : Hid (X = (0, 0)) := Lib.hid (by rw [hX2]; exact if_pos hq0)
                clear hX2
                subst hq0
                go_enter Tryd.func75, Tryd.ntmps75
                go_wp2_with (go_at_call 86; ((with_reducible refine HN.out.mono ?_); rintro e w' ⟨rfl, rfl⟩))
                go_ret2
                exact ⟨by rw [HXX.out]; rfl, rfl⟩
              · have HXX : Hid (X = (q1, 2 + q2)) := Lib.hid (by rw [hX2]; exact if_neg hq0)
                have nq0 : ((q2 : Int) == 0) = false := by rw [beq_eq_false_iff_ne]; omega
                clear hX2 hq0
                go_enter Tryd.func75, Tryd.ntmps75
                go_wp2_with (go_at_call 86; ((with_reducible refine HN.out.mono ?_); rintro e w' ⟨rfl, rfl⟩))
                go_ret2
                exact ⟨by rw [HXX.out]; rfl, rfl⟩
          · have HXX : Hid (X = (1, 0)) := Lib.hid (by rw [hE, if_neg h34, if_neg h110, if_neg h116, if_neg h117])
            have n117 : ((x : Int) == 117) = false := by rw [beq_eq_false_iff_ne]; omega
            clear hE hcut hvr h34 h110 h116 h117
            go_enter Tryd.func75, Tryd.ntmps75
            go_wp2
            go_ret2
            exact ⟨by rw [HXX.out]; rfl, rfl⟩

/-- The rune that is written first, and over how many it goes (0: none). -/
def rrP : List Nat → Nat × Nat
  | [] => (0, 0)
  | r :: rs => if r = 92 then escP (r :: rs) else if r = 34 ∨ r < 32 ∨ r = 127 then (0, 0) else (r, 1)

set_option maxRecDepth 100000 in
set_option maxHeartbeats 2000000 in
theorem readRune_any (A : Option Addr) (r : Nat) (rs : List Nat) (n c B : Nat) (w : World) (hn : n = rs.length + 1) (hr : Rd w B A (r32s (r :: rs))) (hc : rs.length + 1 ≤ c) (hcm : c ≤ 9223372036854775807) (hl : rs.length ≤ 9999) (hv : ∀ q ∈ r :: rs, q ≤ 1114111) :
    Calls Tryd.prog 66 #[.slice A n c] w fun e w' => e = .returned (.tuple #[.int .i32 ((rrP (r :: rs)).1 : Int), .int .i64 ((rrP (r :: rs)).2 : Int)]) ∧ w = w' := by
  subst hn
  have hesc := readEscape_any A (r :: rs) (rs.length + 1) c B w rfl hr hc hcm (by simp; omega) hv
  obtain ⟨b, o, rfl, hb, hc0⟩ := hr.rune (k := 0) (by simp)
  have hc0' : w.cell? ⟨b, o, none⟩ = some (.int .i32 (r : Int)) := by simpa using hc0
  have hlen : (0 : Int) < (rs.length : Int) + 1 := by omega
  have hE : rrP (r :: rs) = if r = 92 then escP (r :: rs) else if r = 34 ∨ r < 32 ∨ r = 127 then (0, 0) else (r, 1) := rfl
  obtain ⟨X, hX⟩ : ∃ X, X = rrP (r :: rs) := ⟨_, rfl⟩
  obtain ⟨Y, hY⟩ : ∃ Y, Y = escP (r :: rs) := ⟨_, rfl⟩
  rw [← hX, ← hY] at hE
  rw [← hX]
  rw [← hY] at hesc
  have HESC := Lib.hid hesc
  clear hc0 hr hX hY hv hesc
  by_cases h92 : r = 92
  · have HXX : Hid (X = Y) := Lib.hid (by rw [hE, if_pos h92])
    clear hE
    subst h92
    go_enter Tryd.func66, Tryd.ntmps66
    go_wp2_with (go_at_call 75; (with_reducible refine HESC.out.mono ?_); rintro e w' ⟨rfl, rfl⟩)
    go_ret2
    exact ⟨by rw [HXX.out]; rfl, rfl⟩
  · have n92 : ((r : Int) == 92) = false := by rw [beq_eq_false_iff_ne]; omega
    by_cases h34 : r = 34
    · have HXX : Hid (X = (0, 0)) := Lib.hid (by rw [hE, if_neg h92, if_pos (.inl h34)])
      clear hE h92 n92
      subst h34
      go_enter Tryd.func66, Tryd.ntmps66
      go_wp2
      go_ret2
      exact ⟨by rw [HXX.out]; rfl, rfl⟩
    · have n34 : ((r : Int) == 34) = false := by rw [beq_eq_false_iff_ne]; omega
      by_cases hct : r < 32 ∨ r = 127
      · have HXX : Hid (X = (0, 0)) := Lib.hid (by rw [hE, if_neg h92, if_pos (.inr hct)])
        have hcy := Lib.hid (fun W => isControl_yes r W hct)
        clear hE h92 h34 hct
        go_enter Tryd.func66, Tryd.ntmps66
        go_wp2_with (go_at_call 48; (with_reducible refine (hcy.out _).mono ?_); rintro e w' ⟨rfl, rfl⟩)
        go_ret2
        exact ⟨by rw [HXX.out]; rfl, rfl⟩
      · have HXX : Hid (X = (r, 1)) := Lib.hid (by rw [hE, if_neg h92, if_neg (by omega)])
        have hcy := Lib.hid (fun W => isControl_no r W hct)
        clear hE h92 h34 hct
        go_enter Tryd.func66, Tryd.ntmps66
        go_wp2_with (go_at_call 48; (with_reducible refine (hcy.out _).mono ?_); rintro e w' ⟨rfl, rfl⟩)
        go_ret2
        exact ⟨by rw [HXX.out]; rfl, rfl⟩

theorem escP_le (rs : List Nat) : (escP rs).2 ≤ rs.length := by
  rcases rs with _ | ⟨r, _ | ⟨x, rest⟩⟩
  · simp [escP]
  · simp [escP]
  · have := numP_le rest
    rw [escP]
    split
    · simp
    · split
      · simp
      · split
        · simp
        · split
          · split
            · simp
            · simp; omega
          · simp
theorem rrP_le (r : Nat) (rs : List Nat) : (rrP (r :: rs)).2 ≤ rs.length + 1 := by
  rw [rrP]
  split
  · have := escP_le (r :: rs)
    simpa using this
  · split <;> simp
end Go.Proofs.YtinhmchekdolmaaDoor
