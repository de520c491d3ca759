/- The law SpanGreat, walked. -/
import Derived.Test.YtmldiojlglpoiaaJnK
namespace Go.Proofs.Ytmldiojlglpoiaa
open Go.RowKit Go.Maps Go.Sort

theorem EdRow.es {lo : Nat} {w : World} {v : Value} {l : List Ed} (h : EdRow lo w v l) (hl : l.length ≤ 1000) : ∃ A c, v = .slice A l.length c ∧ Es w A c l := by
  obtain ⟨A, c, e, h1, h2, h3⟩ := own_shape h
  exact ⟨A, c, e, h3, h1, hl⟩
theorem rem3 (n : Int) : ∃ k : Nat, k < 3 ∧ wrap64 ((IntKind.u64.wrap n).tmod 3) = (k : Int) := by
  have h2 : 0 ≤ IntKind.u64.wrap n := by
    rw [IntKind.wrap_u64]
    omega
  generalize IntKind.u64.wrap n = u at h2
  refine ⟨(u % 3).toNat, by omega, ?_⟩
  have e : u.tmod 3 = u % 3 := Int.tmod_eq_emod_of_nonneg h2
  rw [e]
  unfold wrap64
  omega
def rwE (k : Nat) : List Ed := (List.range k).map fun i : Nat => ⟨(i : Int) + 1, [97], (i : Int) + 2⟩
def apEd (m : Nat) : List Ed := (List.range m).map fun i : Nat => ⟨200 + 2 * (i : Int), [97], 201 + 2 * (i : Int)⟩
theorem rwE_succ (k : Nat) : rwE (k + 1) = rwE k ++ [⟨(k : Int) + 1, [97], (k : Int) + 2⟩] := by unfold rwE; rw [List.range_succ, List.map_append]; rfl
theorem apEd_succ (k : Nat) : apEd (k + 1) = apEd k ++ [⟨200 + 2 * (k : Int), [97], 201 + 2 * (k : Int)⟩] := by unfold apEd; rw [List.range_succ, List.map_append]; rfl
theorem rwE_len (k : Nat) : (rwE k).length = k := by unfold rwE; simp
theorem apEd_len (k : Nat) : (apEd k).length = k := by unfold apEd; simp
theorem great13 (m : Nat) : (spanL (prsL [97] (rwE 88 ++ apEd m))).length = 3916 + m := by
  have hrow : IsRow13 (fun i : Nat => (i : Int) + 1) 88 (prsL [97] (rwE 88)) := by
    refine ⟨fun i j h => by (try dsimp only); omega, fun p => ?_⟩
    obtain ⟨a, b⟩ := p
    rw [mem_prsL]
    constructor
    · rintro ⟨e, he, _, h1, h2⟩
      obtain ⟨i, hi, rfl⟩ := List.mem_map.1 he
      refine ⟨i, List.mem_range.1 hi, ?_⟩
      dsimp only at h1 h2
      rw [← h1, ← h2]
      simp
      omega
    · rintro ⟨i, hi, e⟩
      injection e with e1 e2
      exact ⟨_, List.mem_map.2 ⟨i, List.mem_range.2 hi, rfl⟩, rfl, e1.symm, by rw [e2]; simp; omega⟩
  have hE : ∀ p, p ∈ prsL [97] (rwE 88 ++ apEd m) ↔ p ∈ prsL [97] (rwE 88) ∨ p ∈ apE (fun i : Nat => 200 + 2 * (i : Int)) m := by
    rintro ⟨a, b⟩
    rw [mem_prsL, mem_prsL]
    unfold apE
    constructor
    · rintro ⟨e, he, hl, h1, h2⟩
      rcases List.mem_append.1 he with he | he
      · exact .inl ⟨e, he, hl, h1, h2⟩
      · obtain ⟨i, hi, rfl⟩ := List.mem_map.1 he
        refine .inr (List.mem_map.2 ⟨i, hi, ?_⟩)
        dsimp only at h1 h2 ⊢
        rw [← h1, ← h2]
        simp
        omega
    · rintro (⟨e, he, hl, h1, h2⟩ | h)
      · exact ⟨e, List.mem_append.2 (.inl he), hl, h1, h2⟩
      · obtain ⟨i, hi, e⟩ := List.mem_map.1 h
        injection e with e1 e2
        exact ⟨_, List.mem_append.2 (.inr (List.mem_map.2 ⟨i, hi, rfl⟩)), rfl, e1, by rw [← e2]; dsimp only; omega⟩
  have hc := great_clos hrow hE (fun i j h => by (try dsimp only); omega) (fun i j h => by (try dsimp only); omega)
  rw [(spanL_clos hc).2, List.length_append]
  have h1 := rowS_len (fun i : Nat => (i : Int) + 1) 88
  unfold apE
  rw [List.length_map, List.length_range]
  omega
set_option maxRecDepth 100000 in
set_option maxHeartbeats 4000000 in
theorem spanGreat_walk (n0 : Int) (W : World) : Calls Try.prog 8 #[.int .i64 n0] W fun e w' => e = .returned (.bool true) ∧ Below W.heap.size W w' := by
  have HAW := Lib.hid awake13_any
  obtain ⟨M, hM1, hM2⟩ := rem3 n0
  have HM := Lib.hid hM2
  clear hM2
  go_enter Try.func8, Try.ntmps8
  go_upto_region 4 with (go_at_call 15; (with_reducible refine (HAW.out _).mono ?_); rintro e w1 ⟨rfl, hb1⟩; have B1 := Lib.hid hb1; clear hb1)
  rw [HM.out]
  clear HM HAW
  go_wp2_with (fail)
  go_loopw [3, 4] (fun v i wr => ∃ k : Nat, k ≤ 88 ∧ i = .int .i64 ((k : Int) + 1) ∧ Hid (EdRow W.heap.size wr v (rwE k) ∧ Below W.heap.size W wr)) (fun _ i _ => 90 - (intOf i).toNat)
  case atStart => exact ⟨0, by omega, rfl, Lib.hid ⟨EdRow.nil _ _, B1.out⟩⟩
  case round =>
    obtain ⟨k, hk, rfl, hrel⟩ := hrel
    by_cases hlt : k < 88
    · have hlI : (k : Int) + 1 < 89 := by omega
      obtain ⟨v5, w5, hrun, h5, b5⟩ := hrel.out.1.push ⟨(k : Int) + 1, [97], (k : Int) + 1 + 1⟩ (by rw [rwE_len]; omega) hrel.out.2.size
      have e5 : rwE k ++ [⟨(k : Int) + 1, [97], (k : Int) + 1 + 1⟩] = rwE (k + 1) := by rw [rwE_succ, Int.add_assoc]; rfl
      rw [e5] at h5
      have H5 := Lib.hid (And.intro h5 (hrel.out.2.trans b5))
      dsimp only at hrun
      clear h5 b5 hrel e5
      go_wp2_with (at_builtin; refine wpL_appK _ rfl (.tmp 18) (.tmp 23) 22 rfl rfl _ _ _ _ rfl rfl hrun ?_)
      go_roundw
      case rel => exact ⟨k + 1, by omega, by go_num, H5⟩
      case measure => simp [intOf]; omega
    · obtain rfl : k = 88 := by omega
      have hlI : ¬ ((88 : Nat) : Int) + 1 < 89 := by omega
      have HA := Lib.hid hrel.out
      clear hrel hlt hk
      go_wp2_with (fail)
      go_loopw [3, 5] (fun v i wr => ∃ j : Nat, j ≤ 83 + M ∧ i = .int .i64 (j : Int) ∧ Hid (EdRow W.heap.size wr v (rwE 88 ++ apEd j) ∧ Below W.heap.size W wr)) (fun _ i _ => 83 + M - (intOf i).toNat)
      case atStart => exact ⟨0, by omega, rfl, Lib.hid ⟨by have := HA.out.1; rw [show apEd 0 = [] from rfl, List.append_nil]; exact this, HA.out.2⟩⟩
      case round =>
        obtain ⟨j, hj, rfl, hrel⟩ := hrel
        by_cases hlt : j < 83 + M
        · have hlI2 : (j : Int) < 83 + (M : Int) := by omega
          have hjb : (j : Int) ≤ 100 := by omega
          obtain ⟨v5, w5, hrun, h5, b5⟩ := hrel.out.1.push ⟨200 + 2 * (j : Int), [97], 201 + 2 * (j : Int)⟩ (by rw [List.length_append, rwE_len, apEd_len]; omega) hrel.out.2.size
          rw [List.append_assoc, ← apEd_succ] at h5
          have H5 := Lib.hid (And.intro h5 (hrel.out.2.trans b5))
          dsimp only at hrun
          clear h5 b5 hrel
          go_wp2_with (at_builtin; refine wpL_appK _ rfl (.tmp 31) (.tmp 39) 22 rfl rfl _ _ _ _ rfl rfl hrun ?_)
          go_roundw
          case rel => exact ⟨j + 1, by omega, by go_num, H5⟩
          case measure => simp [intOf]; omega
        · obtain rfl : j = 83 + M := by omega
          have hlI2 : ¬ ((83 + M : Nat) : Int) < 83 + (M : Int) := by omega
          obtain ⟨A, c, rfl, hE⟩ := hrel.out.1.es (by rw [List.length_append, rwE_len, apEd_len]; omega)
          have B3 := Lib.hid hrel.out.2
          have hpa := Pairs_any [97] A c _ _ hE
          have hln := great13 (83 + M)
          generalize rwE 88 ++ apEd (83 + M) = es at hpa hln
          clear hrel hE HA hlt hj
          by_cases hbig : 1 < M
          · have hc : pairsC [97] (prsL [97] es) = 5 ∧ pairsR [97] (prsL [97] es) = [] := by
              unfold pairsC pairsR
              rw [if_neg (by rw [nm97]; decide), if_pos (by omega), if_neg (by rw [nm97]; decide), if_pos (by omega)]
              exact ⟨rfl, rfl⟩
            rw [hc.1, hc.2] at hpa
            have HP := Lib.hid (show Calls Try.prog 16 #[.string ⟨#[97]⟩, .slice A es.length c] wr fun e w' => ∃ (yA : Option Addr) (yc : Nat), e = .returned (.tuple #[.slice yA 0 yc, .int .i64 5]) ∧ Below wr.heap.size wr w' from hpa.mono fun e w' h => by
              obtain ⟨x, h1, _, _, h4, h5, _⟩ := h
              have hl : x.ts.length = 0 := by rw [← tus_len, h4]; rfl
              rw [hl] at h1
              exact ⟨x.A, x.c, h1, h5⟩)
            have hbI : (1 : Int) < (M : Int) := by omega
            clear hpa hc hln hbig
            go_wp2_with (go_at_call 16; (with_reducible refine HP.out.mono ?_); rintro e w9 ⟨yA, yc, rfl, p1⟩; have B9 := Lib.hid (B3.out.trans (lower' p1 B3.out.size)); clear p1 HP)
            go_ret
            exact ⟨rfl, B9.out⟩
          · have hc : pairsC [97] (prsL [97] es) = 0 ∧ pairsR [97] (prsL [97] es) = spanL (prsL [97] es) := by
              unfold pairsC pairsR
              rw [if_neg (by rw [nm97]; decide), if_neg (by omega), if_neg (by rw [nm97]; decide), if_neg (by omega)]
              exact ⟨rfl, rfl⟩
            rw [hc.1, hc.2] at hpa
            obtain ⟨T, hT⟩ : ∃ T, T = 3999 + M := ⟨_, rfl⟩
            have HP := Lib.hid (show Calls Try.prog 16 #[.string ⟨#[97]⟩, .slice A es.length c] wr fun e w' => ∃ (yA : Option Addr) (yc : Nat), e = .returned (.tuple #[.slice yA T yc, .int .i64 0]) ∧ Below wr.heap.size wr w' from hpa.mono fun e w' h => by
              obtain ⟨x, h1, _, _, h4, h5, _⟩ := h
              have hl : x.ts.length = T := by rw [← tus_len, h4]; omega
              rw [hl] at h1
              exact ⟨x.A, x.c, h1, h5⟩)
            have hbI : ¬ (1 : Int) < (M : Int) := by omega
            have hTI : (T : Int) = 3999 + (M : Int) := by omega
            have hTE : ((T : Int) == 3999 + (M : Int)) = true := beq_iff_eq.2 hTI
            clear hpa hc hln hbig hT hTI
            go_wp2_with (go_at_call 16; (with_reducible refine HP.out.mono ?_); rintro e w9 ⟨yA, yc, rfl, p1⟩; have B9 := Lib.hid (B3.out.trans (lower' p1 B3.out.size)); clear p1 HP)
            go_ret
            exact ⟨rfl, B9.out⟩
end Go.Proofs.Ytmldiojlglpoiaa
