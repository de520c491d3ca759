/- The law SpanRow, walked. -/
import Derived.Test.YtmldiojlglpoiaaSpanGreatW
namespace Go.Proofs.Ytmldiojlglpoiaa
open Go.RowKit Go.Maps Go.Sort

theorem rem30 (n : Int) : ∃ k : Nat, 2 ≤ k ∧ k ≤ 31 ∧ wrap64 (wrap64 ((IntKind.u64.wrap n).tmod 30) + 2) = (k : Int) := by
  have h2 : 0 ≤ IntKind.u64.wrap n := by
    rw [IntKind.wrap_u64]
    omega
  generalize IntKind.u64.wrap n = u at h2
  refine ⟨(u % 30).toNat + 2, by omega, by omega, ?_⟩
  have e : u.tmod 30 = u % 30 := Int.tmod_eq_emod_of_nonneg h2
  rw [e]
  unfold wrap64
  omega
theorem remN (n : Int) {N : Nat} (h1 : 2 ≤ N) (h2 : N ≤ 31) : ∃ k : Nat, k < N ∧ (IntKind.u64.wrap n).tmod (N : Int) = (k : Int) := by
  have h3 : 0 ≤ IntKind.u64.wrap n := by
    rw [IntKind.wrap_u64]
    omega
  generalize IntKind.u64.wrap n = u at h3
  have e : u.tmod (N : Int) = u % (N : Int) := Int.tmod_eq_emod_of_nonneg h3
  have h4 : u % (N : Int) < (N : Int) := Int.emod_lt_of_pos _ (by omega)
  have h5 : 0 ≤ u % (N : Int) := Int.emod_nonneg _ (by omega)
  exact ⟨(u % (N : Int)).toNat, by omega, by rw [e]; omega⟩
abbrev rowL : Nm := [114, 111, 119]
def rwB (N j : Nat) : List Ed := (List.range j).map fun t : Nat => ⟨7 * ((N : Int) - 2 - t), rowL, 7 * ((N : Int) - 2 - t + 1)⟩
theorem rwB_succ (N j : Nat) : rwB N (j + 1) = rwB N j ++ [⟨7 * ((N : Int) - 2 - j), rowL, 7 * ((N : Int) - 2 - j + 1)⟩] := by unfold rwB; rw [List.range_succ, List.map_append]; rfl
theorem rwB_len (N j : Nat) : (rwB N j).length = j := by unfold rwB; simp
def f7 (i : Nat) : Int := 7 * (i : Int)
theorem row7 {N : Nat} (h : 2 ≤ N) : IsRow13 f7 (N - 1) (prsL rowL (rwB N (N - 1))) := by
  refine ⟨fun i j h => by unfold f7; omega, fun p => ?_⟩
  obtain ⟨a, b⟩ := p
  rw [mem_prsL]
  unfold f7
  constructor
  · rintro ⟨e, he, _, h1, h2⟩
    obtain ⟨t, ht, rfl⟩ := List.mem_map.1 he
    have := List.mem_range.1 ht
    refine ⟨N - 2 - t, by omega, ?_⟩
    dsimp only at h1 h2
    rw [← h1, ← h2]
    simp
    omega
  · rintro ⟨i, hi, e⟩
    injection e with e1 e2
    exact ⟨_, List.mem_map.2 ⟨N - 2 - i, List.mem_range.2 (by omega), rfl⟩, rfl, by rw [e1]; dsimp only; omega, by rw [e2]; dsimp only; omega⟩
theorem row7_len {N : Nat} (h : 2 ≤ N) : (spanL (prsL rowL (rwB N (N - 1)))).length * 2 = N * (N - 1) := by
  rw [(spanL_clos (row7 h).clos).2, rowS_len]
  rw [Nat.sub_add_cancel (by omega), Nat.mul_comm]
theorem rings_none {S : List Pr} (h : ∀ a, (a, a) ∉ S) : ringsR S = [] := by
  have h0 : loopsR S = [] := by
    rcases hl : loopsR S with _ | ⟨a, r⟩
    · rfl
    · have : a ∈ loopsR S := by rw [hl]; exact List.mem_cons_self ..
      exact absurd (mem_loopsR.1 this) (h a)
  unfold ringsR
  rw [h0]
  rfl
theorem row7_rings {N : Nat} (h : 2 ≤ N) {S : List Pr} (hS : ClosOk (prsL rowL (rwB N (N - 1))) S) : ringsR S = [] := by
  refine rings_none fun a ha => ?_
  obtain ⟨i, j, hij, _, e1, e2⟩ := (row7 h).lead.1 ((hS.mem a a).1 ha)
  have := (row7 h).rise i j hij
  omega
theorem row7_way {N a b : Nat} (h : 2 ≤ N) (ha : a < N) {r : List Int} (hb : b < N) (hw : FirstWay (InE (prsL rowL (rwB N (N - 1)))) (7 * (a : Int)) r (7 * (b : Int))) : a < b ∧ r.length + a = b ∧ ∀ i (hi : i < r.length + 1), (7 * (a : Int) :: r)[i]'(by simpa using hi) = 7 * ((a : Int) + (i : Int)) := by
  have hw' : WayTo (InE (prsL rowL (rwB N (N - 1)))) (f7 a) r (7 * (b : Int)) := hw.way
  obtain ⟨h1, h2, h3⟩ := (row7 h).way (i := a) (by omega) hw'
  have h0 := List.length_pos_iff.2 hw.ne
  unfold f7 at h2
  refine ⟨by omega, by omega, fun i hi => ?_⟩
  cases i with
  | zero => simp
  | succ i =>
    rw [List.getElem_cons_succ]
    have h4 : r[i]? = some (f7 (a + 1 + i)) := by
      rw [h1, List.getElem?_map, List.getElem?_range (by omega)]
      rfl
    rw [List.getElem?_eq_getElem (by omega)] at h4
    injection h4 with h4
    rw [h4]
    unfold f7
    omega
theorem row7_lead {N a b : Nat} (h : 2 ≤ N) (ha : a < N) (hb : b < N) : Lead (InE (prsL rowL (rwB N (N - 1)))) (7 * (a : Int)) (7 * (b : Int)) ↔ a < b := by
  rw [(row7 h).lead]
  unfold f7
  constructor
  · rintro ⟨i, j, h1, h2, h3, h4⟩
    omega
  · exact fun hab => ⟨a, b, hab, by omega, rfl, rfl⟩
theorem nmRow : isNm rowL = true := by decide +kernel
set_option maxRecDepth 100000 in
set_option maxHeartbeats 4000000 in
theorem spanRow_walk (n0 n1 n2 : Int) (W : World) : Calls Try.prog 9 #[.int .i64 n0, .int .i64 n1, .int .i64 n2] W fun e w' => e = .returned (.bool true) ∧ Below W.heap.size W w' := by
  have HAW := Lib.hid awake13_any
  obtain ⟨N, hN1, hN2, hN3⟩ := rem30 n0
  obtain ⟨a, ha1, ha2⟩ := remN n1 hN1 hN2
  obtain ⟨b, hb1, hb2⟩ := remN n2 hN1 hN2
  have hNw : IntKind.u64.wrap (N : Int) = (N : Int) := by rw [IntKind.wrap_u64]; omega
  have hN0 : ¬ (N : Int) = 0 := by omega
  have hN0' : ((N : Int) == 0) = false := beq_eq_false_iff_ne.2 hN0
  have HN := Lib.hid hN3
  clear hN3
  go_enter Try.func9, Try.ntmps9
  go_upto_region 4 with (go_at_call 15; (with_reducible refine (HAW.out _).mono ?_); rintro e w1 ⟨rfl, hb1⟩; have B1 := Lib.hid hb1; clear hb1)
  rw [HN.out]
  clear HN HAW
  go_quiet (fail)
  have B2 := Lib.hid (Below.drewN' B1.out nq)
  generalize w1.drewN nq = w2 at B2 ⊢
  clear B1 ha2 hb2 hNw hN0'
  generalize IntKind.u64.wrap n0 = u0
  go_wp2_with (fail)
  go_loopw [7, 8] (fun v i wr => ∃ j m : Nat, m + j + 1 = N ∧ i = .int .i64 ((m : Int) - 1) ∧ Hid (EdRow W.heap.size wr v (rwB N j) ∧ Below W.heap.size W wr)) (fun _ i _ => ((intOf i) + 1).toNat)
  case atStart => exact ⟨0, N - 1, by omega, by congr 1; omega, Lib.hid ⟨EdRow.nil _ _, B2.out⟩⟩
  case round =>
    obtain ⟨j, m, hm, rfl, hrel⟩ := hrel
    cases m with
    | succ p =>
      rw [show (((p + 1 : Nat) : Int) - 1) = (p : Int) from by omega]
      have hpI : (p : Int) ≤ 30 := by omega
      obtain ⟨v5, w5, hrun, h5, b5⟩ := hrel.out.1.push ⟨7 * (p : Int), [114, 111, 119], 7 * ((p : Int) + 1)⟩ (by rw [rwB_len]; omega) hrel.out.2.size
      have e5 : rwB N j ++ [⟨7 * (p : Int), [114, 111, 119], 7 * ((p : Int) + 1)⟩] = rwB N (j + 1) := by
        rw [rwB_succ]
        have e : (N : Int) - 2 - j = (p : Int) := by omega
        rw [e]
      rw [e5] at h5
      have H5 := Lib.hid (And.intro h5 (hrel.out.2.trans b5))
      dsimp only at hrun
      clear h5 b5 hrel e5
      go_wp2_with (at_builtin; refine wpL_appK _ rfl (.tmp 41) (.tmp 48) 22 rfl rfl _ _ _ _ rfl rfl hrun ?_)
      go_roundw
      case rel => exact ⟨j + 1, p, by omega, by go_num, H5⟩
      case measure => simp [intOf]; try omega
    | zero =>
      rw [show (((0 : Nat) : Int) - 1) = -1 from rfl]
      obtain rfl : j = N - 1 := by omega
      obtain ⟨A, c, rfl, hE⟩ := hrel.out.1.es (by rw [rwB_len]; omega)
      have B3 := Lib.hid hrel.out.2
      have HPA := Lib.hid fun WW (hW : Es WW A c (rwB N (N - 1))) => Pairs_any rowL A c _ WW hW
      have HRA := Lib.hid fun WW (hW : Es WW A c (rwB N (N - 1))) => Rings_any rowL A c _ WW hW
      have HWA := Lib.hid fun WW (hW : Es WW A c (rwB N (N - 1))) => Way_any rowL A c _ (7 * (a : Int)) (7 * (b : Int)) WW hW
      obtain ⟨Q, hQ⟩ : ∃ Q, Q = (spanL (prsL rowL (rwB N (N - 1)))).length := ⟨_, rfl⟩
      have hQ2 : Q * 2 = N * (N - 1) := by rw [hQ]; exact row7_len hN1
      have hQ3 : N * (N - 1) ≤ 31 * 30 := Nat.mul_le_mul hN2 (by omega)
      have hpc : pairsC rowL (prsL rowL (rwB N (N - 1))) = 0 ∧ pairsR rowL (prsL rowL (rwB N (N - 1))) = spanL (prsL rowL (rwB N (N - 1))) := by
        unfold pairsC pairsR
        rw [if_neg (by rw [nmRow]; decide), if_neg (by omega), if_neg (by rw [nmRow]; decide), if_neg (by omega)]
        exact ⟨rfl, rfl⟩
      have hE0 := Lib.hid hE
      have HP := Lib.hid fun WW (hW : Below wr.heap.size wr WW) => (show Calls Try.prog 16 #[.string ⟨#[114, 111, 119]⟩, .slice A (rwB N (N - 1)).length c] WW fun e w' => ∃ (yA : Option Addr) (yc : Nat), e = .returned (.tuple #[.slice yA Q yc, .int .i64 0]) ∧ Below wr.heap.size wr w' from (HPA.out WW (hE0.out.below hW)).mono fun e w' h => by
        obtain ⟨x, h1, _, _, h4, h5, _⟩ := h
        rw [hpc.1] at h1
        rw [hpc.2] at h4
        have hl : x.ts.length = Q := by rw [← tus_len, h4, hQ]
        rw [hl] at h1
        exact ⟨x.A, x.c, h1, hW.trans (lower' h5 hW.size)⟩)
      have HR := Lib.hid fun WW (hW : Below wr.heap.size wr WW) => (show Calls Try.prog 23 #[.string ⟨#[114, 111, 119]⟩, .slice A (rwB N (N - 1)).length c] WW fun e w' => ∃ (yA : Option Addr) (yc : Nat), e = .returned (.tuple #[.slice yA 0 yc, .int .i64 0]) ∧ Below wr.heap.size wr w' from (HRA.out WW (hE0.out.below hW)).mono fun e w' h => by
        rcases h with ⟨h1, _⟩ | ⟨_, y, h3, h4, h5, h6⟩
        · rw [nmRow] at h1; cases h1
        · obtain ⟨S, hS⟩ := clos_ex (prsL rowL (rwB N (N - 1)))
          have hy := h5 S hS
          rw [row7_rings hN1 hS] at hy
          have hl : y.ts.length = 0 := by rw [← tus_len, hy]; rfl
          rw [hl] at h3
          exact ⟨y.A, y.c, h3, hW.trans (lower' h6 hW.size)⟩)
      have hQI : (N : Int) * ((N : Int) - 1) = (Q : Int) * 2 := by
        have h1 : ((Q * 2 : Nat) : Int) = ((N * (N - 1) : Nat) : Int) := by rw [hQ2]
        rw [Int.natCast_mul, Int.natCast_mul, Int.natCast_sub (by omega)] at h1
        exact h1.symm
      have hQd : ((Q : Int) * 2).tdiv 2 = (Q : Int) := Int.mul_tdiv_cancel _ (by decide)
      have hQb : (Q : Int) ≤ 465 := by omega
      have haI : (a : Int) ≤ 30 := by omega
      have hbI : (b : Int) ≤ 30 := by omega
      clear hrel hE HPA HRA hpc hQ hQ2 hQ3 hm
      by_cases hab : a < b
      · have habI : (a : Int) < (b : Int) := by omega
        have HW := Lib.hid fun WW (hW : Below wr.heap.size wr WW) => (show Calls Try.prog 20 #[.string ⟨#[114, 111, 119]⟩, .slice A (rwB N (N - 1)).length c, .int .i64 (7 * (a : Int)), .int .i64 (7 * (b : Int))] WW fun e w' => ∃ (u : TV), e = .returned (.tuple #[.slice u.A u.l.length u.c, .int .i64 0]) ∧ (u.l.length : Int) = (b : Int) - (a : Int) + 1 ∧ (∀ i (hi : i < u.l.length), u.l[i] = 7 * ((a : Int) + (i : Int))) ∧ u.Ok w' ∧ Below wr.heap.size wr w' from (HWA.out WW (hE0.out.below hW)).mono fun e w' h => by
          rcases h with ⟨h1, _⟩ | ⟨_, h2, _⟩ | ⟨_, u, r, h3, h4, hr5, h6, h7, h8⟩
          · rw [nmRow] at h1; cases h1
          · exact absurd ((row7_lead hN1 ha1 hb1).2 hab) h2
          · obtain ⟨k1, k2, k3⟩ := row7_way hN1 ha1 hb1 h6
            have hl : u.l.length = r.length + 1 := by rw [h4]; rfl
            exact ⟨u, h3, by omega, fun i hi => by simp only [h4]; exact k3 i (by omega), h7.ok (by omega), hW.trans (lower' h8 hW.size)⟩)
        clear HWA hE0
        go_wp2_with (first
          | (go_at_call 16; (with_reducible refine (HP.out _ (Below.refl _ _)).mono ?_); rintro e w6 ⟨pA, pc, rfl, b6⟩; have B6 := Lib.hid b6; clear b6)
          | (go_at_call 23; (with_reducible refine (HR.out _ B6.out).mono ?_); rintro e w7 ⟨rA, rc, rfl, b7⟩; have B7 := Lib.hid b7; clear b7)
          | (go_at_call 20; (with_reducible refine (HW.out _ B7.out).mono ?_); rintro e w8 ⟨u, rfl, u1, u2, u3, b8⟩; have B8 := Lib.hid (And.intro (B3.out.trans (lower' b8 B3.out.size)) (And.intro u2 u3)); have U1 := Lib.hid u1; clear b8 u2 u3))
        clear u1 HP HR HW
        go_loopw [116] (fun i wq => ∃ k : Nat, k ≤ u.l.length ∧ i = .int .i64 (k : Int) ∧ wq = w8) (fun i _ => u.l.length - (intOf i).toNat)
        case atStart => exact ⟨0, by omega, rfl, rfl⟩
        case round =>
          obtain ⟨k, hk, rfl, rfl⟩ := hrel
          have hul := U1.out
          by_cases hku : k < u.l.length
          · have hkI : (k : Int) < (u.l.length : Int) := by omega
            obtain ⟨ub, uo, huA, _, u0⟩ := B8.out.2.2.cell hku
            rw [B8.out.2.1 k hku] at u0
            rw [huA]
            have hkb : (k : Int) ≤ 31 := by omega
            have hkJ : (k : Int) < (b : Int) - (a : Int) + 1 := by omega
            clear hul
            go_wp2_with (fail)
            go_roundw
            case rel => exact ⟨k + 1, by omega, by go_num, (by first | rfl | trivial)⟩
            case measure => simp [intOf]; omega
          · have hkI : ¬ (k : Int) < (u.l.length : Int) := by omega
            have hkJ : ¬ (k : Int) < (b : Int) - (a : Int) + 1 := by omega
            clear hul
            go_wp2_with (fail)
            go_ret
            exact ⟨rfl, B8.out.1⟩
      · have habI : ¬ (a : Int) < (b : Int) := by omega
        have HW := Lib.hid fun WW (hW : Below wr.heap.size wr WW) => (show Calls Try.prog 20 #[.string ⟨#[114, 111, 119]⟩, .slice A (rwB N (N - 1)).length c, .int .i64 (7 * (a : Int)), .int .i64 (7 * (b : Int))] WW fun e w' => e = .returned (.tuple #[.slice none 0 0, .int .i64 4]) ∧ Below wr.heap.size wr w' from (HWA.out WW (hE0.out.below hW)).mono fun e w' h => by
          rcases h with ⟨h1, _⟩ | ⟨_, _, h3, h4⟩ | ⟨_, u, r, _, _, _, h6, _⟩
          · rw [nmRow] at h1; cases h1
          · exact ⟨h3, hW.trans (lower' h4 hW.size)⟩
          · exact absurd ((row7_lead hN1 ha1 hb1).1 h6.lead) hab)
        clear HWA hE0
        go_wp2_with (first
          | (go_at_call 16; (with_reducible refine (HP.out _ (Below.refl _ _)).mono ?_); rintro e w6 ⟨pA, pc, rfl, b6⟩; have B6 := Lib.hid b6; clear b6)
          | (go_at_call 23; (with_reducible refine (HR.out _ B6.out).mono ?_); rintro e w7 ⟨rA, rc, rfl, b7⟩; have B7 := Lib.hid b7; clear b7)
          | (go_at_call 20; (with_reducible refine (HW.out _ B7.out).mono ?_); rintro e w8 ⟨rfl, b8⟩; have B8 := Lib.hid (B3.out.trans (lower' b8 B3.out.size)); clear b8))
        go_ret
        exact ⟨rfl, B8.out⟩
end Go.Proofs.Ytmldiojlglpoiaa
