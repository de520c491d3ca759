/- The law JoinGreat, walked. -/
import Derived.Test.YtobieolonlddlaaJoAB
import Derived.Test.YtobieolonlddlaaJoAC
import Derived.Test.YtobieolonlddlaaJoAD
namespace Go.Proofs.Ytobieolonlddlaa
open Go.RowKit Go.Maps

theorem rem60 (n : Int) : ∃ k : Nat, 1 ≤ k ∧ k ≤ 60 ∧ wrap64 (wrap64 ((IntKind.u64.wrap n).tmod 60) + 1) = (k : Int) := by
  have h2 : 0 ≤ IntKind.u64.wrap n := by
    rw [IntKind.wrap_u64]
    omega
  generalize IntKind.u64.wrap n = u at h2
  refine ⟨(u % 60).toNat + 1, by omega, by omega, ?_⟩
  have e : u.tmod 60 = u % 60 := Int.tmod_eq_emod_of_nonneg h2
  rw [e]
  unfold wrap64
  omega
theorem greatE_ok {n m : Nat} (hn : n ≤ 60) (hm : m ≤ 60) : ∀ e ∈ greatE n m, e.Ok := by
  intro e he
  unfold greatE fanE at he
  rcases List.mem_append.1 he with h | h
  · obtain ⟨i, hi, rfl⟩ := List.mem_map.1 h
    have := List.mem_range.1 hi
    exact ⟨by unfold I64; dsimp only; omega, by unfold I64; dsimp only; omega, by simp [maxLen]⟩
  · obtain ⟨i, hi, rfl⟩ := List.mem_map.1 h
    have := List.mem_range.1 hi
    exact ⟨by unfold I64; dsimp only; omega, by unfold I64; dsimp only; omega, by simp [maxLen]⟩
theorem greatE_len (n m : Nat) : (greatE n m).length = n + m := by unfold greatE; rw [List.length_append, fanE_len, fanE_len]
/-- The law's call of Result. -/
theorem great_result (n m : Nat) (A : Option Addr) (c : Nat) (w : World) (hE : Eds w A c (greatE n m)) :
    Calls Try.prog 13 #[.agg #[.string ⟨#[118]⟩, .int .i64 1, .slice (some ⟨w.heap.size, 0, none⟩) 1 1, .slice (some ⟨w.heap.size + 1, 0, none⟩) 2 2, .string ⟨#[]⟩], .slice A (greatE n m).length c]
      (((w.alloc (.cells #[.string ⟨#[120]⟩] 9)).alloc (.cells #[.string ⟨#[120]⟩, .string ⟨#[97]⟩, .string ⟨#[121]⟩, .string ⟨#[120]⟩, .string ⟨#[98]⟩, .string ⟨#[122]⟩] 49)).alloc (.cells #[.string ⟨#[118]⟩, .int .i64 1, .slice (some ⟨w.heap.size, 0, none⟩) 1 1, .slice (some ⟨w.heap.size + 1, 0, none⟩) 2 2, .string ⟨#[]⟩] 25))
      fun e w' => ∃ (y : LV) (q : TV), e = .returned (.tuple #[.slice y.A y.ts.length y.c, .slice q.A q.l.length q.c, .int .i64 (rowsC greatV (greatE n m))]) ∧ tus y.ts = resR greatV (greatE n m) ∧ q.Ok w' ∧ q.l = resN greatV (greatE n m) ∧ Below w.heap.size w w' := by
  obtain ⟨h2, h1, hb⟩ := new3 w (.cells #[.string ⟨#[120]⟩] 9) (.cells #[.string ⟨#[120]⟩, .string ⟨#[97]⟩, .string ⟨#[121]⟩, .string ⟨#[120]⟩, .string ⟨#[98]⟩, .string ⟨#[122]⟩] 49) (.cells #[.string ⟨#[118]⟩, .int .i64 1, .slice (some ⟨w.heap.size, 0, none⟩) 1 1, .slice (some ⟨w.heap.size + 1, 0, none⟩) 2 2, .string ⟨#[]⟩] 25)
  have h0 := keepA (o' := .cells #[.string ⟨#[118]⟩, .int .i64 1, .slice (some ⟨w.heap.size, 0, none⟩) 1 1, .slice (some ⟨w.heap.size + 1, 0, none⟩) 2 2, .string ⟨#[]⟩] 25) (keepA (o' := .cells #[.string ⟨#[120]⟩, .string ⟨#[97]⟩, .string ⟨#[121]⟩, .string ⟨#[120]⟩, .string ⟨#[98]⟩, .string ⟨#[122]⟩] 49) (newA (W := w) (o := .cells #[.string ⟨#[120]⟩] 9) rfl))
  have ho := sts_lit (l := [[120]]) h0 (by simp)
  have ha := ats_lit (l := greatV.atoms) h1 (by simp [greatV])
  refine Calls.mono (result_any ⟨some ⟨w.heap.size, 0, none⟩, 1, some ⟨w.heap.size + 1, 0, none⟩, 2, greatV⟩ A c (greatE n m) _ ⟨ho, ha⟩ (hE.below hb)) ?_
  rintro e w' ⟨y, q, rfl, _, p2, p3, _, p5, p6, p7⟩
  exact ⟨y, q, rfl, p3, p5, p6, hb.trans (lower' p7 hb.size)⟩
set_option maxRecDepth 100000 in
set_option maxHeartbeats 4000000 in
theorem joinGreat_walk (n0 n1 : Int) (W : World) : Calls Try.prog 7 #[.int .i64 n0, .int .i64 n1] W fun e w' => e = .returned (.bool true) ∧ Below W.heap.size W w' := by
  have HAW := Lib.hid jawake_any
  obtain ⟨N, hN1, hN2, hN3⟩ := rem60 n0
  obtain ⟨M, hM1, hM2, hM3⟩ := rem60 n1
  obtain ⟨P, hP⟩ : ∃ P : Nat, P = N * M := ⟨_, rfl⟩
  have hP0 : 1 ≤ P := by rw [hP]; exact Nat.mul_le_mul hN1 hM1
  have hP1 : P ≤ 3600 := by rw [hP]; exact Nat.mul_le_mul hN2 hM2
  have hPI : (N : Int) * (M : Int) = (P : Int) := by rw [hP]; exact (Int.natCast_mul N M).symm
  have hPW : IntKind.i64.wrap ((N : Int) * (M : Int)) = (P : Int) := by rw [hPI]; exact IntWalk.i64_in _ (by omega)
  have HN := Lib.hid hN3
  have HM := Lib.hid hM3
  have HP := Lib.hid (And.intro hP hPW)
  clear hN3 hM3 hP hPI hPW
  go_enter Try.func7, Try.ntmps7
  go_upto_region 4 with (go_at_call 9; (with_reducible refine (HAW.out _).mono ?_); rintro e w1 ⟨rfl, hb1⟩; have B1 := Lib.hid hb1; clear hb1)
  rw [HN.out, HM.out]
  clear HN HM HAW
  go_wp2_with (fail)
  go_loopw [5, 6] (fun v i wr => ∃ k : Nat, k ≤ N ∧ i = .int .i64 (k : Int) ∧ Hid (EdRow W.heap.size wr v (fanE [97] k) ∧ Below W.heap.size W wr)) (fun _ i _ => N - (intOf i).toNat)
  case atStart => exact ⟨0, by omega, rfl, Lib.hid ⟨EdRow.nil _ _, B1.out⟩⟩
  case round =>
    obtain ⟨k, hk, rfl, hrel⟩ := hrel
    by_cases hlt : k < N
    · have hlI : (k : Int) < (N : Int) := by omega
      obtain ⟨v5, w5, hrun, h5, b5⟩ := hrel.out.1.push ⟨1, [97], (k : Int) + 2⟩ (by rw [fanE_len]; omega) hrel.out.2.size
      rw [← fanE_succ] at h5
      have H5 := Lib.hid (And.intro h5 (hrel.out.2.trans b5))
      dsimp only at hrun
      clear h5 b5 hrel
      go_wp2_with (at_builtin; refine wpL_appK _ rfl (.tmp 29) (.tmp 33) 26 rfl rfl _ _ _ _ rfl rfl hrun ?_)
      go_roundw
      case rel => exact ⟨k + 1, by omega, by go_num, H5⟩
      case measure => simp [intOf]; omega
    · obtain rfl : k = N := by omega
      have hlI : ¬ (k : Int) < (k : Int) := by omega
      go_wp2_with (fail)
      have HA := Lib.hid hrel.out
      clear hrel hlI hlt hk
      go_loopw [5, 7] (fun v i wr => ∃ j : Nat, j ≤ M ∧ i = .int .i64 (j : Int) ∧ Hid (EdRow W.heap.size wr v (greatE k j) ∧ Below W.heap.size W wr)) (fun _ i _ => M - (intOf i).toNat)
      case atStart => exact ⟨0, by omega, rfl, Lib.hid ⟨by have := HA.out.1; unfold greatE; rw [show fanE [98] 0 = [] from rfl, List.append_nil]; exact this, HA.out.2⟩⟩
      case round =>
        obtain ⟨j, hj, rfl, hrel⟩ := hrel
        by_cases hlt : j < M
        · have hlI : (j : Int) < (M : Int) := by omega
          obtain ⟨v5, w5, hrun, h5, b5⟩ := hrel.out.1.push ⟨1, [98], (j : Int) + 2⟩ (by rw [greatE_len]; omega) hrel.out.2.size
          have e5 : greatE k j ++ [⟨1, [98], (j : Int) + 2⟩] = greatE k (j + 1) := by unfold greatE; rw [fanE_succ, List.append_assoc]
          rw [e5] at h5
          have H5 := Lib.hid (And.intro h5 (hrel.out.2.trans b5))
          dsimp only at hrun
          clear h5 b5 hrel e5
          go_wp2_with (at_builtin; refine wpL_appK _ rfl (.tmp 40) (.tmp 44) 26 rfl rfl _ _ _ _ rfl rfl hrun ?_)
          go_roundw
          case rel => exact ⟨j + 1, by omega, by go_num, H5⟩
          case measure => simp [intOf]; omega
        · obtain rfl : j = M := by omega
          have hlI : ¬ (j : Int) < (j : Int) := by omega
          obtain ⟨A, c, rfl, hE⟩ := hrel.out.1.eds (greatE_ok hN2 hM2) (by rw [greatE_len]; omega)
          have B3 := Lib.hid hrel.out.2
          have HR := Lib.hid (great_result k j A c _ hE)
          clear hE hrel HA
          have hcode := great_code k j hN2
          by_cases hbig : 3000 < P
          · have hc : rowsC greatV (greatE k j) = 5 := by rw [hcode, if_pos (by rw [← HP.out.1]; exact hbig)]
            obtain ⟨g1, g2⟩ := great_none k j hN2 (by rw [← HP.out.1]; exact hbig)
            have hbI : (3000 : Int) < (P : Int) := by omega
            have hPW := HP.out.2
            rw [hc, g1, g2] at HR
            clear hcode hc g1 g2 hbig
            go_upto_region 15 with (go_at_call 13; (with_reducible refine HR.out.mono ?_); rintro e w9 ⟨y, q, rfl, p1, p2, p3, p4⟩)
            have l1 : y.ts.length = 0 := by have := congrArg List.length p1; rw [tus_len] at this; exact this
            have l2 : q.l.length = 0 := by rw [p3]; rfl
            rw [l1]; (try rw [l2])
            have B9 := Lib.hid (B3.out.trans (lower' p4 B3.out.size))
            clear HR l1 l2 p1 p2 p3 p4
            go_wp2_with (fail)
            go_ret
            exact ⟨rfl, B9.out⟩
          · have hc : rowsC greatV (greatE k j) = 0 := by rw [hcode, if_neg (by rw [← HP.out.1]; exact hbig)]
            obtain ⟨g1, g2⟩ := great_res k j hN2 (by rw [← HP.out.1]; exact hbig) (by rw [← HP.out.1]; omega)
            have hbI : ¬ (3000 : Int) < (P : Int) := by omega
            have hPW := HP.out.2
            rw [← HP.out.1] at g2
            rw [hc, g1, g2] at HR
            clear hcode hc g1 g2 hbig
            go_upto_region 15 with (go_at_call 13; (with_reducible refine HR.out.mono ?_); rintro e w9 ⟨y, q, rfl, p1, p2, p3, p4⟩)
            have l1 : y.ts.length = 1 := by have := congrArg List.length p1; rw [tus_len] at this; exact this
            have l2 : q.l.length = 1 := by rw [p3]; rfl
            obtain ⟨b, o, hA, _, c0⟩ := p2.cell (k := 0) (by omega)
            have e0 : q.l[0]'(by omega) = (P : Int) := by simp only [p3]; rfl
            rw [e0, Nat.add_zero] at c0
            rw [l1, hA]; (try rw [l2])
            have B9 := Lib.hid (B3.out.trans (lower' p4 B3.out.size))
            clear HR l1 l2 p1 p2 p3 p4 hA e0
            go_wp2_with (fail)
            go_ret
            exact ⟨rfl, B9.out⟩
end Go.Proofs.Ytobieolonlddlaa
