/- ValEnds: the walk. -/
import Derived.Test.YtinhmchekdolmaaDoorProg
import Derived.Test.YtinhmchekdolmaaDoorValN
import Derived.Test.YtinhmchekdolmaaDoorValZ
import Derived.Test.YtinhmchekdolmaaDoorValHH
import Derived.Test.YtinhmchekdolmaaDoorValII
import Derived.WalkKit
import Derived.WalkSpells
import Derived.WalkLawsBesides
import Derived.Deep.QuietTactic
import Derived.Deep.RegionHeld3
import Derived.Deep.DeepCutAuto
import Derived.Deep.CutRange
import Derived.BigQuiet
import Derived.KernelRfl
import Derived.Lib.Hide
import Derived.Lib.ItoaLen
namespace Go.Proofs.YtinhmchekdolmaaDoor
open Go.RowKit

/-- What a number's round calls, and what comes of it. -/
theorem ends_calls (M : Int) (h0 : -4611686018427387905 ≤ M) (h1 : M ≤ 4611686018427387905) (L : Nat) (hL : L = 1 + (digs (foldN M)).length) :
    (∀ W, Tabs W → Calls Tryd.prog 13 #[.agg #[.int .i64 1, .int .i64 M, .string ⟨#[]⟩]] W fun e w' => ∃ A c, e = .returned (.tuple #[.slice A L c, .int .i64 0]) ∧ L ≤ c ∧ c ≤ 9223372036854775807 ∧ Rd w' w'.heap.size A (u8s (encV ⟨1, M, ⟨#[]⟩⟩)) ∧ Below W.heap.size W w')
    ∧ (∀ W, Tabs W → Calls Tryd.prog 14 #[.agg #[.int .i64 1, .int .i64 M, .string ⟨#[]⟩]] W fun e w' => e = .returned (.tuple #[.string ⟨(Lib.itoa M).toArray⟩, .int .i64 0]) ∧ Below W.heap.size W w')
    ∧ (∀ W, Tabs W → Calls Tryd.prog 20 #[.string ⟨(Lib.itoa M).toArray⟩] W fun e w' => e = .returned (.tuple #[.agg #[.int .i64 1, .int .i64 M, .string ⟨#[]⟩], .int .i64 0]) ∧ Below W.heap.size W w')
    ∧ (∀ W A c, Tabs W → Rd W W.heap.size A (u8s (encV ⟨1, M, ⟨#[]⟩⟩)) → L ≤ c → c ≤ 9223372036854775807 → Calls Tryd.prog 19 #[.slice A L c] W fun e w' => e = .returned (.tuple #[.agg #[.int .i64 1, .int .i64 M, .string ⟨#[]⟩], .int .i64 (L : Int), .int .i64 0]) ∧ Below W.heap.size W w')
    ∧ (∀ W, Calls Tryd.prog 30 #[.int .i64 M] W fun e w' => e = .returned (.string ⟨(Lib.itoa M).toArray⟩) ∧ Below W.heap.size W w') := by
  have hfit : VVal.fits ⟨1, M, ⟨#[]⟩⟩ := ⟨by show (0 : Nat) ≤ 140737488355328; omega, by simp only; omega, by simp only; omega⟩
  have hck : ckN ⟨1, M, ⟨#[]⟩⟩ = 0 := if_pos rfl
  have henc : encR ⟨1, M, ⟨#[]⟩⟩ = encV ⟨1, M, ⟨#[]⟩⟩ := if_pos hck
  have heL : (encV ⟨1, M, ⟨#[]⟩⟩).length = L := by
    rw [hL]; unfold encV; rw [if_pos rfl, List.length_cons]; exact Nat.add_comm _ _
  have hLb : L ≤ 100 := by
    have := digs_length 10 (foldN M) (by have := foldN_lt M (by omega) (by omega); omega)
    omega
  have hsh : showR ⟨1, M, ⟨#[]⟩⟩ = Lib.itoa M := by
    unfold showR showV
    rw [if_pos hck, if_pos rfl]
  refine ⟨fun W hT => ?_, fun W hT => ?_, fun W hT => ?_, fun W A c hT hr hc hcm => ?_, fun W => ?_⟩
  · refine (encode_any _ W hfit hT).mono ?_
    rintro e w' ⟨v', rfl, hown, hb⟩
    rw [henc] at hown
    obtain ⟨Ae, ce, rfl, hc, hm, hr, -⟩ := hown.shape
    rw [heL] at hc ⊢
    rw [hck]
    exact ⟨Ae, ce, rfl, hc, hm, hr, hb⟩
  · refine (show_any _ W hfit hT).mono ?_
    rintro e w' ⟨rfl, hb⟩
    rw [hsh, hck]
    exact ⟨rfl, hb⟩
  · have hs : (⟨(Lib.itoa M).toArray⟩ : ByteArray).size ≤ 140737488355328 := by
      have := Lib.itoa_length_le M (by omega) (by omega)
      show (Lib.itoa M).toArray.size ≤ _
      rw [List.size_toArray]; omega
    refine (parseV_any _ W hs hT).mono ?_
    rintro e w' ⟨rfl, hb⟩
    rw [parV_itoa M (by omega) (by omega)]
    exact ⟨rfl, hb⟩
  · refine (decode_any A _ L c W.heap.size W heL.symm hr (Nat.le_refl _) (by omega) (by omega) hcm hT).mono ?_
    rintro e w' ⟨rfl, hb⟩
    have hrv := rvV_enc ⟨1, M, ⟨#[]⟩⟩ [] hfit hck
    rw [List.append_nil, heL] at hrv
    have hdc : dcV (encV ⟨1, M, ⟨#[]⟩⟩) = (⟨1, M, ⟨#[]⟩⟩, L, 0) := by
      unfold dcV
      rw [hrv, if_neg (by simp only; omega)]
      rfl
    rw [hdc]
    exact ⟨rfl, hb⟩
  · exact digits_any M W (by omega) (by omega)

set_option maxRecDepth 100000 in
set_option maxHeartbeats 2000000 in
theorem valEnds_walk (n : Int) (s : Bool) (w : World) (hT : Tabs w) :
    Calls Tryd.prog 10 #[.int .i64 n, .bool s] w fun e w' => e = .returned (.bool true) ∧ Below w.heap.size w w' := by
  obtain ⟨b, hb, hb63⟩ := count63 n
  obtain ⟨B, hB⟩ : ∃ B : Int, B = (b : Int) := ⟨_, rfl⟩
  obtain ⟨P, hP⟩ : ∃ P : Int, P = endN b false := ⟨_, rfl⟩
  have hPb : 1 ≤ P ∧ P ≤ 4611686018427387904 := by
    have h := (end_len b false 0 hb63 ⟨by decide, by decide⟩).2.2
    have h2 : endN b false = ((2 ^ b : Nat) : Int) := rfl
    have h3 : 0 < 2 ^ b := Nat.pow_pos (by decide)
    have h4 : 2 ^ b ≤ 2 ^ 62 := Nat.pow_le_pow_right (by decide) (by omega)
    have h5 : (2 : Nat) ^ 62 = 4611686018427387904 := by decide
    omega
  have hsh : Op.shift .shl .i64 1 .i64 B = pure (.int .i64 P) := by
    rw [hB, Go.shift_shl _ _ _ _ (by omega) (by show (b : Int) ≤ 64; omega)]
    congr 2
    rw [Int.one_mul, IntKind.wrap_i64, hP]
    show _ = ((2 ^ b : Nat) : Int)
    rw [Int.toNat_natCast, Int.natCast_pow]
    have : (2 : Int) ^ b = P := by rw [hP]; show _ = ((2 ^ b : Nat) : Int); rw [Int.natCast_pow]; rfl
    have e2 : ((2 : Nat) : Int) ^ b = P := this
    rw [e2]
    omega
  rw [← hB] at hb
  have HT := Lib.hid hT
  have HBW := Lib.hid hb
  have HB := Lib.hid hB
  have HB63 := Lib.hid hb63
  have HP := Lib.hid hP
  have HPB := Lib.hid hPb
  clear hT hb hB hb63 hP hPb
  go_enter Tryd.func10, Tryd.ntmps10
  go_wp2_with fail
  refine (awake_any _ HT.out).mono ?_
  rintro e w1 ⟨rfl, hb1⟩
  have HT1 := Lib.hid (HT.out.below hb1)
  have HB1 := Lib.hid hb1
  clear hb1
  go_upto_region 4 with fail
  rw [HBW.out]
  clear HBW
  have HN0 := HP.out.symm
  have HN1 : endN b true = -P := by rw [HP.out]; rfl
  cases s
  · have hN : endN b false = P := HN0
    have hNb := HPB.out
    go_upto_region 7 with fail
    go_wp2_with fail
    go_loopw [6] (fun dv wr => ∃ d : Int, dv = .int .i64 d ∧ -1 ≤ d ∧ d ≤ 2 ∧ Below w.heap.size w wr) (fun dv _ => (2 - intOf dv).toNat)
    case atStart => exact ⟨-1, rfl, by omega, by omega, HB1.out⟩
    case round =>
      clear hsh HT1 HB1
      obtain ⟨d, rfl, hd0, hd2, hb⟩ := hrel
      by_cases hd : d ≤ 1
      · have hM := end_len b false d HB63.out ⟨hd0, hd⟩
        rw [hN] at hM
        obtain ⟨L, hL⟩ : ∃ L, L = 1 + (digs (foldN (P + d))).length := ⟨_, rfl⟩
        obtain ⟨c1, c2, c3, c4, c5⟩ := ends_calls (P + d) hM.2.2.1 hM.2.2.2 L hL
        rw [← hL] at hM
        obtain ⟨hM1, hM2, hM3, hM4⟩ := hM
        have hBb := HB.out
        subst hBb
        have C1 := Lib.hid c1
        have C2 := Lib.hid c2
        have C3 := Lib.hid c3
        have C4 := Lib.hid c4
        have C5 := Lib.hid c5
        have HT0 := Lib.hid ((HT.out.below hb).alloc (.cells #[.int .i64 1, .int .i64 (P + d), .string ⟨#[]⟩] 23))
        have hg := heap_alloc_new wr (.cells #[.int .i64 1, .int .i64 (P + d), .string ⟨#[]⟩] 23)
        have hB := hb.alloc hb.size (.cells #[.int .i64 1, .int .i64 (P + d), .string ⟨#[]⟩] 23)
        have hz : wr.heap.size < (wr.alloc (.cells #[.int .i64 1, .int .i64 (P + d), .string ⟨#[]⟩] 23)).heap.size := by simp
        have hzw := hb.size
        have HM := Lib.hid (And.intro hM1 hM2)
        have hb63' := HB63.out
        clear hM1 hM2 c1 c2 c3 c4 c5 hL hb HT hN
        go_wp2_with fail
        refine (C1.out _ HT0.out).mono ?_
        rintro e w2 ⟨A, c, rfl, hc, hcm, hr, hb2⟩
        replace hg := (hb2.block wr.heap.size hz).trans hg
        have HT2 := Lib.hid (HT0.out.below hb2)
        replace hB := hB.trans (hb2.mono hB.size)
        replace hz := Nat.lt_of_lt_of_le hz hb2.size
        clear hb2 HT0
        have a0 := cell_of_row w2 wr.heap.size 0 _ _ _ hg
        have a1 := cell_of_row w2 wr.heap.size 1 _ _ _ hg
        have a2 := cell_of_row w2 wr.heap.size 2 _ _ _ hg
        go_wp2_with fail
        clear a0 a1 a2
        refine (C2.out _ HT2.out).mono ?_
        rintro e w3 ⟨rfl, hb3⟩
        replace hg := (hb3.block wr.heap.size hz).trans hg
        have HT3 := Lib.hid (HT2.out.below hb3)
        replace hB := hB.trans (hb3.mono hB.size)
        replace hz := Nat.lt_of_lt_of_le hz hb3.size
        replace hr := (hr.below hb3 (Nat.le_refl _)).more hb3.size
        clear hb3 HT2
        go_wp2_with fail
        refine (C3.out _ HT3.out).mono ?_
        rintro e w4 ⟨rfl, hb4⟩
        replace hg := (hb4.block wr.heap.size hz).trans hg
        have HT4 := Lib.hid ((HT3.out.below hb4).alloc (.cells #[.int .i64 1, .int .i64 (P + d), .string ⟨#[]⟩] 23))
        replace hB := hB.trans (hb4.mono hB.size)
        replace hz := Nat.lt_of_lt_of_le hz hb4.size
        replace hr := ((hr.below hb4 (Nat.le_refl _)).more hb4.size).alloc (Nat.le_refl _) (.cells #[.int .i64 1, .int .i64 (P + d), .string ⟨#[]⟩] 23)
        have hg4 := heap_alloc_new w4 (.cells #[.int .i64 1, .int .i64 (P + d), .string ⟨#[]⟩] 23)
        replace hg := at_old hg (.cells #[.int .i64 1, .int .i64 (P + d), .string ⟨#[]⟩] 23) hz
        replace hB := hB.alloc hB.size (.cells #[.int .i64 1, .int .i64 (P + d), .string ⟨#[]⟩] 23)
        have hz4 : w4.heap.size < (w4.alloc (.cells #[.int .i64 1, .int .i64 (P + d), .string ⟨#[]⟩] 23)).heap.size := by simp
        replace hr := hr.more (Nat.le_of_lt hz4)
        clear hb4 HT3
        go_wp2_with fail
        refine (C4.out _ A c HT4.out hr hc hcm).mono ?_
        rintro e w5 ⟨rfl, hb5⟩
        have hz5 := Nat.lt_of_lt_of_le hz4 hb5.size
        replace hg := at_old ((hb5.block wr.heap.size (Nat.lt_trans hz hz4)).trans hg) (.cells #[.int .i64 1, .int .i64 (P + d), .string ⟨#[]⟩] 23) (Nat.lt_trans hz hz5)
        replace hg4 := at_old ((hb5.block w4.heap.size hz4).trans hg4) (.cells #[.int .i64 1, .int .i64 (P + d), .string ⟨#[]⟩] 23) hz5
        have hg5 := heap_alloc_new w5 (.cells #[.int .i64 1, .int .i64 (P + d), .string ⟨#[]⟩] 23)
        replace hB := (hB.trans (hb5.mono hB.size))
        replace hB := hB.alloc hB.size (.cells #[.int .i64 1, .int .i64 (P + d), .string ⟨#[]⟩] 23)
        have a0 := cell_of_row _ wr.heap.size 0 _ _ _ hg
        have a1 := cell_of_row _ wr.heap.size 1 _ _ _ hg
        have a2 := cell_of_row _ wr.heap.size 2 _ _ _ hg
        have b0 := cell_of_row _ w4.heap.size 0 _ _ _ hg4
        have b1 := cell_of_row _ w4.heap.size 1 _ _ _ hg4
        have b2 := cell_of_row _ w4.heap.size 2 _ _ _ hg4
        have d0 := cell_of_row _ w5.heap.size 0 _ _ _ hg5
        have d1 := cell_of_row _ w5.heap.size 1 _ _ _ hg5
        have d2 := cell_of_row _ w5.heap.size 2 _ _ _ hg5
        clear hb5 HT4 hr hg hg4 hg5
        go_wp2_with fail
        refine (C5.out _).mono ?_
        rintro e w7 ⟨rfl, hb7⟩
        replace hB := hB.trans (hb7.mono hB.size)
        clear a0 a1 a2 b0 b1 b2 d0 d1 d2 hb7 C1 C2 C3 C4 C5
        have hM1 := HM.out.1
        have hM2 := HM.out.2
        have hb63 := HB63.out
        have hMa : (L : Int) ≤ (b : Int) / 7 + 4 := by omega
        have hMb : ((b : Int) + 1) / 7 ≤ (L : Int) := by omega
        clear hM1 hM2
        go_wp2
        go_roundw
        case rel => exact ⟨d + 1, by go_num, by omega, by omega, hB⟩
        case measure => simp [intOf]; omega
      · go_wp2
        go_ret
        exact ⟨rfl, hb⟩
  · have hN : endN b true = -P := HN1
    have hNb := HPB.out
    go_upto_region 7 with fail
    go_wp2_with fail
    go_loopw [6] (fun dv wr => ∃ d : Int, dv = .int .i64 d ∧ -1 ≤ d ∧ d ≤ 2 ∧ Below w.heap.size w wr) (fun dv _ => (2 - intOf dv).toNat)
    case atStart => exact ⟨-1, rfl, by omega, by omega, HB1.out⟩
    case round =>
      clear hsh HT1 HB1
      obtain ⟨d, rfl, hd0, hd2, hb⟩ := hrel
      by_cases hd : d ≤ 1
      · have hM := end_len b true d HB63.out ⟨hd0, hd⟩
        rw [hN] at hM
        obtain ⟨L, hL⟩ : ∃ L, L = 1 + (digs (foldN (-P + d))).length := ⟨_, rfl⟩
        obtain ⟨c1, c2, c3, c4, c5⟩ := ends_calls (-P + d) hM.2.2.1 hM.2.2.2 L hL
        rw [← hL] at hM
        obtain ⟨hM1, hM2, hM3, hM4⟩ := hM
        have hBb := HB.out
        subst hBb
        have C1 := Lib.hid c1
        have C2 := Lib.hid c2
        have C3 := Lib.hid c3
        have C4 := Lib.hid c4
        have C5 := Lib.hid c5
        have HT0 := Lib.hid ((HT.out.below hb).alloc (.cells #[.int .i64 1, .int .i64 (-P + d), .string ⟨#[]⟩] 23))
        have hg := heap_alloc_new wr (.cells #[.int .i64 1, .int .i64 (-P + d), .string ⟨#[]⟩] 23)
        have hB := hb.alloc hb.size (.cells #[.int .i64 1, .int .i64 (-P + d), .string ⟨#[]⟩] 23)
        have hz : wr.heap.size < (wr.alloc (.cells #[.int .i64 1, .int .i64 (-P + d), .string ⟨#[]⟩] 23)).heap.size := by simp
        have hzw := hb.size
        have HM := Lib.hid (And.intro hM1 hM2)
        have hb63' := HB63.out
        clear hM1 hM2 c1 c2 c3 c4 c5 hL hb HT hN
        go_wp2_with fail
        refine (C1.out _ HT0.out).mono ?_
        rintro e w2 ⟨A, c, rfl, hc, hcm, hr, hb2⟩
        replace hg := (hb2.block wr.heap.size hz).trans hg
        have HT2 := Lib.hid (HT0.out.below hb2)
        replace hB := hB.trans (hb2.mono hB.size)
        replace hz := Nat.lt_of_lt_of_le hz hb2.size
        clear hb2 HT0
        have a0 := cell_of_row w2 wr.heap.size 0 _ _ _ hg
        have a1 := cell_of_row w2 wr.heap.size 1 _ _ _ hg
        have a2 := cell_of_row w2 wr.heap.size 2 _ _ _ hg
        go_wp2_with fail
        clear a0 a1 a2
        refine (C2.out _ HT2.out).mono ?_
        rintro e w3 ⟨rfl, hb3⟩
        replace hg := (hb3.block wr.heap.size hz).trans hg
        have HT3 := Lib.hid (HT2.out.below hb3)
        replace hB := hB.trans (hb3.mono hB.size)
        replace hz := Nat.lt_of_lt_of_le hz hb3.size
        replace hr := (hr.below hb3 (Nat.le_refl _)).more hb3.size
        clear hb3 HT2
        go_wp2_with fail
        refine (C3.out _ HT3.out).mono ?_
        rintro e w4 ⟨rfl, hb4⟩
        replace hg := (hb4.block wr.heap.size hz).trans hg
        have HT4 := Lib.hid ((HT3.out.below hb4).alloc (.cells #[.int .i64 1, .int .i64 (-P + d), .string ⟨#[]⟩] 23))
        replace hB := hB.trans (hb4.mono hB.size)
        replace hz := Nat.lt_of_lt_of_le hz hb4.size
        replace hr := ((hr.below hb4 (Nat.le_refl _)).more hb4.size).alloc (Nat.le_refl _) (.cells #[.int .i64 1, .int .i64 (-P + d), .string ⟨#[]⟩] 23)
        have hg4 := heap_alloc_new w4 (.cells #[.int .i64 1, .int .i64 (-P + d), .string ⟨#[]⟩] 23)
        replace hg := at_old hg (.cells #[.int .i64 1, .int .i64 (-P + d), .string ⟨#[]⟩] 23) hz
        replace hB := hB.alloc hB.size (.cells #[.int .i64 1, .int .i64 (-P + d), .string ⟨#[]⟩] 23)
        have hz4 : w4.heap.size < (w4.alloc (.cells #[.int .i64 1, .int .i64 (-P + d), .string ⟨#[]⟩] 23)).heap.size := by simp
        replace hr := hr.more (Nat.le_of_lt hz4)
        clear hb4 HT3
        go_wp2_with fail
        refine (C4.out _ A c HT4.out hr hc hcm).mono ?_
        rintro e w5 ⟨rfl, hb5⟩
        have hz5 := Nat.lt_of_lt_of_le hz4 hb5.size
        replace hg := at_old ((hb5.block wr.heap.size (Nat.lt_trans hz hz4)).trans hg) (.cells #[.int .i64 1, .int .i64 (-P + d), .string ⟨#[]⟩] 23) (Nat.lt_trans hz hz5)
        replace hg4 := at_old ((hb5.block w4.heap.size hz4).trans hg4) (.cells #[.int .i64 1, .int .i64 (-P + d), .string ⟨#[]⟩] 23) hz5
        have hg5 := heap_alloc_new w5 (.cells #[.int .i64 1, .int .i64 (-P + d), .string ⟨#[]⟩] 23)
        replace hB := (hB.trans (hb5.mono hB.size))
        replace hB := hB.alloc hB.size (.cells #[.int .i64 1, .int .i64 (-P + d), .string ⟨#[]⟩] 23)
        have a0 := cell_of_row _ wr.heap.size 0 _ _ _ hg
        have a1 := cell_of_row _ wr.heap.size 1 _ _ _ hg
        have a2 := cell_of_row _ wr.heap.size 2 _ _ _ hg
        have b0 := cell_of_row _ w4.heap.size 0 _ _ _ hg4
        have b1 := cell_of_row _ w4.heap.size 1 _ _ _ hg4
        have b2 := cell_of_row _ w4.heap.size 2 _ _ _ hg4
        have d0 := cell_of_row _ w5.heap.size 0 _ _ _ hg5
        have d1 := cell_of_row _ w5.heap.size 1 _ _ _ hg5
        have d2 := cell_of_row _ w5.heap.size 2 _ _ _ hg5
        clear hb5 HT4 hr hg hg4 hg5
        go_wp2_with fail
        refine (C5.out _).mono ?_
        rintro e w7 ⟨rfl, hb7⟩
        replace hB := hB.trans (hb7.mono hB.size)
        clear a0 a1 a2 b0 b1 b2 d0 d1 d2 hb7 C1 C2 C3 C4 C5
        have hM1 := HM.out.1
        have hM2 := HM.out.2
        have hb63 := HB63.out
        have hMa : (L : Int) ≤ (b : Int) / 7 + 4 := by omega
        have hMb : ((b : Int) + 1) / 7 ≤ (L : Int) := by omega
        clear hM1 hM2
        go_wp2
        go_roundw
        case rel => exact ⟨d + 1, by go_num, by omega, by omega, hB⟩
        case measure => simp [intOf]; omega
      · go_wp2
        go_ret
        exact ⟨rfl, hb⟩
end Go.Proofs.YtinhmchekdolmaaDoor
