/- The reference's Decode. -/
import Derived.Test.YtinhmchekdolmaaDoorProg
import Derived.Test.YtinhmchekdolmaaDoorValJJ
import Derived.Test.YtinhmchekdolmaaDoorValV
import Derived.Test.YtinhmchekdolmaaDoorValM
import Derived.WalkKit
import Derived.WalkSpells
import Derived.WalkLawsBesides
import Derived.Deep.QuietTactic
import Derived.Deep.RegionHeld3
import Derived.Deep.CutBlock
import Derived.Deep.DeepCutAuto
import Derived.Deep.CutRange
import Derived.BigQuiet
import Derived.KernelRfl
import Derived.Lib.Hide
namespace Go.Proofs.YtinhmchekdolmaaDoor
open Go.RowKit

theorem resRF {w : World} {b : Nat} {v0 v1 v2 : Value} (h : w.heap[b]? = some (.cells #[v0, v1, v2] 23 (0, 0))) (tmps : Array Value) (h2 : tmps.getD 2 undef = .pointer (some ⟨b, 0, none⟩)) :
    (results Tryd.f22 tmps).run Tryd.prog w = .ok (.tuple #[.agg #[v0, v1, v2], tmps.getD 3 undef]) w := by
  have e0 : w.cell? ⟨b, 0, none⟩ = some v0 := cell_of_row w b 0 _ _ _ h
  have e1 : w.cell? ⟨b, 1, none⟩ = some v1 := cell_of_row w b 1 _ _ _ h
  have e2 : w.cell? ⟨b, 2, none⟩ = some v2 := cell_of_row w b 2 _ _ _ h
  have h2' := h2
  simp only [Array.getD_eq_getD_getElem?] at h2'
  simp [results, Tryd.results22, go_sem, h2', e0, e1, e2]

theorem encV_le (v : VVal) (hf : v.fits) (hg : ckN v = 0) : (encV v).length ≤ 100 := by
  have hz := ckN_zero hg
  obtain ⟨k, n, s⟩ := v
  obtain ⟨f0, f1, f2⟩ := hf
  simp only at f0 f1 f2 hz
  rcases hz with rfl | ⟨rfl, hn⟩ | ⟨rfl, hsl, hv⟩
  · have := digs_length 10 (foldN n) (by have := foldN_lt n f1 f2; omega)
    unfold encV; rw [if_pos rfl, List.length_cons]; show (digs (foldN n)).length + 1 ≤ 100; omega
  · unfold encV; simp
  · have hl : s.data.toList.length = s.size := Array.length_toList
    unfold encV
    rw [if_neg (by simp), if_neg (by simp)]
    simp only [List.length_cons, hl]
    omega
theorem rfv_fits (l : List UInt8) (hl : l.length ≤ 140737488355328) : (rfv l).fits := by
  unfold rfv
  have h1 := rgG_lt 10 0 1 (l.drop 1)
  have h2 := UInt8.toNat_lt (l.getD 1 0)
  split
  · refine ⟨by show (0 : Nat) ≤ 140737488355328; omega, ?_, ?_⟩
    · simp only; unfold unfN rfN; split <;> omega
    · simp only; unfold unfN rfN; split <;> omega
  · split
    · refine ⟨?_, by show (-9223372036854775808 : Int) ≤ 0; omega, by show (0 : Int) ≤ 9223372036854775807; omega⟩
      show (List.toArray _).size ≤ _
      rw [List.size_toArray, List.length_take, List.length_drop]
      omega
    · split
      · exact ⟨by show (0 : Nat) ≤ 140737488355328; omega, by simp only; omega, by simp only; omega⟩
      · exact ⟨by show (0 : Nat) ≤ 140737488355328; omega, by show (-9223372036854775808 : Int) ≤ 0; omega, by show (0 : Int) ≤ 9223372036854775807; omega⟩

set_option maxRecDepth 100000 in
set_option maxHeartbeats 4000000 in
theorem refDecode_any (A : Option Addr) (l : List UInt8) (n c B : Nat) (w : World) (hn : n = l.length) (hr : Rd w B A (u8s l)) (hB : B ≤ w.heap.size) (hl : l.length ≤ 140737488355328) (hc : l.length ≤ c) (hcm : c ≤ 9223372036854775807) :
    Calls Tryd.prog 22 #[.slice A n c] w fun e w' => e = .returned (.tuple #[.agg (rvV l).1.cells, .int .i64 ((rvV l).2 : Int)]) ∧ Below w.heap.size w w' := by
  subst hn
  have hZ := heap_alloc_new w (.cells #[.int .i64 0, .int .i64 0, .string ⟨#[]⟩] 23)
  have hBZ : Below w.heap.size w (w.alloc (.cells #[.int .i64 0, .int .i64 0, .string ⟨#[]⟩] 23)) := (Below.refl _ _).alloc (Nat.le_refl _) _
  obtain ⟨⟨⟨xk, xn, xs⟩, xz⟩, hXr⟩ : ∃ x, x = rvV l := ⟨_, rfl⟩
  rw [← hXr]
  have HXR := Lib.hid hXr
  clear hXr
  simp only [VVal.cells]
  by_cases hlen : l.length < 2
  · have hq := HXR.out.trans (rv_short l hlen)
    injection hq with q1 q2
    unfold noV at q1
    injection q1 with q3 q4 q5
    subst q2 q3 q4 q5
    clear HXR
    have hlen' : (l.length : Int) < 2 := by omega
    go_enter Tryd.func22, Tryd.ntmps22
    go_wp2
    exact bodyPost_ret (resRF hZ _ rfl) rfl ⟨rfl, hBZ⟩
  · have hlen' : ¬ (l.length : Int) < 2 := by omega
    have h2 : 2 ≤ l.length := by omega
    have hr0 := hr.alloc hB (.cells #[.int .i64 0, .int .i64 0, .string ⟨#[]⟩] 23)
    obtain ⟨b, o, rfl, hb, hc0'⟩ := hr0.byte (k := 0) (by omega)
    have hc0 := (show (w.alloc (.cells #[.int .i64 0, .int .i64 0, .string ⟨#[]⟩] 23)).cell? ⟨b, o, none⟩ = _ from hc0')
    obtain ⟨k0, hk0⟩ : ∃ m, m = (l.getD 0 0).toNat := ⟨_, rfl⟩
    have hk1 : (l[0]'(by omega)).toNat = k0 := by rw [hk0]; simp [List.getD, List.getElem?_eq_getElem (show 0 < l.length by omega)]
    obtain ⟨m, hm⟩ : ∃ m, m = (l.getD 1 0).toNat := ⟨_, rfl⟩
    have hm1 : (l[1]'(by omega)).toNat = m := by rw [hm]; simp [List.getD, List.getElem?_eq_getElem (show 1 < l.length by omega)]
    rw [hk1] at hc0
    have hk256 : k0 < 256 := by rw [hk0]; exact UInt8.toNat_lt _
    have hm256 : m < 256 := by rw [hm]; exact UInt8.toNat_lt _
    clear hc0' hk1 hm1 hr hlen
    have HK0 := Lib.hid hk0
    have HM := Lib.hid hm
    clear hk0 hm
    have hr1 := fun o => hr0.alloc (by simp; omega) o
    have HR1 := Lib.hid hr1
    obtain ⟨⟨K, M, S⟩, hRV⟩ : ∃ v, v = rfv l := ⟨_, rfl⟩
    have HRV := Lib.hid hRV
    obtain ⟨N, hN⟩ : ∃ N, N = rfN (l.drop 1) := ⟨_, rfl⟩
    have hN64 : N < 18446744073709551616 := by rw [hN]; exact rgG_lt _ _ _ _
    have HNN := Lib.hid hN
    clear hN
    have HZ := Lib.hid hZ
    have HBZ := Lib.hid hBZ
    clear hr1 hr0 hRV hZ hBZ
    go_enter Tryd.func22, Tryd.ntmps22
    go_upto_block 0 with fail
    clear hc0
    go_cut [19] (fun _ wx => (k0 = 2 → 2 + m ≤ l.length) ∧ wx = (w.alloc (.cells #[.int .i64 0, .int .i64 0, .string ⟨#[]⟩] 23)).alloc (.cells #[.int .i64 K, .int .i64 M, .string S] 23))
    case first =>
      by_cases h1 : k0 = 1
      · have hRV : rfv l = ⟨1, unfN N, ⟨#[]⟩⟩ := by unfold rfv; rw [if_pos (HK0.out.symm.trans h1), ← HNN.out]
        have hq := HRV.out
        rw [hRV] at hq
        injection hq with q1 q2 q3
        subst q1 q2 q3 h1
        have HN := Lib.hid (show rgG 10 0 1 (l.drop 1) = N from HNN.out.symm)
        have hrb := HR1.out (.cells #[.int .i64 1, .int .i64 0, .string ⟨#[]⟩] 23)
        clear hRV HRV HK0 HM HR1 HZ HBZ HNN
        go_wp2_with fail
        go_loop [5, 6, 7] (fun nv pv iv => ∃ (n p i : Nat), nv = .int .u64 (n : Int) ∧ pv = .int .u64 (p : Int) ∧ iv = .int .i64 (i : Int) ∧ 1 ≤ i ∧ i ≤ 11 ∧ i ≤ l.length ∧ n < 18446744073709551616 ∧ p < 18446744073709551616 ∧ rgG (11 - i) n p (l.drop i) = N) (fun _ _ iv => 11 - (intOf iv).toNat)
        case atStart => exact ⟨0, 1, 1, rfl, rfl, rfl, by omega, by omega, by omega, by omega, by omega, HN.out⟩
        case round =>
          clear HN
          obtain ⟨n, p, i, rfl, rfl, rfl, hi1, hi11, hil, hn, hp, hg⟩ := hrel
          have HG := Lib.hid hg
          clear hg
          by_cases hi : i < l.length ∧ i ≤ 10
          · obtain ⟨hia, hib⟩ := hi
            obtain ⟨bb, oo, hA, -, hcell⟩ := hrb.byte (k := i) hia
            injection hA with hA
            injection hA with hA1 hA2
            subst hA1 hA2
            obtain ⟨d, hd⟩ : ∃ d, d = l[i].toNat := ⟨_, rfl⟩
            have hst : rgG (11 - i) n p (l.drop i) = if d < 128 then (n + d % 128 * p) % 18446744073709551616 else rgG (10 - i) ((n + d % 128 * p) % 18446744073709551616) (p * 128 % 18446744073709551616) (l.drop (i + 1)) := by
              rw [List.drop_eq_getElem_cons hia, show 11 - i = (10 - i) + 1 by omega, rgG, ← hd]
            rw [HG.out] at hst
            have hd256 : d < 256 := by rw [hd]; exact UInt8.toNat_lt _
            rw [← hd] at hcell
            have HST := Lib.hid hst
            clear hst hd HG hrb
            by_cases h8 : d < 128
            · have hNe := HST.out.trans (if_pos h8)
              have hw1 : IntKind.u64.wrap ((n : Int) + IntKind.u64.wrap ((d : Int) % 128 * (p : Int))) = (N : Int) := by
                rw [hNe]
                obtain ⟨q, hq⟩ : ∃ q : Nat, q = d % 128 * p := ⟨_, rfl⟩
                have hq2 : (d : Int) % 128 * (p : Int) = (q : Int) := by rw [hq]; push_cast; rfl
                rw [hq2, ← hq, IntKind.wrap_u64, IntKind.wrap_u64]
                omega
              clear hNe HST
              by_cases hpar : N % 2 = 1
              · have hp1 : ((N : Int).tmod 2 == 1) = true := by
                  rw [beq_iff_eq]
                  show ((N % 2 : Nat) : Int) = 1
                  rw [hpar]; rfl
                have hp2 : ((N : Int) % 2 == 1) = true := by rw [beq_iff_eq]; omega
                have hU := Lib.hid (show unfN N = -1 - ((N / 2 : Nat) : Int) from if_pos hpar)
                clear hpar
                go_wp2_with fail
                go_meet
                case rel => exact ⟨by omega, by rw [hU.out, show (-1 - ((N / 2 : Nat) : Int)) = -((N : Int) / 2) - 1 by omega]⟩
              · have hp1 : ((N : Int).tmod 2 == 1) = false := by
                  rw [beq_eq_false_iff_ne]
                  show ¬ ((N % 2 : Nat) : Int) = 1
                  omega
                have hp2 : ((N : Int) % 2 == 1) = false := by rw [beq_eq_false_iff_ne]; omega
                have hU := Lib.hid (show unfN N = ((N / 2 : Nat) : Int) from if_neg hpar)
                clear hpar
                go_wp2_with fail
                go_meet
                case rel => exact ⟨by omega, by rw [hU.out, show (((N / 2 : Nat) : Int)) = (N : Int) / 2 by omega]⟩
            · have hNe := HST.out.trans (if_neg h8)
              obtain ⟨n', hn'⟩ : ∃ n', n' = (n + d % 128 * p) % 18446744073709551616 := ⟨_, rfl⟩
              obtain ⟨p', hp'⟩ : ∃ p', p' = p * 128 % 18446744073709551616 := ⟨_, rfl⟩
              rw [← hn', ← hp'] at hNe
              have hw1 : IntKind.u64.wrap ((n : Int) + IntKind.u64.wrap ((d : Int) % 128 * (p : Int))) = (n' : Int) := by
                rw [hn']
                obtain ⟨q, hq⟩ : ∃ q : Nat, q = d % 128 * p := ⟨_, rfl⟩
                have hq2 : (d : Int) % 128 * (p : Int) = (q : Int) := by rw [hq]; push_cast; rfl
                rw [hq2, ← hq, IntKind.wrap_u64, IntKind.wrap_u64]
                omega
              have hw2 : IntKind.u64.wrap ((p : Int) * 128) = (p' : Int) := by
                rw [hp', IntKind.wrap_u64]
                omega
              have hn'1 : n' < 18446744073709551616 := by omega
              have hp'1 : p' < 18446744073709551616 := by omega
              have HNe := Lib.hid hNe
              clear hNe HST hn' hp'
              go_wp2
              go_round
              case rel => exact ⟨n', p', i + 1, rfl, rfl, by go_num, by omega, by omega, by omega, hn'1, hp'1, by rw [HNe.out]; congr 1; omega⟩
              case measure => simp [intOf]; omega
          · have hN0 : N = 0 := by
              rw [← HG.out]
              by_cases h10 : i ≤ 10
              · rw [show l.drop i = [] from List.drop_eq_nil_of_le (by omega), show 11 - i = (10 - i) + 1 by omega, rgG]
              · rw [show 11 - i = 0 by omega, rgG]
            have hno : ¬ ((i : Int) < (l.length : Int) ∧ (i : Int) ≤ 10) := by omega
            subst hN0
            by_cases hia : i < l.length
            · have hib : ¬ (i : Int) ≤ 10 := by omega
              go_wp2_with fail
              go_meet
              case rel => exact ⟨by omega, rfl⟩
            · go_wp2_with fail
              go_meet
              case rel => exact ⟨by omega, rfl⟩
      · have b1 : ((k0 : Int) == 1) = false := by rw [beq_eq_false_iff_ne]; omega
        by_cases h3 : k0 = 3
        · have hRV : rfv l = ⟨3, (m : Int), ⟨#[]⟩⟩ := by unfold rfv; rw [← HK0.out, ← HM.out, if_neg h1, if_neg (by omega), if_pos h3]
          have hq := HRV.out
          rw [hRV] at hq
          injection hq with q1 q2 q3
          subst q1 q2 q3 h3
          have hrb := HR1.out (.cells #[.int .i64 3, .int .i64 0, .string ⟨#[]⟩] 23)
          obtain ⟨bb, oo, hA, -, hcell⟩ := hrb.byte (k := 1) (by omega)
          injection hA with hA
          injection hA with hA1 hA2
          subst hA1 hA2
          have hm1 : (l[1]'(by omega)).toNat = m := by rw [HM.out]; simp [List.getD, List.getElem?_eq_getElem (show 1 < l.length by omega)]
          rw [hm1] at hcell
          clear hm1
          clear hRV HRV HK0 HM HR1 HZ HBZ HNN hrb h1
          go_wp2_with fail
          go_meet
          case rel => exact ⟨by omega, rfl⟩
        · have b3 : ((k0 : Int) == 3) = false := by rw [beq_eq_false_iff_ne]; omega
          by_cases h2' : k0 = 2
          · by_cases hlm : l.length < 2 + m
            · have hX := rv_text l h2 (HK0.out.symm.trans h2') (by rw [← HM.out]; exact hlm)
              have hlm' : (l.length : Int) < 2 + (m : Int) := by omega
              subst h2'
              have hg0 := at_old HZ.out (.cells #[.int .i64 2, .int .i64 0, .string ⟨#[]⟩] 23) (by simp)
              have hB1 := HBZ.out.alloc HBZ.out.size (.cells #[.int .i64 2, .int .i64 0, .string ⟨#[]⟩] 23)
              have hrb := HR1.out (.cells #[.int .i64 2, .int .i64 0, .string ⟨#[]⟩] 23)
              obtain ⟨bb, oo, hA, -, hcell⟩ := hrb.byte (k := 1) (by omega)
              injection hA with hA
              injection hA with hA1 hA2
              subst hA1 hA2
              have hm1 : (l[1]'(by omega)).toNat = m := by rw [HM.out]; simp [List.getD, List.getElem?_eq_getElem (show 1 < l.length by omega)]
              rw [hm1] at hcell
              clear hm1
              have e0 := cell_of_row _ w.heap.size 0 _ _ _ hg0
              have e1 := cell_of_row _ w.heap.size 1 _ _ _ hg0
              have e2 := cell_of_row _ w.heap.size 2 _ _ _ hg0
              have f0 := frozen_of_row _ w.heap.size 0 _ _ hg0
              have f1 := frozen_of_row _ w.heap.size 1 _ _ hg0
              have f2 := frozen_of_row _ w.heap.size 2 _ _ hg0
              have HG0 := Lib.hid hg0
              have hq := HXR.out.trans hX
              injection hq with q1 q2
              unfold noV at q1
              injection q1 with q3 q4 q5
              subst q2 q3 q4 q5
              have HB1 := Lib.hid hB1
              clear HXR hX hg0 hB1 HRV HK0 HM HR1 HZ HBZ HNN hrb h1 h3
              go_wp2
              refine bodyPost_ret (resRF HG0.out _ rfl) rfl ⟨rfl, HB1.out⟩
            · have hlm' : ¬ (l.length : Int) < 2 + (m : Int) := by omega
              have HLM := Lib.hid (show 2 + m ≤ l.length by omega)
              have hRV : rfv l = txV ((l.drop 2).take m) := by unfold rfv; rw [← HK0.out, ← HM.out, if_neg h1, if_pos h2']
              have hq := HRV.out
              rw [hRV] at hq
              unfold txV at hq
              injection hq with q1 q2 q3
              subst h2'
              have hrb := HR1.out (.cells #[.int .i64 2, .int .i64 0, .string ⟨#[]⟩] 23)
              obtain ⟨bb, oo, hA, -, hcell⟩ := hrb.byte (k := 1) (by omega)
              injection hA with hA
              injection hA with hA1 hA2
              subst hA1 hA2
              have hm1 : (l[1]'(by omega)).toNat = m := by rw [HM.out]; simp [List.getD, List.getElem?_eq_getElem (show 1 < l.length by omega)]
              rw [hm1] at hcell
              clear hm1
              have hcut := hrb.cut (k := 2) (size := 1) (cap := c) (n := l.length) (by rw [u8s_length]; simp) (by omega) hc
              rw [Nat.mul_one, ← u8s_drop, Option.map_some, plainAdd] at hcut
              have hcut2 := hcut.take m
              rw [← u8s_take] at hcut2
              have hqn : m = ((l.drop 2).take m).length := by rw [List.length_take, List.length_drop]; omega
              have hm2' : 2 + (m : Int) ≤ (c : Int) := by omega
              obtain ⟨T, hT⟩ : ∃ T, T = (l.drop 2).take m := ⟨_, rfl⟩
              rw [← hT] at hcut2 hqn q3
              subst q1 q2 q3
              clear hT hRV HRV HK0 HM HR1 HZ HBZ HNN hrb h1 h3 hcut
              by_cases hc2 : c = 2
              · rw [if_pos hc2] at hcut2
                have q := strAt0 (n := m) (c := 0) hcut2 hqn
                subst hc2
                have hm0 : m = 0 := by omega
                subst hm0
                clear hcut2 hqn
                go_wp2_with fail
                go_meet
                case rel => exact ⟨fun _ => HLM.out, rfl⟩
              · rw [if_neg hc2] at hcut2
                have q := strAt0 (n := m) (c := c - 2) hcut2 hqn
                clear hcut2 hqn
                go_wp2_with fail
                go_meet
                case rel => exact ⟨fun _ => HLM.out, rfl⟩
          · have b2 : ((k0 : Int) == 2) = false := by rw [beq_eq_false_iff_ne]; omega
            have hRV : rfv l = ⟨(k0 : Int), 0, ⟨#[]⟩⟩ := by unfold rfv; rw [← HK0.out, if_neg h1, if_neg h2', if_neg h3]
            have hq := HRV.out
            rw [hRV] at hq
            injection hq with q1 q2 q3
            subst q1 q2 q3
            have h2k := Lib.hid h2'
            clear hRV HRV HK0 HM HR1 HZ HBZ HNN h1 h2' h3
            go_wp2_with fail
            go_meet
            case rel => exact ⟨fun h => absurd h h2k.out, rfl⟩
    case rest =>
      obtain ⟨hlm, rfl⟩ := hcut
      have hfit : VVal.fits ⟨K, M, S⟩ := by rw [HRV.out]; exact rfv_fits l hl
      have hck := fun W => refCheck_any ⟨K, M, S⟩ W hfit
      have hen := fun (hg : ckN ⟨K, M, S⟩ = 0) W => refEncode_any ⟨K, M, S⟩ W hfit hg
      have hno := rv_no l h2
      have hyes := rv_yes l h2
      rw [ckR_eq] at hck
      rw [← HRV.out] at hno hyes
      have hpre : (l.getD 0 0).toNat = 2 → 2 + (l.getD 1 0).toNat ≤ l.length := fun h => by
        have := hlm (HK0.out.trans h)
        rw [HM.out] at this
        exact this
      obtain ⟨ck, hckE⟩ : ∃ x, x = ckN ⟨K, M, S⟩ := ⟨_, rfl⟩
      obtain ⟨E, hE⟩ : ∃ x, x = encV ⟨K, M, S⟩ := ⟨_, rfl⟩
      have hel : ck = 0 → E.length ≤ 100 := fun h => by rw [hE]; exact encV_le _ hfit (by rw [← hckE]; exact h)
      rw [← hckE] at hck hen hno hyes
      rw [← hE] at hen hyes
      rw [← HXR.out] at hno hyes
      replace hyes := fun h => hyes h hpre
      simp only [VVal.cells] at hck hen
      have HCK := Lib.hid hck
      have HEN := Lib.hid hen
      have HEL := Lib.hid hel
      have HNO := Lib.hid hno
      have HYES := Lib.hid hyes
      have hB1 := HBZ.out.alloc HBZ.out.size (.cells #[.int .i64 K, .int .i64 M, .string S] 23)
      have hg0 := at_old HZ.out (.cells #[.int .i64 K, .int .i64 M, .string S] 23) (by simp)
      have hg1 := heap_alloc_new (w.alloc (.cells #[.int .i64 0, .int .i64 0, .string ⟨#[]⟩] 23)) (.cells #[.int .i64 K, .int .i64 M, .string S] 23)
      have hs1 : (w.alloc (.cells #[.int .i64 0, .int .i64 0, .string ⟨#[]⟩] 23)).heap.size = w.heap.size + 1 := by simp
      rw [hs1] at hg1
      have hr1 := HR1.out (.cells #[.int .i64 K, .int .i64 M, .string S] 23)
      have hsz : ((w.alloc (.cells #[.int .i64 0, .int .i64 0, .string ⟨#[]⟩] 23)).alloc (.cells #[.int .i64 K, .int .i64 M, .string S] 23)).heap.size = w.heap.size + 2 := by simp
      clear hck hen hel hno hyes hE HXR hckE HRV hlm HNN HR1 HZ HBZ hs1 hpre HK0 HM
      obtain ⟨W, hW⟩ : ∃ W, W = (w.alloc (.cells #[.int .i64 0, .int .i64 0, .string ⟨#[]⟩] 23)).alloc (.cells #[.int .i64 K, .int .i64 M, .string S] 23) := ⟨_, rfl⟩
      rw [← hW] at hB1 hg0 hg1 hr1 hsz ⊢
      clear hW
      have a0 := cell_of_row W (w.heap.size + 1) 0 _ _ _ hg1
      have a1 := cell_of_row W (w.heap.size + 1) 1 _ _ _ hg1
      have a2 := cell_of_row W (w.heap.size + 1) 2 _ _ _ hg1
      go_wp2_with fail
      clear a0 a1 a2
      refine (HCK.out _).mono ?_
      rintro e w2 ⟨rfl, hb⟩
      have hg0' := (hb.block w.heap.size (by omega)).trans hg0
      have hg1' := (hb.block (w.heap.size + 1) (by omega)).trans hg1
      have hB2 := hB1.trans (hb.mono hB1.size)
      have hr2 := hr1.below hb (by omega)
      have hs2 := hb.size
      clear hb hg0 hg1 hB1 hr1
      by_cases hck : ck = 0
      · subst hck
        have hen := HEN.out rfl
        have hel := HEL.out rfl
        have HEN2 := Lib.hid hen
        have hyes := HYES.out rfl
        have HY := Lib.hid hyes
        clear hen HEN HNO HYES hyes HCK HEL
        have a0 := cell_of_row w2 (w.heap.size + 1) 0 _ _ _ hg1'
        have a1 := cell_of_row w2 (w.heap.size + 1) 1 _ _ _ hg1'
        have a2 := cell_of_row w2 (w.heap.size + 1) 2 _ _ _ hg1'
        go_wp2_with fail
        clear a0 a1 a2
        refine (HEN2.out _).mono ?_
        rintro e w3 ⟨v3, rfl, hown, hb⟩
        have hg0'' := (hb.block w.heap.size (by omega)).trans hg0'
        have hg1'' := (hb.block (w.heap.size + 1) (by omega)).trans hg1'
        have hB3 := hB2.trans (hb.mono hB2.size)
        have hr3 := hr2.below hb (by omega)
        clear hb hg0' hg1' hB2 hr2 HEN2
        obtain ⟨A3, c3, rfl, hc3, hm3, hrE, -⟩ := hown.shape
        clear hown
        have e0 := cell_of_row _ w.heap.size 0 _ _ _ hg0''
        have e1 := cell_of_row _ w.heap.size 1 _ _ _ hg0''
        have e2 := cell_of_row _ w.heap.size 2 _ _ _ hg0''
        have f0 := frozen_of_row _ w.heap.size 0 _ _ hg0''
        have f1 := frozen_of_row _ w.heap.size 1 _ _ hg0''
        have f2 := frozen_of_row _ w.heap.size 2 _ _ hg0''
        have a0 := cell_of_row _ (w.heap.size + 1) 0 _ _ _ hg1''
        have a1 := cell_of_row _ (w.heap.size + 1) 1 _ _ _ hg1''
        have a2 := cell_of_row _ (w.heap.size + 1) 2 _ _ _ hg1''
        have HG0 := Lib.hid hg0''
        have q1 := strAt0 (n := E.length) (c := c3) hrE rfl
        clear hg0'' hg1''
        by_cases hlE : l.length < E.length
        · have hd : decide ((l.length : Int) < (E.length : Int)) = true := decide_eq_true (by omega)
          have hno := HY.out.2 (fun h => by have := congrArg List.length h; rw [List.length_take] at this; omega)
          injection hno with p1 p2
          unfold noV at p1
          injection p1 with p3 p4 p5
          subst p2 p3 p4 p5
          clear HY hrE hr3 a0 a1 a2
          go_upto_region 25 with fail
          go_quiet (fail)
          go_wp2
          exact bodyPost_ret (resRF (set3 (w := w3.drewN nq) HG0.out _ _ _) _ rfl) rfl ⟨rfl, below_set3 (below_draws hB3 nq) (Nat.le_refl _) _ _ _⟩
        · have hd : decide ((l.length : Int) < (E.length : Int)) = false := decide_eq_false (by omega)
          have q2 := fun n => strAt0 (w := w3.drewN n) (n := E.length) (c := c) (l := l.take E.length) (by rw [u8s_take]; exact (hr3.drewN n).take _) (by rw [List.length_take]; omega)
          have q3 := fun n => strAt0 (w := w3.drewN n) (n := E.length) (c := c3) (hrE.drewN n) rfl
          have KS : Hid (∀ n, (convert 26 9 (.slice A3 E.length c3)).run Tryd.prog (w3.drewN n) = .ok (.string ⟨E.toArray⟩) (w3.drewN n) ∧ (convert 26 9 (.slice (some ⟨b, o, none⟩) E.length c)).run Tryd.prog (w3.drewN n) = .ok (.string ⟨(l.take E.length).toArray⟩) (w3.drewN n)) := Lib.hid fun n => ⟨q3 n, q2 n⟩
          clear q1 q2 q3
          by_cases hpe : l.take E.length = E
          · have hyes := HY.out.1 hpe
            injection hyes with p1 p2
            injection p1 with p3 p4 p5
            subst p2 p3 p4 p5
            rw [hpe] at KS
            clear HY hrE hr3 hpe
            go_upto_region 25 with fail
            go_region_held (fun w' => (convert 26 9 (.slice A3 E.length c3)).run Tryd.prog w' = .ok (.string ⟨E.toArray⟩) w' ∧ (convert 26 9 (.slice (some ⟨b, o, none⟩) E.length c)).run Tryd.prog w' = .ok (.string ⟨E.toArray⟩) w')
              (first | exact KS.out 1 | assumption) (fail)
            go_wp2
            exact bodyPost_ret (resRF (set3 (w := w3.drew) HG0.out _ _ _) _ rfl) rfl ⟨rfl, below_set3 (below_draws hB3 1) (Nat.le_refl _) _ _ _⟩
          · have hno := HY.out.2 hpe
            injection hno with p1 p2
            unfold noV at p1
            injection p1 with p3 p4 p5
            subst p2 p3 p4 p5
            have hne : (E == l.take E.length) = false := by rw [beq_eq_false_iff_ne]; exact fun h => hpe h.symm
            clear HY hrE hr3 hpe
            go_upto_region 25 with fail
            go_region_held (fun w' => (convert 26 9 (.slice A3 E.length c3)).run Tryd.prog w' = .ok (.string ⟨E.toArray⟩) w' ∧ (convert 26 9 (.slice (some ⟨b, o, none⟩) E.length c)).run Tryd.prog w' = .ok (.string ⟨(l.take E.length).toArray⟩) w')
              (first | exact KS.out 1 | assumption) (fail)
            go_wp2
            exact bodyPost_ret (resRF (set3 (w := w3.drew) HG0.out _ _ _) _ rfl) rfl ⟨rfl, below_set3 (below_draws hB3 1) (Nat.le_refl _) _ _ _⟩
      · have hno := HNO.out hck
        have hck' : ((ck : Int) == 0) = false := by rw [beq_eq_false_iff_ne]; omega
        injection hno with q1 q2
        unfold noV at q1
        injection q1 with q3 q4 q5
        subst q2 q3 q4 q5
        have e0 := cell_of_row _ w.heap.size 0 _ _ _ hg0'
        have e1 := cell_of_row _ w.heap.size 1 _ _ _ hg0'
        have e2 := cell_of_row _ w.heap.size 2 _ _ _ hg0'
        have f0 := frozen_of_row _ w.heap.size 0 _ _ hg0'
        have f1 := frozen_of_row _ w.heap.size 1 _ _ hg0'
        have f2 := frozen_of_row _ w.heap.size 2 _ _ hg0'
        have HG0 := Lib.hid hg0'
        clear hg0' hg1' HCK HEN HEL HNO HYES
        go_wp2
        exact bodyPost_ret (resRF (set3 HG0.out _ _ _) _ rfl) rfl ⟨rfl, below_set3 hB2 (Nat.le_refl _) _ _ _⟩
end Go.Proofs.YtinhmchekdolmaaDoor
