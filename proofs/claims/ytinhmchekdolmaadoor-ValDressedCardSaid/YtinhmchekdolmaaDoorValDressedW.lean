/- ValDressed: the walk. -/
import Derived.Test.YtinhmchekdolmaaDoorProg
import Derived.Test.YtinhmchekdolmaaDoorValN
import Derived.Test.YtinhmchekdolmaaDoorValNN
import Derived.Test.YtinhmchekdolmaaDoorValPP
import Derived.WalkKit
import Derived.WalkSpells
import Derived.WalkLawsBesides
import Derived.Deep.QuietTactic
import Derived.Deep.RegionHeld3
import Derived.Deep.CutBlock
import Derived.Deep.DeepCutAuto
import Derived.Deep.CutRange
import Derived.BigQuiet
import Derived.KernelRfl
import Derived.Lib.Hide
namespace Go.Proofs.YtinhmchekdolmaaDoor
open Go.RowKit

def u32s (xs : List Nat) : List Value := xs.map fun (x : Nat) => Value.int .u32 (x : Int)
theorem u32s_length (xs : List Nat) : (u32s xs).length = xs.length := List.length_map _
theorem Rd.u32 {w : World} {B : Nat} {A : Option Addr} {xs : List Nat} (h : Rd w B A (u32s xs)) {k : Nat} (hk : k < xs.length) : ∃ b o, A = some ⟨b, o, none⟩ ∧ b < B ∧ w.cell? ⟨b, o + k, none⟩ = some (.int .u32 (xs[k] : Int)) := by
  obtain ⟨b, o, e, hb, hc⟩ := h.get (k := k) (by rw [u32s_length]; exact hk)
  exact ⟨b, o, e, hb, by rw [hc]; simp [u32s]⟩

theorem step_items (its : List (Nat × List Nat)) (p : Nat × List Nat) (T D R B : List UInt8) (n : Nat) (hg : ∀ p ∈ its, goodI p) (hT : T = encs (fsts its)) (hD : D = 34 :: encs (snds its)) (hR : R = Lib.encodeRune (n : Int)) (h1 : p.1 = n) (h2 : goodI p) (h3 : encs p.2 = B) :
    (∀ q ∈ its ++ [p], goodI q) ∧ T ++ R = encs (fsts (its ++ [p])) ∧ D ++ B = 34 :: encs (snds (its ++ [p])) := by
  refine ⟨fun q hq => ?_, ?_, ?_⟩
  · rcases List.mem_append.mp hq with hq | hq
    · exact hg q hq
    · simp at hq; rw [hq]; exact h2
  · rw [fsts_snoc, encs_append, ← hT, h1, hR]
    congr 1
    show _ = Lib.encodeRune (n : Int) ++ []
    rw [List.append_nil]
  · rw [snds_snoc, encs_append, h3, hD]
    rfl
theorem cat3 (X D : List UInt8) (hX : X.length ≤ 6) (hD : D.length ≤ 1000) : ∃ Y1 Y2 D2 : List UInt8, (⟨#[92, 117, 123]⟩ : ByteArray) ++ ⟨X.toArray⟩ = ⟨Y1.toArray⟩ ∧ (⟨Y1.toArray⟩ : ByteArray) ++ ⟨#[125]⟩ = ⟨Y2.toArray⟩ ∧ (⟨D.toArray⟩ : ByteArray) ++ ⟨Y2.toArray⟩ = ⟨D2.toArray⟩
    ∧ ¬ 9223372036854775807 < (⟨#[92, 117, 123]⟩ : ByteArray).size + (⟨X.toArray⟩ : ByteArray).size ∧ ¬ 9223372036854775807 < (⟨Y1.toArray⟩ : ByteArray).size + (⟨#[125]⟩ : ByteArray).size ∧ ¬ 9223372036854775807 < (⟨D.toArray⟩ : ByteArray).size + (⟨Y2.toArray⟩ : ByteArray).size ∧ D2 = D ++ (92 :: 117 :: 123 :: X ++ [125]) := by
  refine ⟨[92, 117, 123] ++ X, ([92, 117, 123] ++ X) ++ [125], D ++ (([92, 117, 123] ++ X) ++ [125]), bs_app [92, 117, 123] X, bs_app _ [125], bs_app _ _, ?_, ?_, ?_, rfl⟩
  · show ¬ 9223372036854775807 < 3 + X.toArray.size
    rw [List.size_toArray]; omega
  · show ¬ 9223372036854775807 < ([92, 117, 123] ++ X).toArray.size + 1
    rw [List.size_toArray, List.length_append]; simp only [List.length_cons, List.length_nil]; omega
  · show ¬ 9223372036854775807 < D.toArray.size + (([92, 117, 123] ++ X) ++ [125]).toArray.size
    rw [List.size_toArray, List.size_toArray, List.length_append, List.length_append]; simp only [List.length_cons, List.length_nil]; omega
def strLen : Value → Nat
  | .string s => s.size
  | _ => 0

set_option maxRecDepth 100000 in
set_option maxHeartbeats 4000000 in
theorem valDressed_walk (A1 : Option Addr) (xs : List Nat) (c1 : Nat) (A2 : Option Addr) (l : List UInt8) (c2 : Nat) (w : World) (hr1 : Rd w w.heap.size A1 (u32s xs)) (hc1 : xs.length ≤ c1) (hcm1 : c1 ≤ 140737488351232) (hx : ∀ x ∈ xs, x < 4294967296)
    (hr2 : Rd w w.heap.size A2 (u8s l)) (hc2 : l.length ≤ c2) (hcm2 : c2 ≤ 140737488351232) (hT : Tabs w) :
    Calls Tryd.prog 9 #[.slice A1 xs.length c1, .slice A2 l.length c2] w fun e w' => e = .returned (.bool true) ∧ Below w.heap.size w w' := by
  have HT := Lib.hid hT
  have HR1 := Lib.hid hr1
  have HR2 := Lib.hid hr2
  have HX := Lib.hid hx
  clear hT hr1 hr2 hx
  go_enter Tryd.func9, Tryd.ntmps9
  go_wp2_with fail
  refine (awake_any _ HT.out).mono ?_
  rintro e w1 ⟨rfl, hb1⟩
  have HB1 := Lib.hid hb1
  clear hb1
  go_upto_block 0 with fail
  go_cut [5, 6] (fun s5 s6 wx => ∃ (its : List (Nat × List Nat)) (T D : List UInt8), (∀ p ∈ its, goodI p) ∧ T = encs (fsts its) ∧ D = 34 :: encs (snds its) ∧ T.length ≤ 64 ∧ s5 = .string ⟨T.toArray⟩ ∧ s6 = .string ⟨D.toArray⟩ ∧ Below w.heap.size w wx)
  case first =>
    go_wp2_with fail
    go_loopw [5, 6, 7] (fun s5 s6 iv wr => ∃ (its : List (Nat × List Nat)) (T D : List UInt8) (i : Nat), (∀ p ∈ its, goodI p) ∧ T = encs (fsts its) ∧ D = 34 :: encs (snds its) ∧ T.length ≤ 64 ∧ s5 = .string ⟨T.toArray⟩ ∧ s6 = .string ⟨D.toArray⟩ ∧ Below w.heap.size w wr ∧ iv = .int .i64 (i : Int) ∧ i ≤ 40) (fun _ _ iv _ => 40 - (intOf iv).toNat)
    case atStart => exact ⟨[], [], [34], 0, by simp, rfl, rfl, by simp, rfl, rfl, HB1.out, rfl, by omega⟩
    case round =>
      obtain ⟨its, T, D, i, hgood, hT, hD, hl64, rfl, rfl, hb, rfl, hi⟩ := hrel
      have HGOOD := Lib.hid hgood
      have HTT := Lib.hid hT
      have HDD := Lib.hid hD
      clear hgood hT hD
      by_cases hi2 : i < xs.length ∧ i < 40
      · obtain ⟨hia, hib⟩ := hi2
        obtain ⟨bb, oo, hA, -, hcell⟩ := (HR1.out.below hb (Nat.le_refl _)).u32 hia
        subst hA
        obtain ⟨x, hx⟩ : ∃ x, x = xs[i] := ⟨_, rfl⟩
        have hx32 : x < 4294967296 := by rw [hx]; exact HX.out _ (List.getElem_mem hia)
        rw [← hx] at hcell
        clear hx
        obtain ⟨n0, hn0⟩ : ∃ n0, n0 = x % 1114112 := ⟨_, rfl⟩
        have hm : (x : Int) % 1114112 = (n0 : Int) := by omega
        have hn0b : n0 ≤ 1114111 := by omega
        clear hn0
        go_upto_region 8 with fail
        clear hcell hm hx32
        go_cut [37] (fun s37 wx => s37 = .bool (decide (55296 ≤ n0 ∧ n0 ≤ 57343)) ∧ wx = wr)
        case first =>
          by_cases q1 : 55296 ≤ n0
          · have q1' : (55296 : Int) ≤ (n0 : Int) := by omega
            by_cases q2 : n0 ≤ 57343
            · have q2' : (n0 : Int) ≤ 57343 := by omega
              go_wp2_with fail
              go_meet
              case rel => exact ⟨congrArg Value.bool (decide_eq_true ⟨q1, q2⟩).symm, rfl⟩
            · have q2' : ¬ (n0 : Int) ≤ 57343 := by omega
              go_wp2_with fail
              go_meet
              case rel => exact ⟨congrArg Value.bool (decide_eq_false (fun h => q2 h.2)).symm, rfl⟩
          · have q1' : ¬ (55296 : Int) ≤ (n0 : Int) := by omega
            go_wp2_with fail
            go_meet
            case rel => exact ⟨congrArg Value.bool (decide_eq_false (fun h => q1 h.1)).symm, rfl⟩
        case rest =>
          obtain ⟨rfl, rfl⟩ := hcut
          go_upto_if 37 with fail
          go_cut [8] (fun s8 wx => ∃ n : Nat, okR n ∧ s8 = .int .i64 (n : Int) ∧ wx = wc)
          case first =>
            by_cases q : 55296 ≤ n0 ∧ n0 ≤ 57343
            · rw [decide_eq_true q]
              go_wp2_with fail
              go_meet
              case rel => exact ⟨65, by decide, rfl, rfl⟩
            · rw [decide_eq_false q]
              go_wp2_with fail
              go_meet
              case rel => exact ⟨n0, by unfold okR; omega, rfl, rfl⟩
          case rest =>
            obtain ⟨n, hok, rfl, rfl⟩ := hcut
            obtain ⟨R, hR⟩ : ∃ R, R = Lib.encodeRune (n : Int) := ⟨_, rfl⟩
            have hRl : 1 ≤ R.length ∧ R.length ≤ 4 := by rw [hR]; exact encR_pos _
            obtain ⟨hRl1, hRl4⟩ := hRl
            have hby := refBytes_any n wc hok
            rw [← hR] at hby
            have HBY := Lib.hid hby
            have HRR := Lib.hid hR
            clear hby hR
            by_cases h64 : 64 < T.length + R.length
            · have h64' : (64 : Int) < (T.length : Int) + (R.length : Int) := by omega
              go_wp2_with fail
              refine HBY.out.mono ?_
              rintro e w2 ⟨rfl, hb2⟩
              go_wp2_with fail
              go_meet
              case rel => exact ⟨its, T, D, HGOOD.out, HTT.out, HDD.out, hl64, rfl, rfl, hb.trans (hb2.mono hb.size)⟩
            · have h64' : ¬ (64 : Int) < (T.length : Int) + (R.length : Int) := by omega
              have hcat : ¬ 9223372036854775807 < (⟨T.toArray⟩ : ByteArray).size + (⟨R.toArray⟩ : ByteArray).size := by
                show ¬ 9223372036854775807 < T.toArray.size + R.toArray.size
                rw [List.size_toArray, List.size_toArray]; omega
              have hap := bs_app T R
              obtain ⟨T2, hT2⟩ : ∃ T2, T2 = T ++ R := ⟨_, rfl⟩
              rw [← hT2] at hap
              have HT2 := Lib.hid hT2
              clear hT2
              go_wp2_with fail
              refine HBY.out.mono ?_
              rintro e w2 ⟨rfl, hb2⟩
              have hB2 := hb.trans (hb2.mono hb.size)
              clear hb2 hb HBY
              go_upto_if 52 with fail
              have hr2' := HR2.out.below hB2 (Nat.le_refl _)
              go_cut [10] (fun s10 wx => ∃ k : Nat, k ≤ 2 ∧ s10 = .int .u8 (k : Int) ∧ wx = w2)
              case first =>
                by_cases h3 : i < l.length
                · have h3' : (i : Int) < (l.length : Int) := by omega
                  obtain ⟨b3, o3, hA3, -, hc3⟩ := hr2'.byte h3
                  obtain ⟨d, hd⟩ : ∃ d, d = l[i].toNat := ⟨_, rfl⟩
                  have hd256 : d < 256 := by rw [hd]; exact UInt8.toNat_lt _
                  rw [← hd] at hc3
                  clear hd
                  subst hA3
                  obtain ⟨k, hk⟩ : ∃ k, k = d % 3 := ⟨_, rfl⟩
                  have HM3 := Lib.hid (show (d : Int) % 3 = (k : Int) by omega)
                  have hk2 : k ≤ 2 := by omega
                  clear hk
                  go_wp2_with fail
                  go_meet
                  case rel => exact ⟨k, hk2, by rw [← HM3.out], rfl⟩
                · have h3' : ¬ (i : Int) < (l.length : Int) := by omega
                  go_wp2_with fail
                  go_meet
                  case rel => exact ⟨1, by omega, rfl, rfl⟩
              case rest =>
                clear hr2'
                obtain ⟨k, hk, rfl, hw⟩ := hcut
                subst hw
                go_upto_region 17 with fail
                go_cut [8, 10, 64] (fun s8 s10 s64 wx => s8 = .int .i64 (n : Int) ∧ s10 = .int .u8 (k : Int) ∧ s64 = .bool (decide (k = 0 ∧ 32 ≤ n ∧ n ≠ 127 ∧ n ≠ 34 ∧ n ≠ 92)) ∧ wx = wc)
                case first =>
                  by_cases q0 : k = 0
                  · have p0 : ((k : Int) == 0) = true := by rw [beq_iff_eq]; omega
                    by_cases q1 : 32 ≤ n
                    · have p1 : (32 : Int) ≤ (n : Int) := by omega
                      by_cases q2 : n = 127
                      · have p2 : ((n : Int) == 127) = true := by rw [beq_iff_eq]; omega
                        go_wp2_with fail
                        go_meet
                        case rel => exact ⟨by first | rfl | (rw [q2]; rfl) | (rw [q3]; rfl) | (rw [q4]; rfl), by first | rfl | (rw [q0]; rfl), congrArg Value.bool (decide_eq_false (by omega)).symm, rfl⟩
                      · have p2 : ((n : Int) == 127) = false := by rw [beq_eq_false_iff_ne]; omega
                        by_cases q3 : n = 34
                        · have p3 : ((n : Int) == 34) = true := by rw [beq_iff_eq]; omega
                          go_wp2_with fail
                          go_meet
                          case rel => exact ⟨by first | rfl | (rw [q2]; rfl) | (rw [q3]; rfl) | (rw [q4]; rfl), by first | rfl | (rw [q0]; rfl), congrArg Value.bool (decide_eq_false (by omega)).symm, rfl⟩
                        · have p3 : ((n : Int) == 34) = false := by rw [beq_eq_false_iff_ne]; omega
                          by_cases q4 : n = 92
                          · have p4 : ((n : Int) == 92) = true := by rw [beq_iff_eq]; omega
                            go_wp2_with fail
                            go_meet
                            case rel => exact ⟨by first | rfl | (rw [q2]; rfl) | (rw [q3]; rfl) | (rw [q4]; rfl), by first | rfl | (rw [q0]; rfl), congrArg Value.bool (decide_eq_false (by omega)).symm, rfl⟩
                          · have p4 : ((n : Int) == 92) = false := by rw [beq_eq_false_iff_ne]; omega
                            have PP := Lib.hid (show ((n : Int) != 127 && (n : Int) != 34 && (n : Int) != 92) = decide (k = 0 ∧ 32 ≤ n ∧ n ≠ 127 ∧ n ≠ 34 ∧ n ≠ 92) by
                              rw [bne, bne, bne, p2, p3, p4, decide_eq_true (by omega)]; rfl)
                            go_wp2_with fail
                            go_meet
                            case rel => exact ⟨rfl, by rw [q0]; rfl, congrArg Value.bool PP.out, rfl⟩
                    · have p1 : ¬ (32 : Int) ≤ (n : Int) := by omega
                      go_wp2_with fail
                      go_meet
                      case rel => exact ⟨by first | rfl | (rw [q2]; rfl) | (rw [q3]; rfl) | (rw [q4]; rfl), by first | rfl | (rw [q0]; rfl), congrArg Value.bool (decide_eq_false (by omega)).symm, rfl⟩
                  · have p0 : ((k : Int) == 0) = false := by rw [beq_eq_false_iff_ne]; omega
                    go_wp2_with fail
                    go_meet
                    case rel => exact ⟨by first | rfl | (rw [q2]; rfl) | (rw [q3]; rfl) | (rw [q4]; rfl), by first | rfl | (rw [q0]; rfl), congrArg Value.bool (decide_eq_false (by omega)).symm, rfl⟩
                case rest =>
                  obtain ⟨rfl, rfl, rfl, hw⟩ := hcut
                  subst hw
                  have hT2l : T2.length ≤ 64 := by rw [HT2.out, List.length_append]; omega
                  have hDl : D.length ≤ 1000 := by
                    have := items_len its HGOOD.out
                    rw [← HTT.out] at this
                    rw [HDD.out, List.length_cons]
                    omega
                  have hn1 : n ≤ 1114111 := by unfold okR at hok; omega
                  have HST := Lib.hid (fun (p : Nat × List Nat) (B : List UInt8) (h1 : p.1 = n) (h2 : goodI p) (h3 : encs p.2 = B) => step_items its p T D R B n HGOOD.out HTT.out HDD.out HRR.out h1 h2 h3)
                  rw [← HT2.out] at HST
                  by_cases hpl : k = 0 ∧ 32 ≤ n ∧ n ≠ 127 ∧ n ≠ 34 ∧ n ≠ 92
                  · rw [decide_eq_true hpl]
                    obtain ⟨g1, g2, g3⟩ := HST.out (n, [n]) R rfl (good_plain n hok hpl.2).1 (by rw [HRR.out]; exact (good_plain n hok hpl.2).2)
                    obtain ⟨D2, hD2⟩ : ∃ D2, D2 = D ++ R := ⟨_, rfl⟩
                    have hap2 := bs_app D R
                    rw [← hD2] at g3 hap2
                    have hcat2 : ¬ 9223372036854775807 < (⟨D.toArray⟩ : ByteArray).size + (⟨R.toArray⟩ : ByteArray).size := by
                      show ¬ 9223372036854775807 < D.toArray.size + R.toArray.size
                      rw [List.size_toArray, List.size_toArray]; omega
                    have G1 := Lib.hid g1
                    have G2 := Lib.hid g2
                    have G3 := Lib.hid g3
                    clear g1 g2 g3 hD2 hpl
                    go_wp2
                    go_roundw
                    case rel => exact ⟨_, T2, D2, i + 1, G1.out, G2.out, G3.out, hT2l, rfl, rfl, hB2, by go_num, by omega⟩
                    case measure => simp [intOf]; omega
                  · rw [decide_eq_false hpl]
                    by_cases hk2 : k = 2
                    · have hk2' : ((k : Int) == 2) = true := by rw [beq_iff_eq]; omega
                      have hh := lawHex_any n hn1 UPP uppF rfl (fun k hk => (low_ext ⟨k, hk⟩).2) wc
                      unfold UPP at hh
                      obtain ⟨H, hH⟩ : ∃ H, H = hexL uppF n := ⟨_, rfl⟩
                      have hHl : H.length ≤ 6 ∧ 1 ≤ H.length := by rw [hH]; exact hexL_len uppF 5 n (by omega)
                      obtain ⟨hHl6, hHl1⟩ := hHl
                      have HGN := Lib.hid (fun j (hj : j + (hexL uppF n).length ≤ 6) => good_num uppF (fun k hk => (low_fin ⟨k, hk⟩).2) n j hok hj)
                      rw [← hH] at hh HGN
                      have HH := Lib.hid hh
                      clear hh hH hpl
                      go_wp2_with fail
                      refine HH.out.mono ?_
                      rintro e w3 ⟨rfl, rfl⟩
                      clear HH
                      go_wp2_with fail
                      go_loop [11] (fun hv => ∃ (j : Nat) (X : List UInt8), X = List.replicate j 48 ++ H ∧ hv = .string ⟨X.toArray⟩ ∧ j + H.length ≤ 6) (fun hv => 6 - strLen hv)
                      case atStart => exact ⟨0, H, rfl, rfl, by omega⟩
                      case round =>
                        obtain ⟨j, X, hX, rfl, hj⟩ := hrel
                        have hXl : X.length = j + H.length := by rw [hX, List.length_append, List.length_replicate]
                        by_cases h6 : X.length < 6
                        · have h6' : (X.length : Int) < 6 := by omega
                          have hcat3 : ¬ 9223372036854775807 < (⟨#[48]⟩ : ByteArray).size + (⟨X.toArray⟩ : ByteArray).size := by
                            show ¬ 9223372036854775807 < 1 + X.toArray.size
                            rw [List.size_toArray]; omega
                          have hap3 : (⟨#[48]⟩ : ByteArray) ++ ⟨X.toArray⟩ = ⟨(48 :: X).toArray⟩ := bs_app [48] X
                          obtain ⟨Z, hZ⟩ : ∃ Z, Z = 48 :: X := ⟨_, rfl⟩
                          rw [← hZ] at hap3
                          have hZl : Z.length = X.length + 1 := by rw [hZ, List.length_cons]
                          have HZ2 := Lib.hid (show Z = List.replicate (j + 1) 48 ++ H by rw [hZ, hX]; rfl)
                          clear hX hZ
                          go_wp2
                          go_round
                          case rel => exact ⟨j + 1, Z, HZ2.out, rfl, by omega⟩
                          case measure =>
                            show 6 - Z.toArray.size < 6 - X.toArray.size
                            rw [List.size_toArray, List.size_toArray]; omega
                        · have h6' : ¬ (X.length : Int) < 6 := by omega
                          have hgn := HGN.out j hj
                          rw [← hX] at hgn
                          obtain ⟨g1, g2, g3⟩ := HST.out _ _ rfl hgn.1 hgn.2
                          obtain ⟨Y1, Y2, D2, y1, y2, y3, z1, z2, z3, hD2⟩ := cat3 X D (by omega) hDl
                          rw [← hD2] at g3
                          have G1 := Lib.hid g1
                          have G2 := Lib.hid g2
                          have G3 := Lib.hid g3
                          clear g1 g2 g3 hgn hD2 hX
                          go_wp2
                          go_roundw
                          case rel => exact ⟨_, T2, D2, i + 1, G1.out, G2.out, G3.out, hT2l, rfl, rfl, hB2, by go_num, by omega⟩
                          case measure => simp [intOf]; omega
                    · have hk2' : ((k : Int) == 2) = false := by rw [beq_eq_false_iff_ne]; omega
                      have hh := lawHex_any n hn1 LOW lowF rfl (fun k hk => (low_ext ⟨k, hk⟩).1) wc
                      unfold LOW at hh
                      obtain ⟨H, hH⟩ : ∃ H, H = hexL lowF n := ⟨_, rfl⟩
                      have hHl : H.length ≤ 6 ∧ 1 ≤ H.length := by rw [hH]; exact hexL_len lowF 5 n (by omega)
                      obtain ⟨hHl6, hHl1⟩ := hHl
                      have hgn := good_num lowF (fun k hk => (low_fin ⟨k, hk⟩).1) n 0 hok (by rw [← hH]; omega)
                      rw [← hH, show List.replicate 0 48 ++ H = H from rfl] at hgn
                      obtain ⟨g1, g2, g3⟩ := HST.out _ _ rfl hgn.1 hgn.2
                      rw [← hH] at hh
                      obtain ⟨Y1, Y2, D2, y1, y2, y3, z1, z2, z3, hD2⟩ := cat3 H D hHl6 hDl
                      rw [← hD2] at g3
                      have HH := Lib.hid hh
                      have G1 := Lib.hid g1
                      have G2 := Lib.hid g2
                      have G3 := Lib.hid g3
                      clear hh hH hpl g1 g2 g3 hgn hD2
                      go_wp2_with fail
                      refine HH.out.mono ?_
                      rintro e w3 ⟨rfl, rfl⟩
                      go_wp2
                      go_roundw
                      case rel => exact ⟨_, T2, D2, i + 1, G1.out, G2.out, G3.out, hT2l, rfl, rfl, hB2, by go_num, by omega⟩
                      case measure => simp [intOf]; omega
      · have hi3 : ¬ ((i : Int) < (xs.length : Int) ∧ (i : Int) < 40) := by omega
        by_cases hia : i < xs.length
        · have hib : ¬ (i : Int) < 40 := by omega
          go_wp2_with fail
          go_meet
          case rel => exact ⟨its, T, D, HGOOD.out, HTT.out, HDD.out, hl64, rfl, rfl, hb⟩
        · go_wp2_with fail
          go_meet
          case rel => exact ⟨its, T, D, HGOOD.out, HTT.out, HDD.out, hl64, rfl, rfl, hb⟩
  case rest =>
    obtain ⟨its, T, D, hgood, hT, hD, hl64, rfl, rfl, hb⟩ := hcut
    have hil := items_len its hgood
    have hpv := parV_items its hgood (by rw [← hT]; exact hl64)
    rw [show 34 :: encs (snds its) ++ [34] = D ++ [34] by rw [hD], ← hT] at hpv
    have hDl : D.length ≤ 1000 := by
      rw [hD, List.length_cons]
      rw [← hT] at hil
      omega
    have hcat : ¬ 9223372036854775807 < (⟨D.toArray⟩ : ByteArray).size + (⟨#[34]⟩ : ByteArray).size := by
      show ¬ 9223372036854775807 < D.toArray.size + 1
      rw [List.size_toArray]; omega
    have hap : (⟨D.toArray⟩ : ByteArray) ++ ⟨#[34]⟩ = ⟨(D ++ [34]).toArray⟩ := bs_app D [34]
    have hpc := fun h => parseV_any ⟨(D ++ [34]).toArray⟩ wc (by show (D ++ [34]).toArray.size ≤ _; rw [List.size_toArray, List.length_append, List.length_cons, List.length_nil]; omega) h
    rw [hpv] at hpc
    simp only [VVal.cells] at hpc
    obtain ⟨X, hX⟩ : ∃ X, X = D ++ [34] := ⟨_, rfl⟩
    rw [← hX] at hap hpc
    have HPC := Lib.hid (hpc (HT.out.below hb))
    clear hpc hpv hil hgood hD hX hT
    go_wp2_with fail
    refine HPC.out.mono ?_
    rintro e w2 ⟨rfl, hb2⟩
    have hy := heap_alloc_new w2 (.cells #[.int .i64 2, .int .i64 0, .string ⟨T.toArray⟩] 23)
    have e0 := cell_of_row _ w2.heap.size 0 _ _ _ hy
    have e1 := cell_of_row _ w2.heap.size 1 _ _ _ hy
    have e2 := cell_of_row _ w2.heap.size 2 _ _ _ hy
    have hB2 := hb.trans (hb2.mono hb.size)
    replace hB2 := hB2.alloc hB2.size (.cells #[.int .i64 2, .int .i64 0, .string ⟨T.toArray⟩] 23)
    clear hy hb hb2 HPC
    go_wp2
    go_ret
    exact ⟨rfl, hB2⟩
end Go.Proofs.YtinhmchekdolmaaDoor
