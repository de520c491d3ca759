/- The law's awake (layer 6). -/
import Derived.Test.YtklhfegdjadgdaaTreN
import Derived.Lib.SlBytesConst
namespace Go.Proofs.Ytklhfegdjadgdaa
open Go.RowKit Go.Maps

/-- A constant of one byte, as a slice. -/
theorem conv_one (w : World) (x : Int) : (convert 27 27 (.slice (some ⟨w.heap.size, 0, none⟩) 1 1)).run Try.prog (w.alloc (.cells #[.int .u8 x] 5)) = .ok (.slice (some ⟨w.heap.size, 0, none⟩) 1 1) (w.alloc (.cells #[.int .u8 x] 5 (1, 2))) :=
  Lib.run_convert_bytes_const w 27 5 #[.int .u8 x] 1 1 Try.underlying27 Try.underlying5
theorem conv_two (w : World) (o : Obj) (x : Int) : (convert 27 27 (.slice (some ⟨w.heap.size + 1, 0, none⟩) 1 1)).run Try.prog ((w.alloc o).alloc (.cells #[.int .u8 x] 5)) = .ok (.slice (some ⟨w.heap.size + 1, 0, none⟩) 1 1) ((w.alloc o).alloc (.cells #[.int .u8 x] 5 (1, 2))) := by
  have h := conv_one (w.alloc o) x
  rw [alloc1_size] at h
  exact h
theorem rd_const (w : World) (x : UInt8) : Rd (w.alloc (.cells #[.int .u8 (x.toNat : Int)] 5 (1, 2))) (w.heap.size + 1) (some ⟨w.heap.size, 0, none⟩) (u8s [x]) := Rd.new w #[.int .u8 (x.toNat : Int)] 5 (1, 2)
theorem put_const {w : World} {lo p : Nat} {L : List Pr} (h : TreeW w lo p L) (x y : UInt8) (hlo : lo ≤ w.heap.size) (hn : L.length ≤ 999999) :
    Calls Try.prog 10 #[.pointer (some ⟨p, 0, none⟩), .slice (some ⟨w.heap.size, 0, none⟩) 1 1, .slice (some ⟨w.heap.size + 1, 0, none⟩) 1 1] ((w.alloc (.cells #[.int .u8 (x.toNat : Int)] 5 (1, 2))).alloc (.cells #[.int .u8 (y.toNat : Int)] 5 (1, 2))) fun e w' => e = .returned (.bool (decide (L.length < (insL [x] [y] L).length))) ∧ TreeW w' lo p (insL [x] [y] L) ∧ Below lo w w' := by
  have hb1 : Below w.heap.size w (w.alloc (.cells #[.int .u8 (x.toNat : Int)] 5 (1, 2))) := (Below.refl _ _).alloc (Nat.le_refl _) _
  have hb2 : Below w.heap.size w ((w.alloc (.cells #[.int .u8 (x.toNat : Int)] 5 (1, 2))).alloc (.cells #[.int .u8 (y.toNat : Int)] 5 (1, 2))) := hb1.alloc (by simp) _
  have h2 := rd_const (w.alloc (.cells #[.int .u8 (x.toNat : Int)] 5 (1, 2))) y
  rw [alloc1_size] at h2
  have h1 := (rd_const w x).alloc (by simp) (.cells #[.int .u8 (y.toNat : Int)] 5 (1, 2))
  refine (tput_any (h.below hb2) ⟨some ⟨w.heap.size, 0, none⟩, [x], 1⟩ ⟨some ⟨w.heap.size + 1, 0, none⟩, [y], 1⟩ (w.heap.size + 2) (h1.more (by omega)) h2 (by simp) (by simp) (by simp) (by simp; omega) hn).mono ?_
  rintro e w' ⟨h5, h6, h7⟩
  exact ⟨h5, h6, (lower' hb2 hlo).trans h7⟩
theorem rank_const {w : World} {lo p : Nat} {L : List Pr} (h : TreeW w lo p L) (x : UInt8) (hn : L.length ≤ 1000000) :
    Calls Try.prog 11 #[.pointer (some ⟨p, 0, none⟩), .slice (some ⟨w.heap.size, 0, none⟩) 1 1] (w.alloc (.cells #[.int .u8 (x.toNat : Int)] 5 (1, 2))) fun e w' => e = .returned (.int .i64 (rankL [x] L : Int)) ∧ (w.alloc (.cells #[.int .u8 (x.toNat : Int)] 5 (1, 2))) = w' :=
  trank_any (h.below ((Below.refl _ w).alloc (Nat.le_refl _) (.cells #[.int .u8 (x.toNat : Int)] 5 (1, 2)))) ⟨some ⟨w.heap.size, 0, none⟩, [x], 1⟩ (w.heap.size + 1) (rd_const w x) hn
theorem prL_two {P : List (Bs × Bs)} {a b : Pr} (h : prL P = [a, b]) : ∃ k1 x1 k2 x2 : Bs, P = [(k1, x1), (k2, x2)] ∧ k1.l = a.1 ∧ x1.l = a.2 ∧ k2.l = b.1 ∧ x2.l = b.2 := by
  match P, h with
  | [(k1, x1), (k2, x2)], h =>
    injection h with h1 h2
    injection h2 with h3 _
    exact ⟨k1, x1, k2, x2, rfl, by rw [← h1], by rw [← h1], by rw [← h3], by rw [← h3]⟩
def awL1 : List Pr := [([98], [49])]
def awL2 : List Pr := [([97], [50]), ([98], [49])]
def awL3 : List Pr := [([97], [50]), ([98], [51])]
theorem aw_plain : insL [98] [49] [] = awL1 ∧ insL [97] [50] awL1 = awL2 ∧ insL [98] [51] awL2 = awL3 ∧ rngL [] [] 9 awL3 = awL3 ∧ rankL [98] awL3 = 1 := by decide +kernel
theorem aw_bits : bits 2 = 2 := by rw [bits, if_neg (by omega), bits, if_neg (by omega), bits, if_pos (by omega)]
theorem aw_codes : decide (([] : List Pr).length < awL1.length) = true ∧ decide (awL1.length < awL2.length) = true ∧ decide (awL2.length < awL3.length) = false := by decide
set_option maxRecDepth 100000 in
set_option maxHeartbeats 4000000 in
theorem treeAwake_any (w : World) : Calls Try.prog 5 #[] w fun e w' => e = .returned (.bool true) ∧ Below w.heap.size w w' := by
  have hcv := conv_one
  have hcw := conv_two
  have hnew := tnew_any w w.heap.size (Nat.le_refl _)
  have HNEW := Lib.hid hnew
  clear hnew
  go_enter Try.func5, Try.ntmps5
  go_upto_region 2 with (go_at_call 4; (with_reducible refine HNEW.out.mono ?_); rintro e w1 ⟨rfl, h1, hb1⟩)
  have hp1 : Calls Try.prog 10 #[.pointer (some ⟨w.heap.size, 0, none⟩), .slice (some ⟨w1.heap.size, 0, none⟩) 1 1, .slice (some ⟨w1.heap.size + 1, 0, none⟩) 1 1] ((w1.alloc (.cells #[.int .u8 98] 5 (1, 2))).alloc (.cells #[.int .u8 49] 5 (1, 2))) _ := put_const h1 98 49 hb1.size (by simp)
  rw [aw_plain.1, aw_codes.1] at hp1
  have HP1 := Lib.hid hp1
  have HB1 := Lib.hid hb1
  clear h1 hp1 hb1
  have tok : True := trivial
  go_upto_region 4 with (first
    | (go_at_call 10; have _t := tok; (with_reducible refine HP1.out.mono ?_); rintro e w2 ⟨rfl, h2, hb2⟩; have hp2 : Calls Try.prog 10 #[.pointer (some ⟨w.heap.size, 0, none⟩), .slice (some ⟨w2.heap.size, 0, none⟩) 1 1, .slice (some ⟨w2.heap.size + 1, 0, none⟩) 1 1] ((w2.alloc (.cells #[.int .u8 97] 5 (1, 2))).alloc (.cells #[.int .u8 50] 5 (1, 2))) _ := put_const h2 97 50 (Nat.le_trans HB1.out.size hb2.size) (by decide); rw [aw_plain.2.1, aw_codes.2.1] at hp2; have HP2 := Lib.hid hp2; have HB2 := Lib.hid hb2; clear h2 hb2 hp2 tok _t)
    | (go_at_call 10; (with_reducible refine HP2.out.mono ?_); rintro e w3 ⟨rfl, h3, hb3⟩; have hp3 : Calls Try.prog 10 #[.pointer (some ⟨w.heap.size, 0, none⟩), .slice (some ⟨w3.heap.size, 0, none⟩) 1 1, .slice (some ⟨w3.heap.size + 1, 0, none⟩) 1 1] ((w3.alloc (.cells #[.int .u8 98] 5 (1, 2))).alloc (.cells #[.int .u8 51] 5 (1, 2))) _ := put_const h3 98 51 (Nat.le_trans (Nat.le_trans HB1.out.size HB2.out.size) hb3.size) (by decide); rw [aw_plain.2.2.1, aw_codes.2.2] at hp3; have HP3 := Lib.hid hp3; have HB3 := Lib.hid hb3; clear h3 hb3 hp3 HP2)
    | (go_at_call 10; (with_reducible refine HP3.out.mono ?_); rintro e w4 ⟨rfl, h4, hb4⟩; have H4 := Lib.hid (And.intro h4 hb4); clear h4 hb4 HP3))
  have hrg : Calls Try.prog 9 #[.pointer (some ⟨w.heap.size, 0, none⟩), .slice none 0 0, .slice none 0 0, .int .i64 9] w4 _ := trange_any H4.out.1 ⟨none, [], 0⟩ ⟨none, [], 0⟩ 0 (Rd.emp _ _ _) (Rd.emp _ _ _) 9 (by decide) (by simp) (by omega)
  rw [aw_plain.2.2.2.1] at hrg
  have HRG := Lib.hid hrg
  clear hrg
  go_upto_region 5 with (go_at_call 9; (with_reducible refine HRG.out.mono ?_); rintro e w5 ⟨v5, P5, rfl, h5, hP5, hb5⟩)
  obtain ⟨k1, x1, k2, x2, rfl, hk1, _, _, hx2⟩ := prL_two hP5
  change k1.l = [97] at hk1
  change x2.l = [51] at hx2
  obtain ⟨A5, c5, rfl, _, _, hrd⟩ := own_shape h5.row
  obtain ⟨ab, ao, rfl, hab, hcc⟩ := hrd (by simp [prC])
  have m0 : w5.cell? ⟨ab, ao, none⟩ = some (.slice k1.A 1 k1.c) := by have := hcc 0 _ rfl; rw [hk1] at this; exact this
  have m3 : w5.cell? ⟨ab, ao + 2 + 1, none⟩ = some (.slice x2.A 1 x2.c) := by have := hcc 3 _ rfl; rw [hx2] at this; exact this
  have s1 : (convert 27 9 (.slice k1.A 1 k1.c)).run Try.prog w5 = .ok (.string ⟨#[97]⟩) w5 := by
    have h := (h5.key (k1, x1) (by simp)).1.1.1
    rw [hk1] at h
    exact strAt h rfl
  have s2 : (convert 27 9 (.slice x2.A 1 x2.c)).run Try.prog w5 = .ok (.string ⟨#[51]⟩) w5 := by
    have h := (h5.key (k2, x2) (by simp)).2.2.1.1.1
    rw [hx2] at h
    exact strAt h rfl
  have hT5 := H4.out.1.below hb5
  have hrk : Calls Try.prog 11 #[.pointer (some ⟨w.heap.size, 0, none⟩), .slice (some ⟨w5.heap.size, 0, none⟩) 1 1] (w5.alloc (.cells #[.int .u8 98] 5 (1, 2))) _ := rank_const hT5 98 (by decide)
  rw [aw_plain.2.2.2.2] at hrk
  have hdp := tdepth_any (hT5.below ((Below.refl _ w5).alloc (Nat.le_refl _) (.cells #[.int .u8 98] 5 (1, 2))))
  have HRK := Lib.hid hrk
  have HDP := Lib.hid hdp
  have H5 := Lib.hid hb5
  clear h5 hP5 hk1 hx2 hrd hcc hab hT5 hrk hdp hb5 hcw
  go_wp2_with (first
    | (go_at_call 11; (with_reducible refine HRK.out.mono ?_); rintro e w6 ⟨rfl, rfl⟩)
    | (go_at_call 12; (with_reducible refine HDP.out.mono ?_); rintro e w7 ⟨d, rfl, d1, _, _, rfl⟩; have d2 : (d : Int) ≤ 4 := (by have e2 : awL3.length = 2 := rfl; rw [e2, aw_bits] at d1; omega)))
  go_ret
  exact ⟨rfl, ((HB1.out.trans HB2.out).trans (HB3.out.trans H4.out.2)).trans ((lower' H5.out (Nat.le_trans HB1.out.size (Nat.le_trans HB2.out.size (Nat.le_trans HB3.out.size H4.out.2.size)))).alloc (Nat.le_trans HB1.out.size (Nat.le_trans HB2.out.size (Nat.le_trans HB3.out.size (Nat.le_trans H4.out.2.size H5.out.size)))) _)⟩
end Go.Proofs.Ytklhfegdjadgdaa
