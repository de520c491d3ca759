/- An image in memory: area. -/
import Derived.Test.YtdjcpjfomgfjlaaImgC
import Derived.Deep.QuietTactic
namespace Go.Proofs.Ytdjcpjfomgfjlaa
open Go.RowKit Go.Maps

def sizO : Option (Nat × Nat) → Nat
  | none => 0
  | some (_, n) => n
/-- An area as a value: its sector, its number, its bytes. -/
def arV (i : Nat) (x : Option (Nat × Nat)) : Value := .agg #[.int .i64 (i : Int), .int .i64 (seqO x : Int), .int .i64 (sizO x : Int)]
theorem set3 {w : World} {b : Nat} {t : TypeId} {x0 x1 x2 : Value} (h : w.heap[b]? = some (.cells #[x0, x1, x2] t (0, 0))) (v0 v1 v2 : Value) :
    (((w.setCell ⟨b, 0, none⟩ v0).setCell ⟨b, 1, none⟩ v1).setCell ⟨b, 2, none⟩ v2).heap[b]? = some (.cells #[v0, v1, v2] t (0, 0)) := by
  have h1 := heap_setCell_same w b 0 #[x0, x1, x2] t v0 h
  have h2 := heap_setCell_same _ b 1 _ t v1 h1
  have h3 := heap_setCell_same _ b 2 _ t v2 h2
  simpa using h3
theorem below_set3 {B b : Nat} {a w : World} (h : Below B a w) (hb : B ≤ b) (v0 v1 v2 : Value) : Below B a (((w.setCell ⟨b, 0, none⟩ v0).setCell ⟨b, 1, none⟩ v1).setCell ⟨b, 2, none⟩ v2) :=
  ((h.setCell (p := ⟨b, 0, none⟩) hb v0).setCell (p := ⟨b, 1, none⟩) hb v1).setCell (p := ⟨b, 2, none⟩) hb v2
theorem resArea {w : World} {b : Nat} {v0 v1 v2 : Value} (h : w.heap[b]? = some (.cells #[v0, v1, v2] 118 (0, 0))) (tmps : Array Value) (h4 : tmps.getD 4 undef = .pointer (some ⟨b, 0, none⟩)) :
    (results Try.f79 tmps).run Try.prog w = .ok (.agg #[v0, v1, v2]) w := by
  have e0 : w.cell? ⟨b, 0, none⟩ = some v0 := cell_of_row w b 0 _ _ _ h
  have e1 : w.cell? ⟨b, 1, none⟩ = some v1 := cell_of_row w b 1 _ _ _ h
  have e2 : w.cell? ⟨b, 2, none⟩ = some v2 := cell_of_row w b 2 _ _ _ h
  have h4' := h4
  simp only [Array.getD_eq_getD_getElem?] at h4'
  simp [results, Try.results79, go_sem, h4', e0, e1, e2]
theorem rd_part {w : World} {B g : Nat} {l : List UInt8} (h : Rd w B (some ⟨g, 0, none⟩) (u8s l)) (i n : Nat) : Rd w B (some ⟨g, i, none⟩) (u8s ((l.drop i).take n)) := by
  have h2 := rd_drop (k := i) h
  intro hn
  have h0 : u8s (l.drop i) ≠ [] := by
    intro e
    apply hn
    have := congrArg List.length e
    rw [u8s_len] at this
    have h2 : l.drop i = [] := List.eq_nil_of_length_eq_zero this
    rw [h2]; simp [u8s]
  obtain ⟨b, o, e, hb, hc⟩ := h2 h0
  cases e
  refine ⟨g, i, rfl, hb, fun j u hu => hc j u ?_⟩
  rw [← hu]
  have hj := (List.getElem?_eq_some_iff.1 hu).1
  rw [u8s_len, List.length_take] at hj
  simp only [u8s, List.getElem?_map]
  rw [List.getElem?_take, if_pos (by omega)]
theorem seqI_big {X : Int} {b : List UInt8} {room : Nat} (hX : X = seqX b) (h : X < 1 ∨ 4611686018427387904 < X ∨ room < sizeV b) : ahd room b = none := by
  unfold ahd
  rw [if_neg]
  rintro ⟨h1, h2, h3, _⟩
  have : seqX b = (seqV b : Int) := by unfold seqX wrap64; omega
  omega
theorem seqI_ok {X : Int} {b : List UInt8} {room : Nat} (hX : X = seqX b) (h1 : 1 ≤ X) (h2 : X ≤ 4611686018427387904) (h3 : sizeV b ≤ room) : X = (seqV b : Int) ∧ ahd room b = if b = headI (seqV b) (sizeV b) then some (seqV b, sizeV b) else none := by
  have hv := seqV_lt b
  have e : seqX b = (seqV b : Int) := by unfold seqX wrap64 at hX ⊢; omega
  refine ⟨hX.trans e, ?_⟩
  unfold ahd
  by_cases h : b = headI (seqV b) (sizeV b)
  · rw [if_pos h, if_pos ⟨by omega, by omega, h3, h⟩]
  · rw [if_neg h, if_neg (fun hh => h hh.2.2.2)]
theorem sizeV_lt (b : List UInt8) : sizeV b < 4294967296 := by
  have := beV_lt ((b.drop 9).take 4)
  have h2 : ((b.drop 9).take 4).length ≤ 4 := List.length_take_le _ _
  have h3 : 256 ^ ((b.drop 9).take 4).length ≤ 256 ^ 4 := Nat.pow_le_pow_right (by omega) h2
  unfold sizeV
  omega
set_option maxRecDepth 100000 in
set_option maxHeartbeats 4000000 in
theorem area_any {w : World} {q p first count bs bw T : Nat} {M : DM} (h : ImgAt w q p first count) (hc : count ≤ 4096) (hD : DiskM w p bs bw M T) (hz : M.size ≤ 4096) {i : Nat} (hi : i < M.size) (b : List UInt8) (hb : b = M.get i) (R : Nat) (hR : R = roomI count) :
    Calls Try.prog 79 #[.pointer (some ⟨q, 0, none⟩), .int .i64 (i : Int)] w fun e w' => e = .returned (arV i (ahd R b)) ∧ Below w.heap.size w w' := by
  have hb0 : Below w.heap.size w (w.alloc (.cells #[.int .i64 0, .int .i64 0, .int .i64 0] 118)) := (Below.refl _ _).alloc (Nat.le_refl _) _
  have hg0 := heap_alloc_new w (.cells #[.int .i64 0, .int .i64 0, .int .i64 0] 118)
  have hs0 : (w.alloc (.cells #[.int .i64 0, .int .i64 0, .int .i64 0] 118)).heap.size = w.heap.size + 1 := by simp
  have hsec := sectorI_any (h.below hb0) (hD.kept hb0) hz hi
  have HSEC := Lib.hid hsec
  have HH := Lib.hid (And.intro (h.below hb0) (And.intro hb0 (And.intro hg0 (And.intro hs0 hc))))
  have HBR := Lib.hid (And.intro hb hR)
  clear h hD hsec hb0 hg0 hs0 hi hb hR
  go_enter Try.func79, Try.ntmps79
  go_upto_region 2 with (go_at_call 83; (with_reducible refine HSEC.out.mono ?_); rintro e w1 ⟨g, rfl, h1, h2, h3, h4, h5⟩)
  obtain ⟨W0, hW0⟩ : ∃ W0, W0 = w.alloc (.cells #[.int .i64 0, .int .i64 0, .int .i64 0] 118) := ⟨_, rfl⟩
  rw [← hW0] at h1 h5 HH
  rw [← HBR.out.1] at h3 h4
  have hw1 : Below w.heap.size w w1 := HH.out.2.1.trans (lower' h5 (by have := HH.out.2.2.2.1; omega))
  have hg1 := (h5.block w.heap.size (by have := HH.out.2.2.2.1; omega)).trans HH.out.2.2.1
  have hi1 := HH.out.1.below h5
  have h8 : ((b.drop 1).take 8).length = 8 := by simp; omega
  have h84 : ((b.drop 9).take 4).length = 4 := by simp; omega
  have hn1 : ∀ n, Calls Try.prog 88 #[.slice (some ⟨g, 1, none⟩) 8 63] (w1.drewN n) fun e w' => e = .returned (.int .i64 (seqX b)) ∧ w' = w1.drewN n := fun n => (number_any (some ⟨g, 1, none⟩) ((b.drop 1).take 8) 8 63 _ (w1.drewN n) ((rd_part h3 1 8).drewN n) h8.symm (by omega)).mono fun e w' hh => ⟨hh.1, hh.2.symm⟩
  have hn2 : ∀ n, Calls Try.prog 88 #[.slice (some ⟨g, 9, none⟩) 4 55] (w1.drewN n) fun e w' => e = .returned (.int .i64 (sizeV b : Int)) ∧ w' = w1.drewN n := fun n => (number_any (some ⟨g, 9, none⟩) ((b.drop 9).take 4) 4 55 _ (w1.drewN n) ((rd_part h3 9 4).drewN n) h84.symm (by omega)).mono fun e w' hh => ⟨hh.1.trans (by have := sizeV_lt b; have e9 : wrap64 (beV ((b.drop 9).take 4) : Int) = (sizeV b : Int) := by { show wrap64 (sizeV b : Int) = _; unfold wrap64; omega }; rw [e9]), hh.2.symm⟩
  have HN1 := Lib.hid hn1
  have HN2 := Lib.hid hn2
  have HB := Lib.hid (And.intro h3 (And.intro h4 (And.intro hw1 (And.intro hg1 hi1))))
  have HC := Lib.hid HH.out.2.2.2.2
  clear h1 h2 h3 h4 h5 hw1 hg1 hi1 h8 h84 hn1 hn2 HH HSEC hW0
  go_quiet ((first | (go_at_call 88; with_reducible exact Calls.quiet_of_same (HN1.out _)) | (go_at_call 88; with_reducible exact Calls.quiet_of_same (HN2.out _))))
  obtain ⟨X, hX⟩ : ∃ X, X = seqX b := ⟨_, rfl⟩
  obtain ⟨Y, hY⟩ : ∃ Y, Y = sizeV b := ⟨_, rfl⟩
  rw [← hX, ← hY]
  have hYl : (Y : Int) < 4294967296 := by have := sizeV_lt b; omega
  have hw2 : Below w.heap.size w (w1.drewN nq) := below_draws HB.out.2.2.1 nq
  have hg2 : (w1.drewN nq).heap[w.heap.size]? = some (.cells #[.int .i64 0, .int .i64 0, .int .i64 0] 118 (0, 0)) := HB.out.2.2.2.1
  have hi2 : ImgAt (w1.drewN nq) q p first count := HB.out.2.2.2.2.below (below_draws (Below.refl _ _) nq)
  have hr2 : Rd (w1.drewN nq) (w1.drewN nq).heap.size (some ⟨g, 0, none⟩) (u8s b) := HB.out.1.drewN nq
  have hl2 := HB.out.2.1
  clear HN1 HN2 HB
  generalize w1.drewN nq = w2 at hw2 hg2 hi2 hr2 ⊢
  have c0 := cell_of_row _ w.heap.size 0 _ _ _ hg2
  have f0 := frozen_of_row _ w.heap.size 0 _ _ hg2
  have c1 := cell_of_row _ w.heap.size 1 _ _ _ hg2
  have f1 := frozen_of_row _ w.heap.size 1 _ _ hg2
  have c2 := cell_of_row _ w.heap.size 2 _ _ _ hg2
  have f2 := frozen_of_row _ w.heap.size 2 _ _ hg2
  have hrm := roomI_any hi2 HC.out
  rw [← HBR.out.2] at hrm
  have HRM := Lib.hid hrm
  have HW := Lib.hid (And.intro hw2 (And.intro hg2 (And.intro hr2 hl2)))
  have hRI : (R : Int) ≤ 262144 := by have h := HC.out; have h2 := HBR.out.2; unfold roomI at h2; omega
  have HXY := Lib.hid (And.intro hX hY)
  clear hw2 hg2 hi2 hr2 hl2 hrm hc hz HBR HC
  by_cases hbad : X < 1 ∨ 4611686018427387904 < X ∨ (R : Int) < (Y : Int)
  · have hno : ahd R b = none := seqI_big HXY.out.1 (by rw [← HXY.out.2]; omega)
    have HNO := Lib.hid hno
    have hbad' : X < 1 ∨ (¬ X < 1 ∧ 4611686018427387904 < X) ∨ (¬ X < 1 ∧ ¬ 4611686018427387904 < X ∧ (R : Int) < (Y : Int)) := by omega
    clear hbad hno hX hY
    rcases hbad' with h1 | ⟨h1, h2⟩ | ⟨h1, h2, h3⟩
    all_goals
      go_wp2_with (go_at_call 62; (with_reducible refine HRM.out.mono ?_); rintro e w3 ⟨rfl, rfl⟩)
      exact bodyPost_ret (resArea (set3 HW.out.2.1 _ _ _) _ rfl) rfl ⟨by rw [HNO.out]; rfl, below_set3 HW.out.1 (Nat.le_refl _) _ _ _⟩
  · have h1 : 1 ≤ X := by omega
    have h2 : X ≤ 4611686018427387904 := by omega
    have h3 : (Y : Int) ≤ (R : Int) := by omega
    obtain ⟨hXS, hah⟩ := seqI_ok (room := R) HXY.out.1 (by omega) (by omega) (by rw [← HXY.out.2]; omega)
    obtain ⟨S, hS⟩ : ∃ S, S = seqV b := ⟨_, rfl⟩
    rw [← hS] at hXS hah
    rw [← HXY.out.2] at hah
    have HAH := Lib.hid hah
    have hho := headI_any S Y w2 (by omega) (by omega)
    rw [← hXS] at hho
    have HHO := Lib.hid hho
    have HXS := Lib.hid hXS
    have h3' : ¬ (R : Int) < (Y : Int) := by omega
    clear hXS hYl hRI h3
    clear hbad hX hY hah hS hho HXY
    by_cases hbe : b = headI S Y
    · have hbt : (b == headI S Y) = true := by rw [beq_iff_eq]; exact hbe
      have HBT := Lib.hid hbt
      have HAH := Lib.hid (HAH.out.trans (if_pos hbe))
      clear hbe hbt
      go_upto_if 36 with (first
        | (go_at_call 62; (with_reducible refine HRM.out.mono ?_); rintro e w3 ⟨rfl, rfl⟩)
        | (go_at_call 81; (with_reducible refine HHO.out.mono ?_); rintro e w4 ⟨g4, rfl, k1, k2, k3, k4, k5⟩)
        | (go_at_call 72; (refine (equal_any _ _ b (headI S Y) 64 64 64 64 _ _ w4 (HW.out.2.2.1.below k5 (Nat.le_refl _)) k3 HW.out.2.2.2.symm k4.symm).mono ?_); rintro e w5 ⟨rfl, rfl⟩; rw [HBT.out]; have hg4 := (k5.block w.heap.size (heap_lt HW.out.2.1)).trans HW.out.2.1; have d0 := cell_of_row _ w.heap.size 0 _ _ _ hg4; have e0 := frozen_of_row _ w.heap.size 0 _ _ hg4; have d1 := cell_of_row _ w.heap.size 1 _ _ _ hg4; have e1 := frozen_of_row _ w.heap.size 1 _ _ hg4; have d2 := cell_of_row _ w.heap.size 2 _ _ _ hg4; have e2 := frozen_of_row _ w.heap.size 2 _ _ hg4; have HG4 := Lib.hid hg4; clear hg4))
      go_wp2_with (fail)
      exact bodyPost_ret (resArea (set3 HG4.out _ _ _) _ rfl) rfl ⟨by rw [HAH.out, HXS.out]; rfl, below_set3 (HW.out.1.trans (lower' k5 HW.out.1.size)) (Nat.le_refl _) _ _ _⟩
    · have hbt : (b == headI S Y) = false := beq_eq_false_iff_ne.2 hbe
      have HBT := Lib.hid hbt
      have HAH := Lib.hid (HAH.out.trans (if_neg hbe))
      clear hbe hbt
      go_upto_if 36 with (first
        | (go_at_call 62; (with_reducible refine HRM.out.mono ?_); rintro e w3 ⟨rfl, rfl⟩)
        | (go_at_call 81; (with_reducible refine HHO.out.mono ?_); rintro e w4 ⟨g4, rfl, k1, k2, k3, k4, k5⟩)
        | (go_at_call 72; (refine (equal_any _ _ b (headI S Y) 64 64 64 64 _ _ w4 (HW.out.2.2.1.below k5 (Nat.le_refl _)) k3 HW.out.2.2.2.symm k4.symm).mono ?_); rintro e w5 ⟨rfl, rfl⟩; rw [HBT.out]; have hg4 := (k5.block w.heap.size (heap_lt HW.out.2.1)).trans HW.out.2.1; have d0 := cell_of_row _ w.heap.size 0 _ _ _ hg4; have e0 := frozen_of_row _ w.heap.size 0 _ _ hg4; have d1 := cell_of_row _ w.heap.size 1 _ _ _ hg4; have e1 := frozen_of_row _ w.heap.size 1 _ _ hg4; have d2 := cell_of_row _ w.heap.size 2 _ _ _ hg4; have e2 := frozen_of_row _ w.heap.size 2 _ _ hg4; have HG4 := Lib.hid hg4; clear hg4))
      go_wp2_with (fail)
      exact bodyPost_ret (resArea (set3 HG4.out _ _ _) _ rfl) rfl ⟨by rw [HAH.out]; rfl, below_set3 (HW.out.1.trans (lower' k5 HW.out.1.size)) (Nat.le_refl _) _ _ _⟩
end Go.Proofs.Ytdjcpjfomgfjlaa
