/- The document's disk: Write. -/
import Derived.Test.YtdjcpjfomgfjlaaRefB
namespace Go.Proofs.Ytdjcpjfomgfjlaa
open Go.RowKit Go.Maps

theorem grown_set (w : World) (b k : Nat) (u : Value) : w.grownBy (w.setCell ⟨b, k, none⟩ u) (some b) := ⟨rfl, rfl, rfl, by simp [World.setCell], fun i _ h => Below.heap_setCell _ _ _ _ fun e => h (by rw [e])⟩
theorem strs_get (L : List (List UInt8)) (i : Nat) (h : i < L.length) : (strs L)[i]? = some (.string ⟨L[i].toArray⟩) := by simp [strs, h]
theorem bools_get (L : List Bool) (i : Nat) (h : i < L.length) : (bools L)[i]? = some (.bool L[i]) := by simp [bools, h]
theorem strs_set (L : List (List UInt8)) (i : Nat) (l : List UInt8) : strs (L.set i l) = (strs L).set i (.string ⟨l.toArray⟩) := by simp [strs, List.map_set]
theorem bools_set (L : List Bool) (i : Nat) (b : Bool) : bools (L.set i b) = (bools L).set i (.bool b) := by simp [bools, List.map_set]
def RD.writeBad (R : RD) (i : Int) (l : List UInt8) : Prop := ¬ (0 ≤ i ∧ i < R.now.length) ∨ l.length ≠ 64
instance (R : RD) (i : Int) (l : List UInt8) : Decidable (R.writeBad i l) := inferInstanceAs (Decidable (¬ (0 ≤ i ∧ i < R.now.length) ∨ l.length ≠ 64))
def RD.writeE (R : RD) (i : Int) (l : List UInt8) : Int := if R.writeBad i l then 1 else if R.left = 0 then 30 else 0
def RD.writeM (R : RD) (i : Int) (l : List UInt8) : RD := if R.writeBad i l then R else if R.left = 0 then R else ⟨R.sure, R.now.set i.toNat l, R.fresh.set i.toNat true, stepS R.steps R.left, stepL R.left⟩
set_option maxRecDepth 100000 in
set_option maxHeartbeats 2000000 in
theorem rwrite_bad (w : World) (X : List Nat) (R : RD) (v : Value) (h : RefV w X R v) (i : Int) (l : List UInt8) (hb : R.writeBad i l) :
    Calls Try.prog 19 #[v, .int .i64 i, .string ⟨l.toArray⟩] w fun e w' => ∃ v', e = .returned (.tuple #[v', .int .i64 1]) ∧ RefV w' X R v' ∧ Below w.heap.size w w' := by
  have hh := h
  obtain ⟨A1, A2, A3, c1, c2, c3, rfl, h1, h2, h3⟩ := h
  have hsz : (⟨l.toArray⟩ : ByteArray).size = l.length := rfl
  by_cases hi0 : i < 0
  · go_enter Try.func19, Try.ntmps19
    go_wp2
    exact bodyPost_ret (resWrite (lastAgg _ _ _ _ _ _) _ rfl) rfl ⟨_, rfl, hh.below (below2 _ _ _), below2 _ _ _⟩
  · by_cases hin : (R.now.length : Int) ≤ i
    · go_enter Try.func19, Try.ntmps19
      go_wp2
      exact bodyPost_ret (resWrite (lastAgg _ _ _ _ _ _) _ rfl) rfl ⟨_, rfl, hh.below (below2 _ _ _), below2 _ _ _⟩
    · have hl : ¬ ((l.length : Int) = 64) := by
        rcases hb with hb | hb
        · exact absurd ⟨by omega, by omega⟩ hb
        · omega
      go_enter Try.func19, Try.ntmps19
      go_wp2
      exact bodyPost_ret (resWrite (lastAgg _ _ _ _ _ _) _ rfl) rfl ⟨_, rfl, hh.below (below2 _ _ _), below2 _ _ _⟩

set_option maxRecDepth 100000 in
set_option maxHeartbeats 4000000 in
theorem rwrite_good (w : World) (X : List Nat) (R : RD) (v : Value) (h : RefV w X R v) (hk : R.Ok) (hX : ∀ x ∈ X, x < w.heap.size) (i : Nat) (l : List UInt8) (hi : i < R.now.length) (hl : l.length = 64) :
    Calls Try.prog 19 #[v, .int .i64 (i : Int), .string ⟨l.toArray⟩] w fun e w' => ∃ v', e = .returned (.tuple #[v', .int .i64 (if R.left = 0 then 30 else 0)]) ∧ RefV w' X (if R.left = 0 then R else ⟨R.sure, R.now.set i l, R.fresh.set i true, stepS R.steps R.left, stepL R.left⟩) v' ∧ Below w.heap.size w w' := by
  have hh := h
  obtain ⟨A1, A2, A3, c1, c2, c3, rfl, h1, h2, h3⟩ := h
  have HST := Lib.hid (fun (W : World) => rstep_any W A1 A2 A3 R.sure.length R.now.length R.fresh.length c1 c2 c3 R.steps R.left hk.left hk.steps)
  unfold dv at HST
  have hb2 : Below w.heap.size w ((w.alloc (.cells #[.slice A1 R.sure.length c1, .slice A2 R.now.length c2, .slice A3 R.fresh.length c3, .int .i64 R.steps, .int .i64 R.left] 33)).alloc (.cells #[.slice none 0 0, .slice none 0 0, .slice none 0 0, .int .i64 0, .int .i64 0] 33)) := below2 _ _ _
  have hs2 : ((w.alloc (.cells #[.slice A1 R.sure.length c1, .slice A2 R.now.length c2, .slice A3 R.fresh.length c3, .int .i64 R.steps, .int .i64 R.left] 33)).alloc (.cells #[.slice none 0 0, .slice none 0 0, .slice none 0 0, .int .i64 0, .int .i64 0] 33)).heap.size = w.heap.size + 2 := by simp
  obtain ⟨g0, g1⟩ := two_new w (.cells #[.slice A1 R.sure.length c1, .slice A2 R.now.length c2, .slice A3 R.fresh.length c3, .int .i64 R.steps, .int .i64 R.left] 33) (.cells #[.slice none 0 0, .slice none 0 0, .slice none 0 0, .int .i64 0, .int .i64 0] 33)
  have HW2 := Lib.hid (And.intro hb2 (And.intro hs2 (And.intro g0 g1)))
  have hiI : (i : Int) < (R.now.length : Int) := by omega
  have hlI : (l.length : Int) = 64 := by omega
  have hfI : (i : Int) < (R.fresh.length : Int) := by have := hk.fresh; omega
  have hfN : i < R.fresh.length := by omega
  have hsz : (⟨l.toArray⟩ : ByteArray).size = l.length := rfl
  have HK := Lib.hid hk
  have HI2 := Lib.hid hi
  have HI := Lib.hid (show 0 < R.now.length ∧ 0 < R.fresh.length from ⟨by omega, by have := hk.fresh; omega⟩)
  clear hb2 hs2 g0 g1 hi hl hk
  by_cases h0 : R.left = 0
  · rw [decide_eq_true h0] at HST
    rw [if_pos h0, if_pos h0]
    have H0 := Lib.hid h0
    clear h0
    go_enter Try.func19, Try.ntmps19
    go_upto_region 4 with (first
      | (go_at_call 54; (with_reducible refine (HST.out _).mono ?_); rintro e w1 ⟨rfl, hb1⟩; rw [HW2.out.2.1] at hb1; have d0 := (hb1.block w.heap.size (by omega)).trans HW2.out.2.2.1; have d1 := (hb1.block (w.heap.size + 1) (by omega)).trans HW2.out.2.2.2; have e0 := cell_of_row w1 (w.heap.size) 0 _ _ _ d0; have e1 := cell_of_row w1 (w.heap.size) 1 _ _ _ d0; have e2 := cell_of_row w1 (w.heap.size) 2 _ _ _ d0; have e3 := cell_of_row w1 (w.heap.size) 3 _ _ _ d0; have e4 := cell_of_row w1 (w.heap.size) 4 _ _ _ d0; have ef0 := frozen_of_row w1 (w.heap.size) 0 _ _ d0; have ef1 := frozen_of_row w1 (w.heap.size) 1 _ _ d0; have ef2 := frozen_of_row w1 (w.heap.size) 2 _ _ d0; have ef3 := frozen_of_row w1 (w.heap.size) 3 _ _ d0; have ef4 := frozen_of_row w1 (w.heap.size) 4 _ _ d0)
      | go_in)
    have hW1 : Below w.heap.size w (((((w1.setCell ⟨w.heap.size, 0, none⟩ (.slice A1 R.sure.length c1)).setCell ⟨w.heap.size, 1, none⟩ (.slice A2 R.now.length c2)).setCell ⟨w.heap.size, 2, none⟩ (.slice A3 R.fresh.length c3)).setCell ⟨w.heap.size, 3, none⟩ (.int .i64 (stepS R.steps R.left))).setCell ⟨w.heap.size, 4, none⟩ (.int .i64 (stepL R.left))) := below_put w w1 (HW2.out.1.trans (lower' hb1 (by omega))) _ _ _ _ _
    have hs1 : w.heap.size + 1 < (((((w1.setCell ⟨w.heap.size, 0, none⟩ (.slice A1 R.sure.length c1)).setCell ⟨w.heap.size, 1, none⟩ (.slice A2 R.now.length c2)).setCell ⟨w.heap.size, 2, none⟩ (.slice A3 R.fresh.length c3)).setCell ⟨w.heap.size, 3, none⟩ (.int .i64 (stepS R.steps R.left))).setCell ⟨w.heap.size, 4, none⟩ (.int .i64 (stepL R.left))).heap.size := by have := hb1.size; have := HW2.out.2.1; simp [World.setCell]; omega
    have q0 := set5 d0 (.slice A1 R.sure.length c1) (.slice A2 R.now.length c2) (.slice A3 R.fresh.length c3) (.int .i64 (stepS R.steps R.left)) (.int .i64 (stepL R.left))
    have q1 := (other_put w1 w.heap.size (w.heap.size + 1) (by omega) (.slice A1 R.sure.length c1) (.slice A2 R.now.length c2) (.slice A3 R.fresh.length c3) (.int .i64 (stepS R.steps R.left)) (.int .i64 (stepL R.left))).trans d1
    clear d0 d1 hb1 e0 ef0 e1 ef1 e2 ef2 e3 ef3 e4 ef4
    generalize (((((w1.setCell ⟨w.heap.size, 0, none⟩ (.slice A1 R.sure.length c1)).setCell ⟨w.heap.size, 1, none⟩ (.slice A2 R.now.length c2)).setCell ⟨w.heap.size, 2, none⟩ (.slice A3 R.fresh.length c3)).setCell ⟨w.heap.size, 3, none⟩ (.int .i64 (stepS R.steps R.left))).setCell ⟨w.heap.size, 4, none⟩ (.int .i64 (stepL R.left))) = W1 at hW1 hs1 q0 q1 ⊢
    have e0 := cell_of_row W1 (w.heap.size) 0 _ _ _ q0
    have e1 := cell_of_row W1 (w.heap.size) 1 _ _ _ q0
    have e2 := cell_of_row W1 (w.heap.size) 2 _ _ _ q0
    have e3 := cell_of_row W1 (w.heap.size) 3 _ _ _ q0
    have e4 := cell_of_row W1 (w.heap.size) 4 _ _ _ q0
    have ef0 := frozen_of_row W1 (w.heap.size) 0 _ _ q0
    have ef1 := frozen_of_row W1 (w.heap.size) 1 _ _ q0
    have ef2 := frozen_of_row W1 (w.heap.size) 2 _ _ q0
    have ef3 := frozen_of_row W1 (w.heap.size) 3 _ _ q0
    have ef4 := frozen_of_row W1 (w.heap.size) 4 _ _ q0
    have m0 := cell_of_row W1 (w.heap.size + 1) 0 _ _ _ q1
    have m1 := cell_of_row W1 (w.heap.size + 1) 1 _ _ _ q1
    have m2 := cell_of_row W1 (w.heap.size + 1) 2 _ _ _ q1
    have m3 := cell_of_row W1 (w.heap.size + 1) 3 _ _ _ q1
    have m4 := cell_of_row W1 (w.heap.size + 1) 4 _ _ _ q1
    have mf0 := frozen_of_row W1 (w.heap.size + 1) 0 _ _ q1
    have mf1 := frozen_of_row W1 (w.heap.size + 1) 1 _ _ q1
    have mf2 := frozen_of_row W1 (w.heap.size + 1) 2 _ _ q1
    have mf3 := frozen_of_row W1 (w.heap.size + 1) 3 _ _ q1
    have mf4 := frozen_of_row W1 (w.heap.size + 1) 4 _ _ q1
    clear h1 h2 h3
    go_wp2_with go_in
    refine bodyPost_ret (resWrite (set5 q1 _ _ _ _ _) _ rfl) rfl ⟨dv A1 A2 A3 R.sure.length R.now.length R.fresh.length c1 c2 c3 (stepS R.steps R.left) (stepL R.left), ?_, ?_, ?_⟩
    · rfl
    · rw [show stepS R.steps R.left = R.steps from if_pos H0.out, show stepL R.left = R.left from (if_pos H0.out).trans H0.out.symm]
      exact hh.below (below_put1 w W1 hW1 _ _ _ _ _)
    · exact below_put1 w W1 hW1 _ _ _ _ _
  · rw [decide_eq_false h0] at HST
    rw [if_neg h0, if_neg h0]
    have H0 := Lib.hid h0
    clear h0
    go_enter Try.func19, Try.ntmps19
    go_upto_region 4 with (first
      | (go_at_call 54; (with_reducible refine (HST.out _).mono ?_); rintro e w1 ⟨rfl, hb1⟩; rw [HW2.out.2.1] at hb1; have d0 := (hb1.block w.heap.size (by omega)).trans HW2.out.2.2.1; have d1 := (hb1.block (w.heap.size + 1) (by omega)).trans HW2.out.2.2.2; have e0 := cell_of_row w1 (w.heap.size) 0 _ _ _ d0; have e1 := cell_of_row w1 (w.heap.size) 1 _ _ _ d0; have e2 := cell_of_row w1 (w.heap.size) 2 _ _ _ d0; have e3 := cell_of_row w1 (w.heap.size) 3 _ _ _ d0; have e4 := cell_of_row w1 (w.heap.size) 4 _ _ _ d0; have ef0 := frozen_of_row w1 (w.heap.size) 0 _ _ d0; have ef1 := frozen_of_row w1 (w.heap.size) 1 _ _ d0; have ef2 := frozen_of_row w1 (w.heap.size) 2 _ _ d0; have ef3 := frozen_of_row w1 (w.heap.size) 3 _ _ d0; have ef4 := frozen_of_row w1 (w.heap.size) 4 _ _ d0)
      | go_in)
    have hW1 : Below w.heap.size w (((((w1.setCell ⟨w.heap.size, 0, none⟩ (.slice A1 R.sure.length c1)).setCell ⟨w.heap.size, 1, none⟩ (.slice A2 R.now.length c2)).setCell ⟨w.heap.size, 2, none⟩ (.slice A3 R.fresh.length c3)).setCell ⟨w.heap.size, 3, none⟩ (.int .i64 (stepS R.steps R.left))).setCell ⟨w.heap.size, 4, none⟩ (.int .i64 (stepL R.left))) := below_put w w1 (HW2.out.1.trans (lower' hb1 (by omega))) _ _ _ _ _
    have hs1 : w.heap.size + 1 < (((((w1.setCell ⟨w.heap.size, 0, none⟩ (.slice A1 R.sure.length c1)).setCell ⟨w.heap.size, 1, none⟩ (.slice A2 R.now.length c2)).setCell ⟨w.heap.size, 2, none⟩ (.slice A3 R.fresh.length c3)).setCell ⟨w.heap.size, 3, none⟩ (.int .i64 (stepS R.steps R.left))).setCell ⟨w.heap.size, 4, none⟩ (.int .i64 (stepL R.left))).heap.size := by have := hb1.size; have := HW2.out.2.1; simp [World.setCell]; omega
    have q0 := set5 d0 (.slice A1 R.sure.length c1) (.slice A2 R.now.length c2) (.slice A3 R.fresh.length c3) (.int .i64 (stepS R.steps R.left)) (.int .i64 (stepL R.left))
    have q1 := (other_put w1 w.heap.size (w.heap.size + 1) (by omega) (.slice A1 R.sure.length c1) (.slice A2 R.now.length c2) (.slice A3 R.fresh.length c3) (.int .i64 (stepS R.steps R.left)) (.int .i64 (stepL R.left))).trans d1
    clear d0 d1 hb1 e0 ef0 e1 ef1 e2 ef2 e3 ef3 e4 ef4
    generalize (((((w1.setCell ⟨w.heap.size, 0, none⟩ (.slice A1 R.sure.length c1)).setCell ⟨w.heap.size, 1, none⟩ (.slice A2 R.now.length c2)).setCell ⟨w.heap.size, 2, none⟩ (.slice A3 R.fresh.length c3)).setCell ⟨w.heap.size, 3, none⟩ (.int .i64 (stepS R.steps R.left))).setCell ⟨w.heap.size, 4, none⟩ (.int .i64 (stepL R.left))) = W1 at hW1 hs1 q0 q1 ⊢
    have e0 := cell_of_row W1 (w.heap.size) 0 _ _ _ q0
    have e1 := cell_of_row W1 (w.heap.size) 1 _ _ _ q0
    have e2 := cell_of_row W1 (w.heap.size) 2 _ _ _ q0
    have e3 := cell_of_row W1 (w.heap.size) 3 _ _ _ q0
    have e4 := cell_of_row W1 (w.heap.size) 4 _ _ _ q0
    have ef0 := frozen_of_row W1 (w.heap.size) 0 _ _ q0
    have ef1 := frozen_of_row W1 (w.heap.size) 1 _ _ q0
    have ef2 := frozen_of_row W1 (w.heap.size) 2 _ _ q0
    have ef3 := frozen_of_row W1 (w.heap.size) 3 _ _ q0
    have ef4 := frozen_of_row W1 (w.heap.size) 4 _ _ q0
    have m0 := cell_of_row W1 (w.heap.size + 1) 0 _ _ _ q1
    have m1 := cell_of_row W1 (w.heap.size + 1) 1 _ _ _ q1
    have m2 := cell_of_row W1 (w.heap.size + 1) 2 _ _ _ q1
    have m3 := cell_of_row W1 (w.heap.size + 1) 3 _ _ _ q1
    have m4 := cell_of_row W1 (w.heap.size + 1) 4 _ _ _ q1
    have mf0 := frozen_of_row W1 (w.heap.size + 1) 0 _ _ q1
    have mf1 := frozen_of_row W1 (w.heap.size + 1) 1 _ _ q1
    have mf2 := frozen_of_row W1 (w.heap.size + 1) 2 _ _ q1
    have mf3 := frozen_of_row W1 (w.heap.size + 1) 3 _ _ q1
    have mf4 := frozen_of_row W1 (w.heap.size + 1) 4 _ _ q1
    have hS2 := h2.below hW1
    obtain ⟨s0, hs, hsz0, hsz1, hsz2⟩ := info_parts infoStr
    obtain ⟨b0, hb, hbz0, hbz1, hbz2⟩ := info_parts infoBool
    clear e0 e1 e2 e3 e4 ef0 ef1 ef2 ef3 ef4 m0 m1 m2 m3 m4 mf0 mf1 mf2 mf3 mf4
    have tok1 : True := trivial
    have HX := Lib.hid hX
    have HW1 := Lib.hid (And.intro hW1 (And.intro hs1 (And.intro q0 (And.intro q1 hS2))))
    have HH := Lib.hid (And.intro h1 h3)
    clear hW1 q0 q1 hS2 h1 h2 h3 hh hX
    have qa := (Below.heap_alloc W1 (.cells #[] 9) w.heap.size (by omega)).trans HW1.out.2.2.1
    have a0 := cell_of_row (W1.alloc (.cells #[] 9)) (w.heap.size) 0 _ _ _ qa
    have a1 := cell_of_row (W1.alloc (.cells #[] 9)) (w.heap.size) 1 _ _ _ qa
    have a2 := cell_of_row (W1.alloc (.cells #[] 9)) (w.heap.size) 2 _ _ _ qa
    have a3 := cell_of_row (W1.alloc (.cells #[] 9)) (w.heap.size) 3 _ _ _ qa
    have a4 := cell_of_row (W1.alloc (.cells #[] 9)) (w.heap.size) 4 _ _ _ qa
    have af0 := frozen_of_row (W1.alloc (.cells #[] 9)) (w.heap.size) 0 _ _ qa
    have af1 := frozen_of_row (W1.alloc (.cells #[] 9)) (w.heap.size) 1 _ _ qa
    have af2 := frozen_of_row (W1.alloc (.cells #[] 9)) (w.heap.size) 2 _ _ qa
    have af3 := frozen_of_row (W1.alloc (.cells #[] 9)) (w.heap.size) 3 _ _ qa
    have af4 := frozen_of_row (W1.alloc (.cells #[] 9)) (w.heap.size) 4 _ _ qa
    clear qa
    go_wp2_with (first
      | (at_builtin; have _t := tok1; go_loud (refine wpList_appR _ rfl (.tmp 32) (.tmp 34) _ rfl W1.heap.size 9 s0 _ 1 16 Try.underlying30 hs hsz0 hsz1 hsz2 rfl (by omega) (.slice (some ⟨W1.heap.size, 0, none⟩) 0 0) 0 [] rfl (own_lit0 W1 (Nat.le_refl _)) (W1.heap.size + 1) A2 R.now.length c2 (strs R.now) rfl (by simp) ((HW1.out.2.2.2.2.below ((Below.refl _ _).alloc (Nat.le_refl _) _)).1.more (by simp)) (strs_one _) (by have := HK.out.fresh; have := HK.out.n; omega) (by omega) (by simp) ?_; intro v2 w2 hown2 hg2 hat2; rw [Nat.zero_add, List.nil_append] at hown2; have hB2 := append0_below hg2; clear hg2 hat2; have s2 := hB2.size; obtain ⟨g2, cv2, rfl, hg21, hg22, hvc2, hvm2⟩ := own_form hown2 HI.out.1; have p0 := (hB2.block w.heap.size (by omega)).trans HW1.out.2.2.1; have p1 := (hB2.block (w.heap.size + 1) (by omega)).trans HW1.out.2.2.2.1; have k1 := cell_of_row w2 (w.heap.size) 1 _ _ _ p0; have kf1 := frozen_of_row w2 (w.heap.size) 1 _ _ p0; have r0 := (Below.heap_alloc (w2.setCell ⟨w.heap.size, 1, none⟩ (.slice (some ⟨g2, 0, none⟩) R.now.length cv2)) (.cells #[] 4) w.heap.size (by simp [World.setCell]; omega)).trans (heap_setCell_same w2 w.heap.size 1 _ _ (.slice (some ⟨g2, 0, none⟩) R.now.length cv2) p0); have j2 := cell_of_row ((w2.setCell ⟨w.heap.size, 1, none⟩ (.slice (some ⟨g2, 0, none⟩) R.now.length cv2)).alloc (.cells #[] 4)) (w.heap.size) 2 _ _ _ r0; have bUA : Below w.heap.size w ((w2.setCell ⟨w.heap.size, 1, none⟩ (.slice (some ⟨g2, 0, none⟩) R.now.length cv2)).alloc (.cells #[] 4)) := ((HW1.out.1.trans (lower' hB2 (by omega))).setCell (by simp) _).alloc (by simp [World.setCell]; omega) _; have hrF := (HH.out.2.below bUA).1; have su2 : (w2.setCell ⟨w.heap.size, 1, none⟩ (.slice (some ⟨g2, 0, none⟩) R.now.length cv2)).heap.size = w2.heap.size := (by simp [World.setCell]); have ol := own_lit0' (e := 4) (size := 1) (w2.setCell ⟨w.heap.size, 1, none⟩ (.slice (some ⟨g2, 0, none⟩) R.now.length cv2)) su2; clear tok1 _t))
      | (at_builtin; go_loud (refine wpList_appR _ rfl (.tmp 37) (.tmp 39) _ rfl w2.heap.size 4 b0 _ 1 1 Try.underlying31 hb hbz0 hbz1 hbz2 rfl (by omega) (.slice (some ⟨w2.heap.size, 0, none⟩) 0 0) 0 [] rfl ol ((w2.setCell ⟨w.heap.size, 1, none⟩ (.slice (some ⟨g2, 0, none⟩) R.now.length cv2)).alloc (.cells #[] 4)).heap.size A3 R.fresh.length c3 (bools R.fresh) rfl (by simp) hrF (bools_one _) (by have := HK.out.fresh; have := HK.out.n; omega) (by omega) (by simp) ?_; intro v3 w3 hown3 hg3 hat3; rw [Nat.zero_add, List.nil_append] at hown3; have hB3 := append0_below' su2 hg3; clear hg3 hat3; have s3 := hB3.size; rw [su2] at s3; obtain ⟨g3, cv3, rfl, hg31, hg32, hvc3, hvm3⟩ := own_form hown3 HI.out.2; have t0 := (hB3.block w.heap.size (by omega)).trans (heap_setCell_same w2 w.heap.size 1 _ _ (.slice (some ⟨g2, 0, none⟩) R.now.length cv2) p0); have t1 := (hB3.block (w.heap.size + 1) (by omega)).trans ((Below.heap_setCell w2 ⟨w.heap.size, 1, none⟩ (.slice (some ⟨g2, 0, none⟩) R.now.length cv2) (w.heap.size + 1) (by simp)).trans p1); have x2 := cell_of_row w3 (w.heap.size) 2 _ _ _ t0; have xf2 := frozen_of_row w3 (w.heap.size) 2 _ _ t0; have u0 := heap_setCell_same w3 w.heap.size 2 _ _ (.slice (some ⟨g3, 0, none⟩) R.fresh.length cv3) t0; have u1 := (Below.heap_setCell w3 ⟨w.heap.size, 2, none⟩ (.slice (some ⟨g3, 0, none⟩) R.fresh.length cv3) (w.heap.size + 1) (by simp)).trans t1; have y1 := cell_of_row (w3.setCell ⟨w.heap.size, 2, none⟩ (.slice (some ⟨g3, 0, none⟩) R.fresh.length cv3)) (w.heap.size) 1 _ _ _ u0; have o2 := own_keptBy (own_below (own_keptBy hown2 (grown_set w2 w.heap.size 1 (.slice (some ⟨g2, 0, none⟩) R.now.length cv2)) (by omega)) hB3 (by omega)) (grown_set w3 w.heap.size 2 (.slice (some ⟨g3, 0, none⟩) R.fresh.length cv3)) (by omega); have o3 := own_keptBy hown3 (grown_set w3 w.heap.size 2 (.slice (some ⟨g3, 0, none⟩) R.fresh.length cv3)) (by omega); have z2 := World.ownsRow.cellAt o2 i (by have := HI2.out; omega); have zf2 := World.ownsRow.frozenAt o2 i; rw [strs_get R.now i (by have := HI2.out; omega)] at z2; have o2' := (World.ownsRow.stored o2 i (.string ⟨l.toArray⟩)).1; have o3' := own_keptBy o3 (World.ownsRow.stored o2 i (.string ⟨l.toArray⟩)).2 (by omega); have u0' := (Below.heap_setCell (w3.setCell ⟨w.heap.size, 2, none⟩ (.slice (some ⟨g3, 0, none⟩) R.fresh.length cv3)) ⟨g2, i, none⟩ (.string ⟨l.toArray⟩) w.heap.size (by show w.heap.size ≠ g2; omega)).trans u0; have u1' := (Below.heap_setCell (w3.setCell ⟨w.heap.size, 2, none⟩ (.slice (some ⟨g3, 0, none⟩) R.fresh.length cv3)) ⟨g2, i, none⟩ (.string ⟨l.toArray⟩) (w.heap.size + 1) (by show w.heap.size + 1 ≠ g2; omega)).trans u1; have n2 := cell_of_row ((w3.setCell ⟨w.heap.size, 2, none⟩ (.slice (some ⟨g3, 0, none⟩) R.fresh.length cv3)).setCell ⟨g2, i, none⟩ (.string ⟨l.toArray⟩)) (w.heap.size) 2 _ _ _ u0'; have z3 := World.ownsRow.cellAt o3' i (by have := HI2.out; have := HK.out.fresh; omega); have zf3 := World.ownsRow.frozenAt o3' i; rw [bools_get R.fresh i (by have := HI2.out; have := HK.out.fresh; omega)] at z3; have o3'' := (World.ownsRow.stored o3' i (.bool true)).1; have o2'' := World.ownsRow.kept o2' (World.ownsRow.stored o3' i (.bool true)).2 (.inr (by simp [Value.ownBlock]; omega)); have u0'' := (Below.heap_setCell ((w3.setCell ⟨w.heap.size, 2, none⟩ (.slice (some ⟨g3, 0, none⟩) R.fresh.length cv3)).setCell ⟨g2, i, none⟩ (.string ⟨l.toArray⟩)) ⟨g3, i, none⟩ (.bool true) w.heap.size (by show w.heap.size ≠ g3; omega)).trans u0'; have u1'' := (Below.heap_setCell ((w3.setCell ⟨w.heap.size, 2, none⟩ (.slice (some ⟨g3, 0, none⟩) R.fresh.length cv3)).setCell ⟨g2, i, none⟩ (.string ⟨l.toArray⟩)) ⟨g3, i, none⟩ (.bool true) (w.heap.size + 1) (by show w.heap.size + 1 ≠ g3; omega)).trans u1'; have cc0 := cell_of_row (((w3.setCell ⟨w.heap.size, 2, none⟩ (.slice (some ⟨g3, 0, none⟩) R.fresh.length cv3)).setCell ⟨g2, i, none⟩ (.string ⟨l.toArray⟩)).setCell ⟨g3, i, none⟩ (.bool true)) (w.heap.size) 0 _ _ _ u0''; have cc1 := cell_of_row (((w3.setCell ⟨w.heap.size, 2, none⟩ (.slice (some ⟨g3, 0, none⟩) R.fresh.length cv3)).setCell ⟨g2, i, none⟩ (.string ⟨l.toArray⟩)).setCell ⟨g3, i, none⟩ (.bool true)) (w.heap.size) 1 _ _ _ u0''; have cc2 := cell_of_row (((w3.setCell ⟨w.heap.size, 2, none⟩ (.slice (some ⟨g3, 0, none⟩) R.fresh.length cv3)).setCell ⟨g2, i, none⟩ (.string ⟨l.toArray⟩)).setCell ⟨g3, i, none⟩ (.bool true)) (w.heap.size) 2 _ _ _ u0''; have cc3 := cell_of_row (((w3.setCell ⟨w.heap.size, 2, none⟩ (.slice (some ⟨g3, 0, none⟩) R.fresh.length cv3)).setCell ⟨g2, i, none⟩ (.string ⟨l.toArray⟩)).setCell ⟨g3, i, none⟩ (.bool true)) (w.heap.size) 3 _ _ _ u0''; have cc4 := cell_of_row (((w3.setCell ⟨w.heap.size, 2, none⟩ (.slice (some ⟨g3, 0, none⟩) R.fresh.length cv3)).setCell ⟨g2, i, none⟩ (.string ⟨l.toArray⟩)).setCell ⟨g3, i, none⟩ (.bool true)) (w.heap.size) 4 _ _ _ u0''; have cm0 := cell_of_row (((w3.setCell ⟨w.heap.size, 2, none⟩ (.slice (some ⟨g3, 0, none⟩) R.fresh.length cv3)).setCell ⟨g2, i, none⟩ (.string ⟨l.toArray⟩)).setCell ⟨g3, i, none⟩ (.bool true)) (w.heap.size + 1) 0 _ _ _ u1''; have cm1 := cell_of_row (((w3.setCell ⟨w.heap.size, 2, none⟩ (.slice (some ⟨g3, 0, none⟩) R.fresh.length cv3)).setCell ⟨g2, i, none⟩ (.string ⟨l.toArray⟩)).setCell ⟨g3, i, none⟩ (.bool true)) (w.heap.size + 1) 1 _ _ _ u1''; have cm2 := cell_of_row (((w3.setCell ⟨w.heap.size, 2, none⟩ (.slice (some ⟨g3, 0, none⟩) R.fresh.length cv3)).setCell ⟨g2, i, none⟩ (.string ⟨l.toArray⟩)).setCell ⟨g3, i, none⟩ (.bool true)) (w.heap.size + 1) 2 _ _ _ u1''; have cm3 := cell_of_row (((w3.setCell ⟨w.heap.size, 2, none⟩ (.slice (some ⟨g3, 0, none⟩) R.fresh.length cv3)).setCell ⟨g2, i, none⟩ (.string ⟨l.toArray⟩)).setCell ⟨g3, i, none⟩ (.bool true)) (w.heap.size + 1) 3 _ _ _ u1''; have cm4 := cell_of_row (((w3.setCell ⟨w.heap.size, 2, none⟩ (.slice (some ⟨g3, 0, none⟩) R.fresh.length cv3)).setCell ⟨g2, i, none⟩ (.string ⟨l.toArray⟩)).setCell ⟨g3, i, none⟩ (.bool true)) (w.heap.size + 1) 4 _ _ _ u1''; have cmf0 := frozen_of_row (((w3.setCell ⟨w.heap.size, 2, none⟩ (.slice (some ⟨g3, 0, none⟩) R.fresh.length cv3)).setCell ⟨g2, i, none⟩ (.string ⟨l.toArray⟩)).setCell ⟨g3, i, none⟩ (.bool true)) (w.heap.size + 1) 0 _ _ u1''; have cmf1 := frozen_of_row (((w3.setCell ⟨w.heap.size, 2, none⟩ (.slice (some ⟨g3, 0, none⟩) R.fresh.length cv3)).setCell ⟨g2, i, none⟩ (.string ⟨l.toArray⟩)).setCell ⟨g3, i, none⟩ (.bool true)) (w.heap.size + 1) 1 _ _ u1''; have cmf2 := frozen_of_row (((w3.setCell ⟨w.heap.size, 2, none⟩ (.slice (some ⟨g3, 0, none⟩) R.fresh.length cv3)).setCell ⟨g2, i, none⟩ (.string ⟨l.toArray⟩)).setCell ⟨g3, i, none⟩ (.bool true)) (w.heap.size + 1) 2 _ _ u1''; have cmf3 := frozen_of_row (((w3.setCell ⟨w.heap.size, 2, none⟩ (.slice (some ⟨g3, 0, none⟩) R.fresh.length cv3)).setCell ⟨g2, i, none⟩ (.string ⟨l.toArray⟩)).setCell ⟨g3, i, none⟩ (.bool true)) (w.heap.size + 1) 3 _ _ u1''; have cmf4 := frozen_of_row (((w3.setCell ⟨w.heap.size, 2, none⟩ (.slice (some ⟨g3, 0, none⟩) R.fresh.length cv3)).setCell ⟨g2, i, none⟩ (.string ⟨l.toArray⟩)).setCell ⟨g3, i, none⟩ (.bool true)) (w.heap.size + 1) 4 _ _ u1''))
      | go_in)
    have fF : Fr (((w3.setCell ⟨w.heap.size, 2, none⟩ (.slice (some ⟨g3, 0, none⟩) R.fresh.length cv3)).setCell ⟨g2, i, none⟩ (.string ⟨l.toArray⟩)).setCell ⟨g3, i, none⟩ (.bool true)) ((((((((w3.setCell ⟨w.heap.size, 2, none⟩ (.slice (some ⟨g3, 0, none⟩) R.fresh.length cv3)).setCell ⟨g2, i, none⟩ (.string ⟨l.toArray⟩)).setCell ⟨g3, i, none⟩ (.bool true)).setCell ⟨w.heap.size + 1, 0, none⟩ (.slice A1 R.sure.length c1)).setCell ⟨w.heap.size + 1, 1, none⟩ (.slice (some ⟨g2, 0, none⟩) R.now.length cv2)).setCell ⟨w.heap.size + 1, 2, none⟩ (.slice (some ⟨g3, 0, none⟩) R.fresh.length cv3)).setCell ⟨w.heap.size + 1, 3, none⟩ (.int .i64 (stepS R.steps R.left))).setCell ⟨w.heap.size + 1, 4, none⟩ (.int .i64 (stepL R.left))) [w.heap.size + 1] := (((((Fr.refl _ _).setCell (by simp) _).setCell (by simp) _).setCell (by simp) _).setCell (by simp) _).setCell (by simp) _
    have b5 : Below w.heap.size w (((w3.setCell ⟨w.heap.size, 2, none⟩ (.slice (some ⟨g3, 0, none⟩) R.fresh.length cv3)).setCell ⟨g2, i, none⟩ (.string ⟨l.toArray⟩)).setCell ⟨g3, i, none⟩ (.bool true)) := ((((HW1.out.1.trans (lower' hB2 (by omega))).setCell (by simp) _).trans (lower' hB3 (by omega))).setCell (by simp) _ |>.setCell (by show w.heap.size ≤ g2; omega) _).setCell (by show w.heap.size ≤ g3; omega) _
    have hBf : Below w.heap.size w ((((((((w3.setCell ⟨w.heap.size, 2, none⟩ (.slice (some ⟨g3, 0, none⟩) R.fresh.length cv3)).setCell ⟨g2, i, none⟩ (.string ⟨l.toArray⟩)).setCell ⟨g3, i, none⟩ (.bool true)).setCell ⟨w.heap.size + 1, 0, none⟩ (.slice A1 R.sure.length c1)).setCell ⟨w.heap.size + 1, 1, none⟩ (.slice (some ⟨g2, 0, none⟩) R.now.length cv2)).setCell ⟨w.heap.size + 1, 2, none⟩ (.slice (some ⟨g3, 0, none⟩) R.fresh.length cv3)).setCell ⟨w.heap.size + 1, 3, none⟩ (.int .i64 (stepS R.steps R.left))).setCell ⟨w.heap.size + 1, 4, none⟩ (.int .i64 (stepL R.left))) := b5.trans (fF.below (by have := b5.size; omega) (by simp))
    obtain ⟨Ax, cx, ex, _, _, sx⟩ := own_sl o2'' (X := (w.heap.size + 1) :: w.heap.size :: X) (ext_X HX.out (by omega))
    obtain ⟨Ay, cy, ey, _, _, sy⟩ := own_sl o3'' (X := (w.heap.size + 1) :: w.heap.size :: X) (ext_X HX.out (by omega))
    cases ex
    cases ey
    refine bodyPost_ret (resWrite (set5 u1'' _ _ _ _ _) _ rfl) rfl ⟨dv A1 (some ⟨g2, 0, none⟩) (some ⟨g3, 0, none⟩) R.sure.length R.now.length R.fresh.length c1 cv2 cv3 (stepS R.steps R.left) (stepL R.left), ?_, ?_, hBf⟩
    · rfl
    · refine ⟨A1, some ⟨g2, 0, none⟩, some ⟨g3, 0, none⟩, c1, cv2, cv3, by simp [dv], HH.out.1.below hBf, ?_, ?_⟩
      · rw [strs_set]; exact (sx.fr fF (by simp)).sub (fun y hy => by simp [hy])
      · rw [bools_set]; exact (sy.fr fF (by simp)).sub (fun y hy => by simp [hy])
theorem rwrite_any (w : World) (X : List Nat) (R : RD) (v : Value) (h : RefV w X R v) (hk : R.Ok) (hX : ∀ x ∈ X, x < w.heap.size) (i : Int) (l : List UInt8) :
    Calls Try.prog 19 #[v, .int .i64 i, .string ⟨l.toArray⟩] w fun e w' => ∃ v', e = .returned (.tuple #[v', .int .i64 (R.writeE i l)]) ∧ RefV w' X (R.writeM i l) v' ∧ Below w.heap.size w w' := by
  by_cases hb : R.writeBad i l
  · have e1 : R.writeE i l = 1 := if_pos hb
    have e2 : R.writeM i l = R := if_pos hb
    rw [e1, e2]
    exact rwrite_bad w X R v h i l hb
  · have hi : 0 ≤ i ∧ i < R.now.length := Classical.not_not.1 fun h => hb (.inl h)
    have hl : l.length = 64 := Classical.not_not.1 fun h => hb (.inr h)
    obtain ⟨k, rfl⟩ : ∃ k : Nat, i = k := ⟨i.toNat, by omega⟩
    have e1 : R.writeE (k : Int) l = if R.left = 0 then 30 else 0 := if_neg hb
    have e2 : R.writeM (k : Int) l = if R.left = 0 then R else ⟨R.sure, R.now.set k l, R.fresh.set k true, stepS R.steps R.left, stepL R.left⟩ := if_neg hb
    rw [e1, e2]
    exact rwrite_good w X R v h hk hX k l (by omega) hl
end Go.Proofs.Ytdjcpjfomgfjlaa
