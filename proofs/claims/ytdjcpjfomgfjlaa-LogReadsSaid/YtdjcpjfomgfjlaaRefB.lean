/- The document's disk: Write, Flush. -/
import Derived.Test.YtdjcpjfomgfjlaaJnA
import Derived.Test.YtdjcpjfomgfjlaaJnC
import Derived.Laws.OwnMore
namespace Go.Proofs.Ytdjcpjfomgfjlaa
open Go.RowKit Go.Maps

theorem strs_one (L : List (List UInt8)) : ∀ u ∈ strs L, u.oneCell' = true := by
  intro u hu
  obtain ⟨b, _, rfl⟩ := List.mem_map.1 hu
  rfl
theorem bools_one (L : List Bool) : ∀ u ∈ bools L, u.oneCell' = true := by
  intro u hu
  obtain ⟨b, _, rfl⟩ := List.mem_map.1 hu
  rfl
theorem below_put (w w1 : World) (h : Below w.heap.size w w1) (v0 v1 v2 v3 v4 : Value) : Below w.heap.size w (((((w1.setCell ⟨w.heap.size, 0, none⟩ v0).setCell ⟨w.heap.size, 1, none⟩ v1).setCell ⟨w.heap.size, 2, none⟩ v2).setCell ⟨w.heap.size, 3, none⟩ v3).setCell ⟨w.heap.size, 4, none⟩ v4) := ((((h.setCell (by simp) v0).setCell (by simp) v1).setCell (by simp) v2).setCell (by simp) v3).setCell (by simp) v4
theorem below_put1 (w w1 : World) (h : Below w.heap.size w w1) (v0 v1 v2 v3 v4 : Value) : Below w.heap.size w (((((w1.setCell ⟨w.heap.size + 1, 0, none⟩ v0).setCell ⟨w.heap.size + 1, 1, none⟩ v1).setCell ⟨w.heap.size + 1, 2, none⟩ v2).setCell ⟨w.heap.size + 1, 3, none⟩ v3).setCell ⟨w.heap.size + 1, 4, none⟩ v4) := ((((h.setCell (by simp) v0).setCell (by simp) v1).setCell (by simp) v2).setCell (by simp) v3).setCell (by simp) v4
theorem other_put (w1 : World) (b b' : Nat) (hb : b' ≠ b) (v0 v1 v2 v3 v4 : Value) : (((((w1.setCell ⟨b, 0, none⟩ v0).setCell ⟨b, 1, none⟩ v1).setCell ⟨b, 2, none⟩ v2).setCell ⟨b, 3, none⟩ v3).setCell ⟨b, 4, none⟩ v4).heap[b']? = w1.heap[b']? := by
  simp [Below.heap_setCell, hb]
theorem resFlush {w : World} {b : Nat} {v0 v1 v2 v3 v4 : Value} (h : w.heap[b]? = some (.cells #[v0, v1, v2, v3, v4] 33 (0, 0))) (tmps : Array Value) (h2 : tmps.getD 2 undef = .pointer (some ⟨b, 0, none⟩)) :
    (results Try.f48 tmps).run Try.prog w = .ok ((.tuple #[.agg #[v0, v1, v2, v3, v4], tmps.getD 3 undef])) w := by
  have e0 : w.cell? ⟨b, 0, none⟩ = some v0 := cell_of_row w b 0 _ _ _ h
  have e1 : w.cell? ⟨b, 1, none⟩ = some v1 := cell_of_row w b 1 _ _ _ h
  have e2 : w.cell? ⟨b, 2, none⟩ = some v2 := cell_of_row w b 2 _ _ _ h
  have e3 : w.cell? ⟨b, 3, none⟩ = some v3 := cell_of_row w b 3 _ _ _ h
  have e4 : w.cell? ⟨b, 4, none⟩ = some v4 := cell_of_row w b 4 _ _ _ h
  have h2' := h2
  simp only [Array.getD_eq_getD_getElem?] at h2'
  simp [results, Try.results48, go_sem, h2', e0, e1, e2, e3, e4]
theorem resWrite {w : World} {b : Nat} {v0 v1 v2 v3 v4 : Value} (h : w.heap[b]? = some (.cells #[v0, v1, v2, v3, v4] 33 (0, 0))) (tmps : Array Value) (h2 : tmps.getD 6 undef = .pointer (some ⟨b, 0, none⟩)) :
    (results Try.f19 tmps).run Try.prog w = .ok ((.tuple #[.agg #[v0, v1, v2, v3, v4], tmps.getD 7 undef])) w := by
  have e0 : w.cell? ⟨b, 0, none⟩ = some v0 := cell_of_row w b 0 _ _ _ h
  have e1 : w.cell? ⟨b, 1, none⟩ = some v1 := cell_of_row w b 1 _ _ _ h
  have e2 : w.cell? ⟨b, 2, none⟩ = some v2 := cell_of_row w b 2 _ _ _ h
  have e3 : w.cell? ⟨b, 3, none⟩ = some v3 := cell_of_row w b 3 _ _ _ h
  have e4 : w.cell? ⟨b, 4, none⟩ = some v4 := cell_of_row w b 4 _ _ _ h
  have h2' := h2
  simp only [Array.getD_eq_getD_getElem?] at h2'
  simp [results, Try.results19, go_sem, h2', e0, e1, e2, e3, e4]
theorem ext_X {X : List Nat} {n m : Nat} (hX : ∀ x ∈ X, x < n) (h : n + 1 < m) : ∀ x ∈ (n + 1) :: n :: X, x < m := by
  intro x hx
  rcases List.mem_cons.1 hx with rfl | hx
  · exact h
  · rcases List.mem_cons.1 hx with rfl | hx
    · omega
    · have := hX x hx; omega
theorem new_sl (w : World) (xs : List Value) (e : TypeId) {X : List Nat} (hX : ∀ x ∈ X, x < w.heap.size) : Sl (w.alloc (.cells xs.toArray e)) X (some ⟨w.heap.size, 0, none⟩) xs := by
  refine ⟨?_, fun a ha => by cases ha; exact fun hx => Nat.lt_irrefl _ (hX _ hx)⟩
  have := Rd.new w xs.toArray e (0, 0)
  rw [alloc1_size]
  exact this
def RD.flushE (R : RD) : Int := if R.left = 0 then 30 else 0
def RD.flushM (R : RD) : RD := if R.left = 0 then R else ⟨R.now, R.now, List.replicate R.now.length false, stepS R.steps R.left, stepL R.left⟩
theorem makeBools (n : Nat) (hn : n ≤ 4096) (w : World) : (Instr.makeSlice 31 (.int .i64 (n : Int)) (.int .i64 (n : Int))).run Try.prog w = .ok (.slice (some ⟨w.heap.size, 0, none⟩) n n) (w.alloc (.cells (bools (List.replicate n false)).toArray 4)) := by
  have h := run_make_row' (P := Try.prog) 31 4 (.bool false) 1 Try.underlying31 infoBool rfl .i64 .i64 n (by omega) (by omega) w
  have e : madeCells #[Value.bool false] n = (bools (List.replicate n false)).toArray := by
    apply Array.toList_inj.1
    rw [toList_madeCells_one]
    simp [bools]
  rw [e] at h
  exact h
theorem Sl.sub {w : World} {X Y : List Nat} {A : Option Addr} {xs : List Value} (h : Sl w X A xs) (hY : ∀ y ∈ Y, y ∈ X) : Sl w Y A xs := ⟨h.1, fun a ha hy => h.2 a ha (hY _ hy)⟩
set_option maxRecDepth 100000 in
set_option maxHeartbeats 1000000 in
theorem rflush_any (w : World) (X : List Nat) (R : RD) (v : Value) (h : RefV w X R v) (hk : R.Ok) (hX : ∀ x ∈ X, x < w.heap.size) :
    Calls Try.prog 48 #[v] w fun e w' => ∃ v', e = .returned (.tuple #[v', .int .i64 R.flushE]) ∧ RefV w' X R.flushM v' ∧ Below w.heap.size w w' := by
  have hh := h
  obtain ⟨A1, A2, A3, c1, c2, c3, rfl, h1, h2, h3⟩ := h
  have HST := Lib.hid (fun (W : World) => rstep_any W A1 A2 A3 R.sure.length R.now.length R.fresh.length c1 c2 c3 R.steps R.left hk.left hk.steps)
  unfold dv at HST
  have hb2 : Below w.heap.size w ((w.alloc (.cells #[.slice A1 R.sure.length c1, .slice A2 R.now.length c2, .slice A3 R.fresh.length c3, .int .i64 R.steps, .int .i64 R.left] 33)).alloc (.cells #[.slice none 0 0, .slice none 0 0, .slice none 0 0, .int .i64 0, .int .i64 0] 33)) := below2 _ _ _
  have hs2 : ((w.alloc (.cells #[.slice A1 R.sure.length c1, .slice A2 R.now.length c2, .slice A3 R.fresh.length c3, .int .i64 R.steps, .int .i64 R.left] 33)).alloc (.cells #[.slice none 0 0, .slice none 0 0, .slice none 0 0, .int .i64 0, .int .i64 0] 33)).heap.size = w.heap.size + 2 := by simp
  obtain ⟨g0, g1⟩ := two_new w (.cells #[.slice A1 R.sure.length c1, .slice A2 R.now.length c2, .slice A3 R.fresh.length c3, .int .i64 R.steps, .int .i64 R.left] 33) (.cells #[.slice none 0 0, .slice none 0 0, .slice none 0 0, .int .i64 0, .int .i64 0] 33)
  have HW2 := Lib.hid (And.intro hb2 (And.intro hs2 (And.intro g0 g1)))
  clear hb2 hs2 g0 g1
  by_cases h0 : R.left = 0
  · rw [decide_eq_true h0] at HST
    have H0 := Lib.hid h0
    clear h0
    go_enter Try.func48, Try.ntmps48
    go_upto_region 2 with (first
      | (go_at_call 54; (with_reducible refine (HST.out _).mono ?_); rintro e w1 ⟨rfl, hb1⟩; rw [HW2.out.2.1] at hb1; have d0 := (hb1.block w.heap.size (by omega)).trans HW2.out.2.2.1; have d1 := (hb1.block (w.heap.size + 1) (by omega)).trans HW2.out.2.2.2; have e0 := cell_of_row w1 (w.heap.size) 0 _ _ _ d0; have e1 := cell_of_row w1 (w.heap.size) 1 _ _ _ d0; have e2 := cell_of_row w1 (w.heap.size) 2 _ _ _ d0; have e3 := cell_of_row w1 (w.heap.size) 3 _ _ _ d0; have e4 := cell_of_row w1 (w.heap.size) 4 _ _ _ d0; have ef0 := frozen_of_row w1 (w.heap.size) 0 _ _ d0; have ef1 := frozen_of_row w1 (w.heap.size) 1 _ _ d0; have ef2 := frozen_of_row w1 (w.heap.size) 2 _ _ d0; have ef3 := frozen_of_row w1 (w.heap.size) 3 _ _ d0; have ef4 := frozen_of_row w1 (w.heap.size) 4 _ _ d0)
      | go_in)
    have hW1 : Below w.heap.size w (((((w1.setCell ⟨w.heap.size, 0, none⟩ (.slice A1 R.sure.length c1)).setCell ⟨w.heap.size, 1, none⟩ (.slice A2 R.now.length c2)).setCell ⟨w.heap.size, 2, none⟩ (.slice A3 R.fresh.length c3)).setCell ⟨w.heap.size, 3, none⟩ (.int .i64 (stepS R.steps R.left))).setCell ⟨w.heap.size, 4, none⟩ (.int .i64 (stepL R.left))) := below_put w w1 (HW2.out.1.trans (lower' hb1 (by omega))) _ _ _ _ _
    have hs1 : w.heap.size + 1 < (((((w1.setCell ⟨w.heap.size, 0, none⟩ (.slice A1 R.sure.length c1)).setCell ⟨w.heap.size, 1, none⟩ (.slice A2 R.now.length c2)).setCell ⟨w.heap.size, 2, none⟩ (.slice A3 R.fresh.length c3)).setCell ⟨w.heap.size, 3, none⟩ (.int .i64 (stepS R.steps R.left))).setCell ⟨w.heap.size, 4, none⟩ (.int .i64 (stepL R.left))).heap.size := by have := hb1.size; have := HW2.out.2.1; simp [World.setCell]; omega
    have q0 := set5 d0 (.slice A1 R.sure.length c1) (.slice A2 R.now.length c2) (.slice A3 R.fresh.length c3) (.int .i64 (stepS R.steps R.left)) (.int .i64 (stepL R.left))
    have q1 := (other_put w1 w.heap.size (w.heap.size + 1) (by omega) (.slice A1 R.sure.length c1) (.slice A2 R.now.length c2) (.slice A3 R.fresh.length c3) (.int .i64 (stepS R.steps R.left)) (.int .i64 (stepL R.left))).trans d1
    clear d0 d1 hb1 e0 ef0 e1 ef1 e2 ef2 e3 ef3 e4 ef4
    generalize (((((w1.setCell ⟨w.heap.size, 0, none⟩ (.slice A1 R.sure.length c1)).setCell ⟨w.heap.size, 1, none⟩ (.slice A2 R.now.length c2)).setCell ⟨w.heap.size, 2, none⟩ (.slice A3 R.fresh.length c3)).setCell ⟨w.heap.size, 3, none⟩ (.int .i64 (stepS R.steps R.left))).setCell ⟨w.heap.size, 4, none⟩ (.int .i64 (stepL R.left))) = W1 at hW1 hs1 q0 q1 ⊢
    have e0 := cell_of_row W1 (w.heap.size) 0 _ _ _ q0
    have e1 := cell_of_row W1 (w.heap.size) 1 _ _ _ q0
    have e2 := cell_of_row W1 (w.heap.size) 2 _ _ _ q0
    have e3 := cell_of_row W1 (w.heap.size) 3 _ _ _ q0
    have e4 := cell_of_row W1 (w.heap.size) 4 _ _ _ q0
    have ef0 := frozen_of_row W1 (w.heap.size) 0 _ _ q0
    have ef1 := frozen_of_row W1 (w.heap.size) 1 _ _ q0
    have ef2 := frozen_of_row W1 (w.heap.size) 2 _ _ q0
    have ef3 := frozen_of_row W1 (w.heap.size) 3 _ _ q0
    have ef4 := frozen_of_row W1 (w.heap.size) 4 _ _ q0
    have m0 := cell_of_row W1 (w.heap.size + 1) 0 _ _ _ q1
    have m1 := cell_of_row W1 (w.heap.size + 1) 1 _ _ _ q1
    have m2 := cell_of_row W1 (w.heap.size + 1) 2 _ _ _ q1
    have m3 := cell_of_row W1 (w.heap.size + 1) 3 _ _ _ q1
    have m4 := cell_of_row W1 (w.heap.size + 1) 4 _ _ _ q1
    have mf0 := frozen_of_row W1 (w.heap.size + 1) 0 _ _ q1
    have mf1 := frozen_of_row W1 (w.heap.size + 1) 1 _ _ q1
    have mf2 := frozen_of_row W1 (w.heap.size + 1) 2 _ _ q1
    have mf3 := frozen_of_row W1 (w.heap.size + 1) 3 _ _ q1
    have mf4 := frozen_of_row W1 (w.heap.size + 1) 4 _ _ q1
    clear h1 h2 h3
    go_wp2_with go_in
    refine bodyPost_ret (resFlush (set5 q1 _ _ _ _ _) _ rfl) rfl ⟨dv A1 A2 A3 R.sure.length R.now.length R.fresh.length c1 c2 c3 (stepS R.steps R.left) (stepL R.left), ?_, ?_, ?_⟩
    · rw [show R.flushE = 30 from if_pos H0.out]; rfl
    · rw [show R.flushM = R from if_pos H0.out, show stepS R.steps R.left = R.steps from if_pos H0.out, show stepL R.left = R.left from (if_pos H0.out).trans H0.out.symm]
      exact hh.below (below_put1 w W1 hW1 _ _ _ _ _)
    · exact below_put1 w W1 hW1 _ _ _ _ _
  · go_enter Try.func48, Try.ntmps48
    go_upto_region 2 with (first
      | (go_at_call 54; (with_reducible refine (HST.out _).mono ?_); rintro e w1 ⟨rfl, hb1⟩; rw [HW2.out.2.1] at hb1; have d0 := (hb1.block w.heap.size (by omega)).trans HW2.out.2.2.1; have d1 := (hb1.block (w.heap.size + 1) (by omega)).trans HW2.out.2.2.2; have e0 := cell_of_row w1 (w.heap.size) 0 _ _ _ d0; have e1 := cell_of_row w1 (w.heap.size) 1 _ _ _ d0; have e2 := cell_of_row w1 (w.heap.size) 2 _ _ _ d0; have e3 := cell_of_row w1 (w.heap.size) 3 _ _ _ d0; have e4 := cell_of_row w1 (w.heap.size) 4 _ _ _ d0; have ef0 := frozen_of_row w1 (w.heap.size) 0 _ _ d0; have ef1 := frozen_of_row w1 (w.heap.size) 1 _ _ d0; have ef2 := frozen_of_row w1 (w.heap.size) 2 _ _ d0; have ef3 := frozen_of_row w1 (w.heap.size) 3 _ _ d0; have ef4 := frozen_of_row w1 (w.heap.size) 4 _ _ d0)
      | go_in)
    have hW1 : Below w.heap.size w (((((w1.setCell ⟨w.heap.size, 0, none⟩ (.slice A1 R.sure.length c1)).setCell ⟨w.heap.size, 1, none⟩ (.slice A2 R.now.length c2)).setCell ⟨w.heap.size, 2, none⟩ (.slice A3 R.fresh.length c3)).setCell ⟨w.heap.size, 3, none⟩ (.int .i64 (stepS R.steps R.left))).setCell ⟨w.heap.size, 4, none⟩ (.int .i64 (stepL R.left))) := below_put w w1 (HW2.out.1.trans (lower' hb1 (by omega))) _ _ _ _ _
    have hs1 : w.heap.size + 1 < (((((w1.setCell ⟨w.heap.size, 0, none⟩ (.slice A1 R.sure.length c1)).setCell ⟨w.heap.size, 1, none⟩ (.slice A2 R.now.length c2)).setCell ⟨w.heap.size, 2, none⟩ (.slice A3 R.fresh.length c3)).setCell ⟨w.heap.size, 3, none⟩ (.int .i64 (stepS R.steps R.left))).setCell ⟨w.heap.size, 4, none⟩ (.int .i64 (stepL R.left))).heap.size := by have := hb1.size; have := HW2.out.2.1; simp [World.setCell]; omega
    have q0 := set5 d0 (.slice A1 R.sure.length c1) (.slice A2 R.now.length c2) (.slice A3 R.fresh.length c3) (.int .i64 (stepS R.steps R.left)) (.int .i64 (stepL R.left))
    have q1 := (other_put w1 w.heap.size (w.heap.size + 1) (by omega) (.slice A1 R.sure.length c1) (.slice A2 R.now.length c2) (.slice A3 R.fresh.length c3) (.int .i64 (stepS R.steps R.left)) (.int .i64 (stepL R.left))).trans d1
    clear d0 d1 hb1 e0 ef0 e1 ef1 e2 ef2 e3 ef3 e4 ef4
    generalize (((((w1.setCell ⟨w.heap.size, 0, none⟩ (.slice A1 R.sure.length c1)).setCell ⟨w.heap.size, 1, none⟩ (.slice A2 R.now.length c2)).setCell ⟨w.heap.size, 2, none⟩ (.slice A3 R.fresh.length c3)).setCell ⟨w.heap.size, 3, none⟩ (.int .i64 (stepS R.steps R.left))).setCell ⟨w.heap.size, 4, none⟩ (.int .i64 (stepL R.left))) = W1 at hW1 hs1 q0 q1 ⊢
    have e0 := cell_of_row W1 (w.heap.size) 0 _ _ _ q0
    have e1 := cell_of_row W1 (w.heap.size) 1 _ _ _ q0
    have e2 := cell_of_row W1 (w.heap.size) 2 _ _ _ q0
    have e3 := cell_of_row W1 (w.heap.size) 3 _ _ _ q0
    have e4 := cell_of_row W1 (w.heap.size) 4 _ _ _ q0
    have ef0 := frozen_of_row W1 (w.heap.size) 0 _ _ q0
    have ef1 := frozen_of_row W1 (w.heap.size) 1 _ _ q0
    have ef2 := frozen_of_row W1 (w.heap.size) 2 _ _ q0
    have ef3 := frozen_of_row W1 (w.heap.size) 3 _ _ q0
    have ef4 := frozen_of_row W1 (w.heap.size) 4 _ _ q0
    have m0 := cell_of_row W1 (w.heap.size + 1) 0 _ _ _ q1
    have m1 := cell_of_row W1 (w.heap.size + 1) 1 _ _ _ q1
    have m2 := cell_of_row W1 (w.heap.size + 1) 2 _ _ _ q1
    have m3 := cell_of_row W1 (w.heap.size + 1) 3 _ _ _ q1
    have m4 := cell_of_row W1 (w.heap.size + 1) 4 _ _ _ q1
    have mf0 := frozen_of_row W1 (w.heap.size + 1) 0 _ _ q1
    have mf1 := frozen_of_row W1 (w.heap.size + 1) 1 _ _ q1
    have mf2 := frozen_of_row W1 (w.heap.size + 1) 2 _ _ q1
    have mf3 := frozen_of_row W1 (w.heap.size + 1) 3 _ _ q1
    have mf4 := frozen_of_row W1 (w.heap.size + 1) 4 _ _ q1
    have hS2 := h2.below hW1
    obtain ⟨i0, hi, hz0, hz1, hz2⟩ := info_parts infoStr
    have hn := hk.n
    have HX := Lib.hid hX
    have HW1 := Lib.hid (And.intro hW1 (And.intro hs1 (And.intro q0 (And.intro q1 hS2))))
    have HH := Lib.hid (And.intro h2 hk)
    clear hW1 q0 q1 hS2 h1 h2 h3 hh hX
    have qa := (Below.heap_alloc W1 (.cells #[] 9) w.heap.size (by omega)).trans HW1.out.2.2.1
    have a0 := cell_of_row (W1.alloc (.cells #[] 9)) (w.heap.size) 0 _ _ _ qa
    have a1 := cell_of_row (W1.alloc (.cells #[] 9)) (w.heap.size) 1 _ _ _ qa
    have a2 := cell_of_row (W1.alloc (.cells #[] 9)) (w.heap.size) 2 _ _ _ qa
    have a3 := cell_of_row (W1.alloc (.cells #[] 9)) (w.heap.size) 3 _ _ _ qa
    have a4 := cell_of_row (W1.alloc (.cells #[] 9)) (w.heap.size) 4 _ _ _ qa
    have af0 := frozen_of_row (W1.alloc (.cells #[] 9)) (w.heap.size) 0 _ _ qa
    have af1 := frozen_of_row (W1.alloc (.cells #[] 9)) (w.heap.size) 1 _ _ qa
    have af2 := frozen_of_row (W1.alloc (.cells #[] 9)) (w.heap.size) 2 _ _ qa
    have af3 := frozen_of_row (W1.alloc (.cells #[] 9)) (w.heap.size) 3 _ _ qa
    have af4 := frozen_of_row (W1.alloc (.cells #[] 9)) (w.heap.size) 4 _ _ qa
    clear qa
    go_wp2_with (first
      | (at_builtin; refine wpList_appR _ rfl (.tmp 13) (.tmp 15) _ rfl W1.heap.size 9 i0 _ 1 16 Try.underlying30 hi hz0 hz1 hz2 rfl (by omega) (.slice (some ⟨W1.heap.size, 0, none⟩) 0 0) 0 [] rfl (own_lit0 W1 (Nat.le_refl _)) (W1.heap.size + 1) A2 R.now.length c2 (strs R.now) rfl (by simp) ((HW1.out.2.2.2.2.below ((Below.refl _ _).alloc (Nat.le_refl _) _)).1.more (by simp)) (strs_one _) (by omega) (by omega) (by simp) ?_; intro v2 w2 hown2 hg2 hat2; rw [Nat.zero_add, List.nil_append] at hown2; have hB2 := append0_below hg2; clear hg2 hat2; have s2 := hB2.size; obtain ⟨Av, cv, rfl, hvc, hvm, sv⟩ := own_sl hown2 (ext_X HX.out hs1); have p0 := (hB2.block w.heap.size (by omega)).trans HW1.out.2.2.1; have p1 := (hB2.block (w.heap.size + 1) (by omega)).trans HW1.out.2.2.2.1; have k0 := cell_of_row w2 (w.heap.size) 0 _ _ _ p0; have k1 := cell_of_row w2 (w.heap.size) 1 _ _ _ p0; have k2 := cell_of_row w2 (w.heap.size) 2 _ _ _ p0; have k3 := cell_of_row w2 (w.heap.size) 3 _ _ _ p0; have k4 := cell_of_row w2 (w.heap.size) 4 _ _ _ p0; have kf0 := frozen_of_row w2 (w.heap.size) 0 _ _ p0; have kf1 := frozen_of_row w2 (w.heap.size) 1 _ _ p0; have kf2 := frozen_of_row w2 (w.heap.size) 2 _ _ p0; have kf3 := frozen_of_row w2 (w.heap.size) 3 _ _ p0; have kf4 := frozen_of_row w2 (w.heap.size) 4 _ _ p0; have km0 := cell_of_row w2 (w.heap.size + 1) 0 _ _ _ p1; have km1 := cell_of_row w2 (w.heap.size + 1) 1 _ _ _ p1; have km2 := cell_of_row w2 (w.heap.size + 1) 2 _ _ _ p1; have km3 := cell_of_row w2 (w.heap.size + 1) 3 _ _ _ p1; have km4 := cell_of_row w2 (w.heap.size + 1) 4 _ _ _ p1; have kmf0 := frozen_of_row w2 (w.heap.size + 1) 0 _ _ p1; have kmf1 := frozen_of_row w2 (w.heap.size + 1) 1 _ _ p1; have kmf2 := frozen_of_row w2 (w.heap.size + 1) 2 _ _ p1; have kmf3 := frozen_of_row w2 (w.heap.size + 1) 3 _ _ p1; have kmf4 := frozen_of_row w2 (w.heap.size + 1) 4 _ _ p1; have hmk := makeBools R.now.length hn (w2.setCell ⟨w.heap.size, 0, none⟩ (.slice Av R.now.length cv)); have r0 := (Below.heap_alloc (w2.setCell ⟨w.heap.size, 0, none⟩ (.slice Av R.now.length cv)) (.cells (bools (List.replicate R.now.length false)).toArray 4) w.heap.size (by simp [World.setCell]; omega)).trans (heap_setCell_same w2 w.heap.size 0 _ _ (.slice Av R.now.length cv) p0); have r1 := (Below.heap_alloc (w2.setCell ⟨w.heap.size, 0, none⟩ (.slice Av R.now.length cv)) (.cells (bools (List.replicate R.now.length false)).toArray 4) (w.heap.size + 1) (by simp [World.setCell]; omega)).trans ((Below.heap_setCell w2 ⟨w.heap.size, 0, none⟩ (.slice Av R.now.length cv) (w.heap.size + 1) (by simp)).trans p1); have j0 := cell_of_row ((w2.setCell ⟨w.heap.size, 0, none⟩ (.slice Av R.now.length cv)).alloc (.cells (bools (List.replicate R.now.length false)).toArray 4)) (w.heap.size) 0 _ _ _ r0; have j1 := cell_of_row ((w2.setCell ⟨w.heap.size, 0, none⟩ (.slice Av R.now.length cv)).alloc (.cells (bools (List.replicate R.now.length false)).toArray 4)) (w.heap.size) 1 _ _ _ r0; have j2 := cell_of_row ((w2.setCell ⟨w.heap.size, 0, none⟩ (.slice Av R.now.length cv)).alloc (.cells (bools (List.replicate R.now.length false)).toArray 4)) (w.heap.size) 2 _ _ _ r0; have j3 := cell_of_row ((w2.setCell ⟨w.heap.size, 0, none⟩ (.slice Av R.now.length cv)).alloc (.cells (bools (List.replicate R.now.length false)).toArray 4)) (w.heap.size) 3 _ _ _ r0; have j4 := cell_of_row ((w2.setCell ⟨w.heap.size, 0, none⟩ (.slice Av R.now.length cv)).alloc (.cells (bools (List.replicate R.now.length false)).toArray 4)) (w.heap.size) 4 _ _ _ r0; have jf0 := frozen_of_row ((w2.setCell ⟨w.heap.size, 0, none⟩ (.slice Av R.now.length cv)).alloc (.cells (bools (List.replicate R.now.length false)).toArray 4)) (w.heap.size) 0 _ _ r0; have jf1 := frozen_of_row ((w2.setCell ⟨w.heap.size, 0, none⟩ (.slice Av R.now.length cv)).alloc (.cells (bools (List.replicate R.now.length false)).toArray 4)) (w.heap.size) 1 _ _ r0; have jf2 := frozen_of_row ((w2.setCell ⟨w.heap.size, 0, none⟩ (.slice Av R.now.length cv)).alloc (.cells (bools (List.replicate R.now.length false)).toArray 4)) (w.heap.size) 2 _ _ r0; have jf3 := frozen_of_row ((w2.setCell ⟨w.heap.size, 0, none⟩ (.slice Av R.now.length cv)).alloc (.cells (bools (List.replicate R.now.length false)).toArray 4)) (w.heap.size) 3 _ _ r0; have jf4 := frozen_of_row ((w2.setCell ⟨w.heap.size, 0, none⟩ (.slice Av R.now.length cv)).alloc (.cells (bools (List.replicate R.now.length false)).toArray 4)) (w.heap.size) 4 _ _ r0; have jm0 := cell_of_row ((w2.setCell ⟨w.heap.size, 0, none⟩ (.slice Av R.now.length cv)).alloc (.cells (bools (List.replicate R.now.length false)).toArray 4)) (w.heap.size + 1) 0 _ _ _ r1; have jm1 := cell_of_row ((w2.setCell ⟨w.heap.size, 0, none⟩ (.slice Av R.now.length cv)).alloc (.cells (bools (List.replicate R.now.length false)).toArray 4)) (w.heap.size + 1) 1 _ _ _ r1; have jm2 := cell_of_row ((w2.setCell ⟨w.heap.size, 0, none⟩ (.slice Av R.now.length cv)).alloc (.cells (bools (List.replicate R.now.length false)).toArray 4)) (w.heap.size + 1) 2 _ _ _ r1; have jm3 := cell_of_row ((w2.setCell ⟨w.heap.size, 0, none⟩ (.slice Av R.now.length cv)).alloc (.cells (bools (List.replicate R.now.length false)).toArray 4)) (w.heap.size + 1) 3 _ _ _ r1; have jm4 := cell_of_row ((w2.setCell ⟨w.heap.size, 0, none⟩ (.slice Av R.now.length cv)).alloc (.cells (bools (List.replicate R.now.length false)).toArray 4)) (w.heap.size + 1) 4 _ _ _ r1; have jmf0 := frozen_of_row ((w2.setCell ⟨w.heap.size, 0, none⟩ (.slice Av R.now.length cv)).alloc (.cells (bools (List.replicate R.now.length false)).toArray 4)) (w.heap.size + 1) 0 _ _ r1; have jmf1 := frozen_of_row ((w2.setCell ⟨w.heap.size, 0, none⟩ (.slice Av R.now.length cv)).alloc (.cells (bools (List.replicate R.now.length false)).toArray 4)) (w.heap.size + 1) 1 _ _ r1; have jmf2 := frozen_of_row ((w2.setCell ⟨w.heap.size, 0, none⟩ (.slice Av R.now.length cv)).alloc (.cells (bools (List.replicate R.now.length false)).toArray 4)) (w.heap.size + 1) 2 _ _ r1; have jmf3 := frozen_of_row ((w2.setCell ⟨w.heap.size, 0, none⟩ (.slice Av R.now.length cv)).alloc (.cells (bools (List.replicate R.now.length false)).toArray 4)) (w.heap.size + 1) 3 _ _ r1; have jmf4 := frozen_of_row ((w2.setCell ⟨w.heap.size, 0, none⟩ (.slice Av R.now.length cv)).alloc (.cells (bools (List.replicate R.now.length false)).toArray 4)) (w.heap.size + 1) 4 _ _ r1)
      | go_in)
    have e1 : (w2.setCell ⟨w.heap.size, 0, none⟩ (.slice Av R.now.length cv)).heap.size = w2.heap.size := by simp [World.setCell]
    have sF := new_sl (w2.setCell ⟨w.heap.size, 0, none⟩ (.slice Av R.now.length cv)) (bools (List.replicate R.now.length false)) 4 (X := (w.heap.size + 1) :: w.heap.size :: X) (by rw [e1]; exact ext_X HX.out (by omega))
    rw [e1] at sF
    have f3 : Fr w2 ((w2.setCell ⟨w.heap.size, 0, none⟩ (.slice Av R.now.length cv)).alloc (.cells (bools (List.replicate R.now.length false)).toArray 4)) [w.heap.size + 1, w.heap.size] := ((Fr.refl _ _).setCell (by simp) _).alloc _
    have f4 : Fr ((w2.setCell ⟨w.heap.size, 0, none⟩ (.slice Av R.now.length cv)).alloc (.cells (bools (List.replicate R.now.length false)).toArray 4)) ((((((((w2.setCell ⟨w.heap.size, 0, none⟩ (.slice Av R.now.length cv)).alloc (.cells (bools (List.replicate R.now.length false)).toArray 4)).setCell ⟨w.heap.size, 2, none⟩ (.slice (some ⟨w2.heap.size, 0, none⟩) R.now.length R.now.length)).setCell ⟨w.heap.size + 1, 0, none⟩ (.slice Av R.now.length cv)).setCell ⟨w.heap.size + 1, 1, none⟩ (.slice A2 R.now.length c2)).setCell ⟨w.heap.size + 1, 2, none⟩ (.slice (some ⟨w2.heap.size, 0, none⟩) R.now.length R.now.length)).setCell ⟨w.heap.size + 1, 3, none⟩ (.int .i64 (stepS R.steps R.left))).setCell ⟨w.heap.size + 1, 4, none⟩ (.int .i64 (stepL R.left))) [w.heap.size + 1, w.heap.size] := ((((((Fr.refl _ _).setCell (by simp) _).setCell (by simp) _).setCell (by simp) _).setCell (by simp) _).setCell (by simp) _).setCell (by simp) _
    have hBf : Below w.heap.size w ((((((((w2.setCell ⟨w.heap.size, 0, none⟩ (.slice Av R.now.length cv)).alloc (.cells (bools (List.replicate R.now.length false)).toArray 4)).setCell ⟨w.heap.size, 2, none⟩ (.slice (some ⟨w2.heap.size, 0, none⟩) R.now.length R.now.length)).setCell ⟨w.heap.size + 1, 0, none⟩ (.slice Av R.now.length cv)).setCell ⟨w.heap.size + 1, 1, none⟩ (.slice A2 R.now.length c2)).setCell ⟨w.heap.size + 1, 2, none⟩ (.slice (some ⟨w2.heap.size, 0, none⟩) R.now.length R.now.length)).setCell ⟨w.heap.size + 1, 3, none⟩ (.int .i64 (stepS R.steps R.left))).setCell ⟨w.heap.size + 1, 4, none⟩ (.int .i64 (stepL R.left))) := HW1.out.1.trans ((lower' hB2 (by omega)).trans ((f3.trans f4).below (by omega) (by simp)))
    have r2 := (Below.heap_setCell ((w2.setCell ⟨w.heap.size, 0, none⟩ (.slice Av R.now.length cv)).alloc (.cells (bools (List.replicate R.now.length false)).toArray 4)) ⟨w.heap.size, 2, none⟩ (.slice (some ⟨w2.heap.size, 0, none⟩) R.now.length R.now.length) (w.heap.size + 1) (by simp)).trans r1
    refine bodyPost_ret (resFlush (set5 r2 _ _ _ _ _) _ rfl) rfl ⟨dv Av A2 (some ⟨w2.heap.size, 0, none⟩) R.now.length R.now.length R.now.length cv c2 R.now.length (stepS R.steps R.left) (stepL R.left), ?_, ?_, hBf⟩
    · rw [show R.flushE = 0 from if_neg h0]; rfl
    · rw [show R.flushM = ⟨R.now, R.now, List.replicate R.now.length false, stepS R.steps R.left, stepL R.left⟩ from if_neg h0]
      exact ⟨Av, A2, _, cv, c2, R.now.length, by simp [dv], (sv.fr (f3.trans f4) (by simp)).sub (fun y hy => by simp [hy]), HH.out.1.below hBf, (sF.fr f4 (by simp)).sub (fun y hy => by simp [hy])⟩
end Go.Proofs.Ytdjcpjfomgfjlaa
