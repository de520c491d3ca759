/- Joined: RefB RefC RefD RefE RefF. -/
import Derived.Test.YtdjcpjfomgfjlaaJnB
import Derived.Test.YtdjcpjfomgfjlaaJnC
import Derived.Laws.OwnMore
import Derived.Deep.RegionHeld
import Derived.Deep.RegionWith
import Derived.Deep.RegionLaw
/- The document's disk: Write, Flush. -/
namespace Go.Proofs.Ytdjcpjfomgfjlaa
open Go.RowKit Go.Maps

theorem strs_one (L : List (List UInt8)) : ∀ u ∈ strs L, u.oneCell' = true := by
  intro u hu
  obtain ⟨b, _, rfl⟩ := List.mem_map.1 hu
  rfl
theorem bools_one (L : List Bool) : ∀ u ∈ bools L, u.oneCell' = true := by
  intro u hu
  obtain ⟨b, _, rfl⟩ := List.mem_map.1 hu
  rfl
theorem below_put (w w1 : World) (h : Below w.heap.size w w1) (v0 v1 v2 v3 v4 : Value) : Below w.heap.size w (((((w1.setCell ⟨w.heap.size, 0, none⟩ v0).setCell ⟨w.heap.size, 1, none⟩ v1).setCell ⟨w.heap.size, 2, none⟩ v2).setCell ⟨w.heap.size, 3, none⟩ v3).setCell ⟨w.heap.size, 4, none⟩ v4) := ((((h.setCell (by simp) v0).setCell (by simp) v1).setCell (by simp) v2).setCell (by simp) v3).setCell (by simp) v4
theorem below_put1 (w w1 : World) (h : Below w.heap.size w w1) (v0 v1 v2 v3 v4 : Value) : Below w.heap.size w (((((w1.setCell ⟨w.heap.size + 1, 0, none⟩ v0).setCell ⟨w.heap.size + 1, 1, none⟩ v1).setCell ⟨w.heap.size + 1, 2, none⟩ v2).setCell ⟨w.heap.size + 1, 3, none⟩ v3).setCell ⟨w.heap.size + 1, 4, none⟩ v4) := ((((h.setCell (by simp) v0).setCell (by simp) v1).setCell (by simp) v2).setCell (by simp) v3).setCell (by simp) v4
theorem other_put (w1 : World) (b b' : Nat) (hb : b' ≠ b) (v0 v1 v2 v3 v4 : Value) : (((((w1.setCell ⟨b, 0, none⟩ v0).setCell ⟨b, 1, none⟩ v1).setCell ⟨b, 2, none⟩ v2).setCell ⟨b, 3, none⟩ v3).setCell ⟨b, 4, none⟩ v4).heap[b']? = w1.heap[b']? := by
  simp [Below.heap_setCell, hb]
theorem resFlush {w : World} {b : Nat} {v0 v1 v2 v3 v4 : Value} (h : w.heap[b]? = some (.cells #[v0, v1, v2, v3, v4] 33 (0, 0))) (tmps : Array Value) (h2 : tmps.getD 2 undef = .pointer (some ⟨b, 0, none⟩)) :
    (results Try.f48 tmps).run Try.prog w = .ok ((.tuple #[.agg #[v0, v1, v2, v3, v4], tmps.getD 3 undef])) w := by
  have e0 : w.cell? ⟨b, 0, none⟩ = some v0 := cell_of_row w b 0 _ _ _ h
  have e1 : w.cell? ⟨b, 1, none⟩ = some v1 := cell_of_row w b 1 _ _ _ h
  have e2 : w.cell? ⟨b, 2, none⟩ = some v2 := cell_of_row w b 2 _ _ _ h
  have e3 : w.cell? ⟨b, 3, none⟩ = some v3 := cell_of_row w b 3 _ _ _ h
  have e4 : w.cell? ⟨b, 4, none⟩ = some v4 := cell_of_row w b 4 _ _ _ h
  have h2' := h2
  simp only [Array.getD_eq_getD_getElem?] at h2'
  simp [results, Try.results48, go_sem, h2', e0, e1, e2, e3, e4]
theorem resWrite {w : World} {b : Nat} {v0 v1 v2 v3 v4 : Value} (h : w.heap[b]? = some (.cells #[v0, v1, v2, v3, v4] 33 (0, 0))) (tmps : Array Value) (h2 : tmps.getD 6 undef = .pointer (some ⟨b, 0, none⟩)) :
    (results Try.f19 tmps).run Try.prog w = .ok ((.tuple #[.agg #[v0, v1, v2, v3, v4], tmps.getD 7 undef])) w := by
  have e0 : w.cell? ⟨b, 0, none⟩ = some v0 := cell_of_row w b 0 _ _ _ h
  have e1 : w.cell? ⟨b, 1, none⟩ = some v1 := cell_of_row w b 1 _ _ _ h
  have e2 : w.cell? ⟨b, 2, none⟩ = some v2 := cell_of_row w b 2 _ _ _ h
  have e3 : w.cell? ⟨b, 3, none⟩ = some v3 := cell_of_row w b 3 _ _ _ h
  have e4 : w.cell? ⟨b, 4, none⟩ = some v4 := cell_of_row w b 4 _ _ _ h
  have h2' := h2
  simp only [Array.getD_eq_getD_getElem?] at h2'
  simp [results, Try.results19, go_sem, h2', e0, e1, e2, e3, e4]
theorem ext_X {X : List Nat} {n m : Nat} (hX : ∀ x ∈ X, x < n) (h : n + 1 < m) : ∀ x ∈ (n + 1) :: n :: X, x < m := by
  intro x hx
  rcases List.mem_cons.1 hx with rfl | hx
  · exact h
  · rcases List.mem_cons.1 hx with rfl | hx
    · omega
    · have := hX x hx; omega
theorem new_sl (w : World) (xs : List Value) (e : TypeId) {X : List Nat} (hX : ∀ x ∈ X, x < w.heap.size) : Sl (w.alloc (.cells xs.toArray e)) X (some ⟨w.heap.size, 0, none⟩) xs := by
  refine ⟨?_, fun a ha => by cases ha; exact fun hx => Nat.lt_irrefl _ (hX _ hx)⟩
  have := Rd.new w xs.toArray e (0, 0)
  rw [alloc1_size]
  exact this
def RD.flushE (R : RD) : Int := if R.left = 0 then 30 else 0
def RD.flushM (R : RD) : RD := if R.left = 0 then R else ⟨R.now, R.now, List.replicate R.now.length false, stepS R.steps R.left, stepL R.left⟩
theorem makeBools (n : Nat) (hn : n ≤ 4096) (w : World) : (Instr.makeSlice 31 (.int .i64 (n : Int)) (.int .i64 (n : Int))).run Try.prog w = .ok (.slice (some ⟨w.heap.size, 0, none⟩) n n) (w.alloc (.cells (bools (List.replicate n false)).toArray 4)) := by
  have h := run_make_row' (P := Try.prog) 31 4 (.bool false) 1 Try.underlying31 infoBool rfl .i64 .i64 n (by omega) (by omega) w
  have e : madeCells #[Value.bool false] n = (bools (List.replicate n false)).toArray := by
    apply Array.toList_inj.1
    rw [toList_madeCells_one]
    simp [bools]
  rw [e] at h
  exact h
theorem Sl.sub {w : World} {X Y : List Nat} {A : Option Addr} {xs : List Value} (h : Sl w X A xs) (hY : ∀ y ∈ Y, y ∈ X) : Sl w Y A xs := ⟨h.1, fun a ha hy => h.2 a ha (hY _ hy)⟩
set_option maxRecDepth 100000 in
set_option maxHeartbeats 1000000 in
theorem rflush_any (w : World) (X : List Nat) (R : RD) (v : Value) (h : RefV w X R v) (hk : R.Ok) (hX : ∀ x ∈ X, x < w.heap.size) :
    Calls Try.prog 48 #[v] w fun e w' => ∃ v', e = .returned (.tuple #[v', .int .i64 R.flushE]) ∧ RefV w' X R.flushM v' ∧ Below w.heap.size w w' := by
  have hh := h
  obtain ⟨A1, A2, A3, c1, c2, c3, rfl, h1, h2, h3⟩ := h
  have HST := Lib.hid (fun (W : World) => rstep_any W A1 A2 A3 R.sure.length R.now.length R.fresh.length c1 c2 c3 R.steps R.left hk.left hk.steps)
  unfold dv at HST
  have hb2 : Below w.heap.size w ((w.alloc (.cells #[.slice A1 R.sure.length c1, .slice A2 R.now.length c2, .slice A3 R.fresh.length c3, .int .i64 R.steps, .int .i64 R.left] 33)).alloc (.cells #[.slice none 0 0, .slice none 0 0, .slice none 0 0, .int .i64 0, .int .i64 0] 33)) := below2 _ _ _
  have hs2 : ((w.alloc (.cells #[.slice A1 R.sure.length c1, .slice A2 R.now.length c2, .slice A3 R.fresh.length c3, .int .i64 R.steps, .int .i64 R.left] 33)).alloc (.cells #[.slice none 0 0, .slice none 0 0, .slice none 0 0, .int .i64 0, .int .i64 0] 33)).heap.size = w.heap.size + 2 := by simp
  obtain ⟨g0, g1⟩ := two_new w (.cells #[.slice A1 R.sure.length c1, .slice A2 R.now.length c2, .slice A3 R.fresh.length c3, .int .i64 R.steps, .int .i64 R.left] 33) (.cells #[.slice none 0 0, .slice none 0 0, .slice none 0 0, .int .i64 0, .int .i64 0] 33)
  have HW2 := Lib.hid (And.intro hb2 (And.intro hs2 (And.intro g0 g1)))
  clear hb2 hs2 g0 g1
  by_cases h0 : R.left = 0
  · rw [decide_eq_true h0] at HST
    have H0 := Lib.hid h0
    clear h0
    go_enter Try.func48, Try.ntmps48
    go_upto_region 2 with (first
      | (go_at_call 54; (with_reducible refine (HST.out _).mono ?_); rintro e w1 ⟨rfl, hb1⟩; rw [HW2.out.2.1] at hb1; have d0 := (hb1.block w.heap.size (by omega)).trans HW2.out.2.2.1; have d1 := (hb1.block (w.heap.size + 1) (by omega)).trans HW2.out.2.2.2; have e0 := cell_of_row w1 (w.heap.size) 0 _ _ _ d0; have e1 := cell_of_row w1 (w.heap.size) 1 _ _ _ d0; have e2 := cell_of_row w1 (w.heap.size) 2 _ _ _ d0; have e3 := cell_of_row w1 (w.heap.size) 3 _ _ _ d0; have e4 := cell_of_row w1 (w.heap.size) 4 _ _ _ d0; have ef0 := frozen_of_row w1 (w.heap.size) 0 _ _ d0; have ef1 := frozen_of_row w1 (w.heap.size) 1 _ _ d0; have ef2 := frozen_of_row w1 (w.heap.size) 2 _ _ d0; have ef3 := frozen_of_row w1 (w.heap.size) 3 _ _ d0; have ef4 := frozen_of_row w1 (w.heap.size) 4 _ _ d0)
      | go_in)
    have hW1 : Below w.heap.size w (((((w1.setCell ⟨w.heap.size, 0, none⟩ (.slice A1 R.sure.length c1)).setCell ⟨w.heap.size, 1, none⟩ (.slice A2 R.now.length c2)).setCell ⟨w.heap.size, 2, none⟩ (.slice A3 R.fresh.length c3)).setCell ⟨w.heap.size, 3, none⟩ (.int .i64 (stepS R.steps R.left))).setCell ⟨w.heap.size, 4, none⟩ (.int .i64 (stepL R.left))) := below_put w w1 (HW2.out.1.trans (lower' hb1 (by omega))) _ _ _ _ _
    have hs1 : w.heap.size + 1 < (((((w1.setCell ⟨w.heap.size, 0, none⟩ (.slice A1 R.sure.length c1)).setCell ⟨w.heap.size, 1, none⟩ (.slice A2 R.now.length c2)).setCell ⟨w.heap.size, 2, none⟩ (.slice A3 R.fresh.length c3)).setCell ⟨w.heap.size, 3, none⟩ (.int .i64 (stepS R.steps R.left))).setCell ⟨w.heap.size, 4, none⟩ (.int .i64 (stepL R.left))).heap.size := by have := hb1.size; have := HW2.out.2.1; simp [World.setCell]; omega
    have q0 := set5 d0 (.slice A1 R.sure.length c1) (.slice A2 R.now.length c2) (.slice A3 R.fresh.length c3) (.int .i64 (stepS R.steps R.left)) (.int .i64 (stepL R.left))
    have q1 := (other_put w1 w.heap.size (w.heap.size + 1) (by omega) (.slice A1 R.sure.length c1) (.slice A2 R.now.length c2) (.slice A3 R.fresh.length c3) (.int .i64 (stepS R.steps R.left)) (.int .i64 (stepL R.left))).trans d1
    clear d0 d1 hb1 e0 ef0 e1 ef1 e2 ef2 e3 ef3 e4 ef4
    generalize (((((w1.setCell ⟨w.heap.size, 0, none⟩ (.slice A1 R.sure.length c1)).setCell ⟨w.heap.size, 1, none⟩ (.slice A2 R.now.length c2)).setCell ⟨w.heap.size, 2, none⟩ (.slice A3 R.fresh.length c3)).setCell ⟨w.heap.size, 3, none⟩ (.int .i64 (stepS R.steps R.left))).setCell ⟨w.heap.size, 4, none⟩ (.int .i64 (stepL R.left))) = W1 at hW1 hs1 q0 q1 ⊢
    have e0 := cell_of_row W1 (w.heap.size) 0 _ _ _ q0
    have e1 := cell_of_row W1 (w.heap.size) 1 _ _ _ q0
    have e2 := cell_of_row W1 (w.heap.size) 2 _ _ _ q0
    have e3 := cell_of_row W1 (w.heap.size) 3 _ _ _ q0
    have e4 := cell_of_row W1 (w.heap.size) 4 _ _ _ q0
    have ef0 := frozen_of_row W1 (w.heap.size) 0 _ _ q0
    have ef1 := frozen_of_row W1 (w.heap.size) 1 _ _ q0
    have ef2 := frozen_of_row W1 (w.heap.size) 2 _ _ q0
    have ef3 := frozen_of_row W1 (w.heap.size) 3 _ _ q0
    have ef4 := frozen_of_row W1 (w.heap.size) 4 _ _ q0
    have m0 := cell_of_row W1 (w.heap.size + 1) 0 _ _ _ q1
    have m1 := cell_of_row W1 (w.heap.size + 1) 1 _ _ _ q1
    have m2 := cell_of_row W1 (w.heap.size + 1) 2 _ _ _ q1
    have m3 := cell_of_row W1 (w.heap.size + 1) 3 _ _ _ q1
    have m4 := cell_of_row W1 (w.heap.size + 1) 4 _ _ _ q1
    have mf0 := frozen_of_row W1 (w.heap.size + 1) 0 _ _ q1
    have mf1 := frozen_of_row W1 (w.heap.size + 1) 1 _ _ q1
    have mf2 := frozen_of_row W1 (w.heap.size + 1) 2 _ _ q1
    have mf3 := frozen_of_row W1 (w.heap.size + 1) 3 _ _ q1
    have mf4 := frozen_of_row W1 (w.heap.size + 1) 4 _ _ q1
    clear h1 h2 h3
    go_wp2_with go_in
    refine bodyPost_ret (resFlush (set5 q1 _ _ _ _ _) _ rfl) rfl ⟨dv A1 A2 A3 R.sure.length R.now.length R.fresh.length c1 c2 c3 (stepS R.steps R.left) (stepL R.left), ?_, ?_, ?_⟩
    · rw [show R.flushE = 30 from if_pos H0.out]; rfl
    · rw [show R.flushM = R from if_pos H0.out, show stepS R.steps R.left = R.steps from if_pos H0.out, show stepL R.left = R.left from (if_pos H0.out).trans H0.out.symm]
      exact hh.below (below_put1 w W1 hW1 _ _ _ _ _)
    · exact below_put1 w W1 hW1 _ _ _ _ _
  · go_enter Try.func48, Try.ntmps48
    go_upto_region 2 with (first
      | (go_at_call 54; (with_reducible refine (HST.out _).mono ?_); rintro e w1 ⟨rfl, hb1⟩; rw [HW2.out.2.1] at hb1; have d0 := (hb1.block w.heap.size (by omega)).trans HW2.out.2.2.1; have d1 := (hb1.block (w.heap.size + 1) (by omega)).trans HW2.out.2.2.2; have e0 := cell_of_row w1 (w.heap.size) 0 _ _ _ d0; have e1 := cell_of_row w1 (w.heap.size) 1 _ _ _ d0; have e2 := cell_of_row w1 (w.heap.size) 2 _ _ _ d0; have e3 := cell_of_row w1 (w.heap.size) 3 _ _ _ d0; have e4 := cell_of_row w1 (w.heap.size) 4 _ _ _ d0; have ef0 := frozen_of_row w1 (w.heap.size) 0 _ _ d0; have ef1 := frozen_of_row w1 (w.heap.size) 1 _ _ d0; have ef2 := frozen_of_row w1 (w.heap.size) 2 _ _ d0; have ef3 := frozen_of_row w1 (w.heap.size) 3 _ _ d0; have ef4 := frozen_of_row w1 (w.heap.size) 4 _ _ d0)
      | go_in)
    have hW1 : Below w.heap.size w (((((w1.setCell ⟨w.heap.size, 0, none⟩ (.slice A1 R.sure.length c1)).setCell ⟨w.heap.size, 1, none⟩ (.slice A2 R.now.length c2)).setCell ⟨w.heap.size, 2, none⟩ (.slice A3 R.fresh.length c3)).setCell ⟨w.heap.size, 3, none⟩ (.int .i64 (stepS R.steps R.left))).setCell ⟨w.heap.size, 4, none⟩ (.int .i64 (stepL R.left))) := below_put w w1 (HW2.out.1.trans (lower' hb1 (by omega))) _ _ _ _ _
    have hs1 : w.heap.size + 1 < (((((w1.setCell ⟨w.heap.size, 0, none⟩ (.slice A1 R.sure.length c1)).setCell ⟨w.heap.size, 1, none⟩ (.slice A2 R.now.length c2)).setCell ⟨w.heap.size, 2, none⟩ (.slice A3 R.fresh.length c3)).setCell ⟨w.heap.size, 3, none⟩ (.int .i64 (stepS R.steps R.left))).setCell ⟨w.heap.size, 4, none⟩ (.int .i64 (stepL R.left))).heap.size := by have := hb1.size; have := HW2.out.2.1; simp [World.setCell]; omega
    have q0 := set5 d0 (.slice A1 R.sure.length c1) (.slice A2 R.now.length c2) (.slice A3 R.fresh.length c3) (.int .i64 (stepS R.steps R.left)) (.int .i64 (stepL R.left))
    have q1 := (other_put w1 w.heap.size (w.heap.size + 1) (by omega) (.slice A1 R.sure.length c1) (.slice A2 R.now.length c2) (.slice A3 R.fresh.length c3) (.int .i64 (stepS R.steps R.left)) (.int .i64 (stepL R.left))).trans d1
    clear d0 d1 hb1 e0 ef0 e1 ef1 e2 ef2 e3 ef3 e4 ef4
    generalize (((((w1.setCell ⟨w.heap.size, 0, none⟩ (.slice A1 R.sure.length c1)).setCell ⟨w.heap.size, 1, none⟩ (.slice A2 R.now.length c2)).setCell ⟨w.heap.size, 2, none⟩ (.slice A3 R.fresh.length c3)).setCell ⟨w.heap.size, 3, none⟩ (.int .i64 (stepS R.steps R.left))).setCell ⟨w.heap.size, 4, none⟩ (.int .i64 (stepL R.left))) = W1 at hW1 hs1 q0 q1 ⊢
    have e0 := cell_of_row W1 (w.heap.size) 0 _ _ _ q0
    have e1 := cell_of_row W1 (w.heap.size) 1 _ _ _ q0
    have e2 := cell_of_row W1 (w.heap.size) 2 _ _ _ q0
    have e3 := cell_of_row W1 (w.heap.size) 3 _ _ _ q0
    have e4 := cell_of_row W1 (w.heap.size) 4 _ _ _ q0
    have ef0 := frozen_of_row W1 (w.heap.size) 0 _ _ q0
    have ef1 := frozen_of_row W1 (w.heap.size) 1 _ _ q0
    have ef2 := frozen_of_row W1 (w.heap.size) 2 _ _ q0
    have ef3 := frozen_of_row W1 (w.heap.size) 3 _ _ q0
    have ef4 := frozen_of_row W1 (w.heap.size) 4 _ _ q0
    have m0 := cell_of_row W1 (w.heap.size + 1) 0 _ _ _ q1
    have m1 := cell_of_row W1 (w.heap.size + 1) 1 _ _ _ q1
    have m2 := cell_of_row W1 (w.heap.size + 1) 2 _ _ _ q1
    have m3 := cell_of_row W1 (w.heap.size + 1) 3 _ _ _ q1
    have m4 := cell_of_row W1 (w.heap.size + 1) 4 _ _ _ q1
    have mf0 := frozen_of_row W1 (w.heap.size + 1) 0 _ _ q1
    have mf1 := frozen_of_row W1 (w.heap.size + 1) 1 _ _ q1
    have mf2 := frozen_of_row W1 (w.heap.size + 1) 2 _ _ q1
    have mf3 := frozen_of_row W1 (w.heap.size + 1) 3 _ _ q1
    have mf4 := frozen_of_row W1 (w.heap.size + 1) 4 _ _ q1
    have hS2 := h2.below hW1
    obtain ⟨i0, hi, hz0, hz1, hz2⟩ := info_parts infoStr
    have hn := hk.n
    have HX := Lib.hid hX
    have HW1 := Lib.hid (And.intro hW1 (And.intro hs1 (And.intro q0 (And.intro q1 hS2))))
    have HH := Lib.hid (And.intro h2 hk)
    clear hW1 q0 q1 hS2 h1 h2 h3 hh hX
    have qa := (Below.heap_alloc W1 (.cells #[] 9) w.heap.size (by omega)).trans HW1.out.2.2.1
    have a0 := cell_of_row (W1.alloc (.cells #[] 9)) (w.heap.size) 0 _ _ _ qa
    have a1 := cell_of_row (W1.alloc (.cells #[] 9)) (w.heap.size) 1 _ _ _ qa
    have a2 := cell_of_row (W1.alloc (.cells #[] 9)) (w.heap.size) 2 _ _ _ qa
    have a3 := cell_of_row (W1.alloc (.cells #[] 9)) (w.heap.size) 3 _ _ _ qa
    have a4 := cell_of_row (W1.alloc (.cells #[] 9)) (w.heap.size) 4 _ _ _ qa
    have af0 := frozen_of_row (W1.alloc (.cells #[] 9)) (w.heap.size) 0 _ _ qa
    have af1 := frozen_of_row (W1.alloc (.cells #[] 9)) (w.heap.size) 1 _ _ qa
    have af2 := frozen_of_row (W1.alloc (.cells #[] 9)) (w.heap.size) 2 _ _ qa
    have af3 := frozen_of_row (W1.alloc (.cells #[] 9)) (w.heap.size) 3 _ _ qa
    have af4 := frozen_of_row (W1.alloc (.cells #[] 9)) (w.heap.size) 4 _ _ qa
    clear qa
    go_wp2_with (first
      | (at_builtin; refine wpList_appR _ rfl (.tmp 13) (.tmp 15) _ rfl W1.heap.size 9 i0 _ 1 16 Try.underlying30 hi hz0 hz1 hz2 rfl (by omega) (.slice (some ⟨W1.heap.size, 0, none⟩) 0 0) 0 [] rfl (own_lit0 W1 (Nat.le_refl _)) (W1.heap.size + 1) A2 R.now.length c2 (strs R.now) rfl (by simp) ((HW1.out.2.2.2.2.below ((Below.refl _ _).alloc (Nat.le_refl _) _)).1.more (by simp)) (strs_one _) (by omega) (by omega) (by simp) ?_; intro v2 w2 hown2 hg2 hat2; rw [Nat.zero_add, List.nil_append] at hown2; have hB2 := append0_below hg2; clear hg2 hat2; have s2 := hB2.size; obtain ⟨Av, cv, rfl, hvc, hvm, sv⟩ := own_sl hown2 (ext_X HX.out hs1); have p0 := (hB2.block w.heap.size (by omega)).trans HW1.out.2.2.1; have p1 := (hB2.block (w.heap.size + 1) (by omega)).trans HW1.out.2.2.2.1; have k0 := cell_of_row w2 (w.heap.size) 0 _ _ _ p0; have k1 := cell_of_row w2 (w.heap.size) 1 _ _ _ p0; have k2 := cell_of_row w2 (w.heap.size) 2 _ _ _ p0; have k3 := cell_of_row w2 (w.heap.size) 3 _ _ _ p0; have k4 := cell_of_row w2 (w.heap.size) 4 _ _ _ p0; have kf0 := frozen_of_row w2 (w.heap.size) 0 _ _ p0; have kf1 := frozen_of_row w2 (w.heap.size) 1 _ _ p0; have kf2 := frozen_of_row w2 (w.heap.size) 2 _ _ p0; have kf3 := frozen_of_row w2 (w.heap.size) 3 _ _ p0; have kf4 := frozen_of_row w2 (w.heap.size) 4 _ _ p0; have km0 := cell_of_row w2 (w.heap.size + 1) 0 _ _ _ p1; have km1 := cell_of_row w2 (w.heap.size + 1) 1 _ _ _ p1; have km2 := cell_of_row w2 (w.heap.size + 1) 2 _ _ _ p1; have km3 := cell_of_row w2 (w.heap.size + 1) 3 _ _ _ p1; have km4 := cell_of_row w2 (w.heap.size + 1) 4 _ _ _ p1; have kmf0 := frozen_of_row w2 (w.heap.size + 1) 0 _ _ p1; have kmf1 := frozen_of_row w2 (w.heap.size + 1) 1 _ _ p1; have kmf2 := frozen_of_row w2 (w.heap.size + 1) 2 _ _ p1; have kmf3 := frozen_of_row w2 (w.heap.size + 1) 3 _ _ p1; have kmf4 := frozen_of_row w2 (w.heap.size + 1) 4 _ _ p1; have hmk := makeBools R.now.length hn (w2.setCell ⟨w.heap.size, 0, none⟩ (.slice Av R.now.length cv)); have r0 := (Below.heap_alloc (w2.setCell ⟨w.heap.size, 0, none⟩ (.slice Av R.now.length cv)) (.cells (bools (List.replicate R.now.length false)).toArray 4) w.heap.size (by simp [World.setCell]; omega)).trans (heap_setCell_same w2 w.heap.size 0 _ _ (.slice Av R.now.length cv) p0); have r1 := (Below.heap_alloc (w2.setCell ⟨w.heap.size, 0, none⟩ (.slice Av R.now.length cv)) (.cells (bools (List.replicate R.now.length false)).toArray 4) (w.heap.size + 1) (by simp [World.setCell]; omega)).trans ((Below.heap_setCell w2 ⟨w.heap.size, 0, none⟩ (.slice Av R.now.length cv) (w.heap.size + 1) (by simp)).trans p1); have j0 := cell_of_row ((w2.setCell ⟨w.heap.size, 0, none⟩ (.slice Av R.now.length cv)).alloc (.cells (bools (List.replicate R.now.length false)).toArray 4)) (w.heap.size) 0 _ _ _ r0; have j1 := cell_of_row ((w2.setCell ⟨w.heap.size, 0, none⟩ (.slice Av R.now.length cv)).alloc (.cells (bools (List.replicate R.now.length false)).toArray 4)) (w.heap.size) 1 _ _ _ r0; have j2 := cell_of_row ((w2.setCell ⟨w.heap.size, 0, none⟩ (.slice Av R.now.length cv)).alloc (.cells (bools (List.replicate R.now.length false)).toArray 4)) (w.heap.size) 2 _ _ _ r0; have j3 := cell_of_row ((w2.setCell ⟨w.heap.size, 0, none⟩ (.slice Av R.now.length cv)).alloc (.cells (bools (List.replicate R.now.length false)).toArray 4)) (w.heap.size) 3 _ _ _ r0; have j4 := cell_of_row ((w2.setCell ⟨w.heap.size, 0, none⟩ (.slice Av R.now.length cv)).alloc (.cells (bools (List.replicate R.now.length false)).toArray 4)) (w.heap.size) 4 _ _ _ r0; have jf0 := frozen_of_row ((w2.setCell ⟨w.heap.size, 0, none⟩ (.slice Av R.now.length cv)).alloc (.cells (bools (List.replicate R.now.length false)).toArray 4)) (w.heap.size) 0 _ _ r0; have jf1 := frozen_of_row ((w2.setCell ⟨w.heap.size, 0, none⟩ (.slice Av R.now.length cv)).alloc (.cells (bools (List.replicate R.now.length false)).toArray 4)) (w.heap.size) 1 _ _ r0; have jf2 := frozen_of_row ((w2.setCell ⟨w.heap.size, 0, none⟩ (.slice Av R.now.length cv)).alloc (.cells (bools (List.replicate R.now.length false)).toArray 4)) (w.heap.size) 2 _ _ r0; have jf3 := frozen_of_row ((w2.setCell ⟨w.heap.size, 0, none⟩ (.slice Av R.now.length cv)).alloc (.cells (bools (List.replicate R.now.length false)).toArray 4)) (w.heap.size) 3 _ _ r0; have jf4 := frozen_of_row ((w2.setCell ⟨w.heap.size, 0, none⟩ (.slice Av R.now.length cv)).alloc (.cells (bools (List.replicate R.now.length false)).toArray 4)) (w.heap.size) 4 _ _ r0; have jm0 := cell_of_row ((w2.setCell ⟨w.heap.size, 0, none⟩ (.slice Av R.now.length cv)).alloc (.cells (bools (List.replicate R.now.length false)).toArray 4)) (w.heap.size + 1) 0 _ _ _ r1; have jm1 := cell_of_row ((w2.setCell ⟨w.heap.size, 0, none⟩ (.slice Av R.now.length cv)).alloc (.cells (bools (List.replicate R.now.length false)).toArray 4)) (w.heap.size + 1) 1 _ _ _ r1; have jm2 := cell_of_row ((w2.setCell ⟨w.heap.size, 0, none⟩ (.slice Av R.now.length cv)).alloc (.cells (bools (List.replicate R.now.length false)).toArray 4)) (w.heap.size + 1) 2 _ _ _ r1; have jm3 := cell_of_row ((w2.setCell ⟨w.heap.size, 0, none⟩ (.slice Av R.now.length cv)).alloc (.cells (bools (List.replicate R.now.length false)).toArray 4)) (w.heap.size + 1) 3 _ _ _ r1; have jm4 := cell_of_row ((w2.setCell ⟨w.heap.size, 0, none⟩ (.slice Av R.now.length cv)).alloc (.cells (bools (List.replicate R.now.length false)).toArray 4)) (w.heap.size + 1) 4 _ _ _ r1; have jmf0 := frozen_of_row ((w2.setCell ⟨w.heap.size, 0, none⟩ (.slice Av R.now.length cv)).alloc (.cells (bools (List.replicate R.now.length false)).toArray 4)) (w.heap.size + 1) 0 _ _ r1; have jmf1 := frozen_of_row ((w2.setCell ⟨w.heap.size, 0, none⟩ (.slice Av R.now.length cv)).alloc (.cells (bools (List.replicate R.now.length false)).toArray 4)) (w.heap.size + 1) 1 _ _ r1; have jmf2 := frozen_of_row ((w2.setCell ⟨w.heap.size, 0, none⟩ (.slice Av R.now.length cv)).alloc (.cells (bools (List.replicate R.now.length false)).toArray 4)) (w.heap.size + 1) 2 _ _ r1; have jmf3 := frozen_of_row ((w2.setCell ⟨w.heap.size, 0, none⟩ (.slice Av R.now.length cv)).alloc (.cells (bools (List.replicate R.now.length false)).toArray 4)) (w.heap.size + 1) 3 _ _ r1; have jmf4 := frozen_of_row ((w2.setCell ⟨w.heap.size, 0, none⟩ (.slice Av R.now.length cv)).alloc (.cells (bools (List.replicate R.now.length false)).toArray 4)) (w.heap.size + 1) 4 _ _ r1)
      | go_in)
    have e1 : (w2.setCell ⟨w.heap.size, 0, none⟩ (.slice Av R.now.length cv)).heap.size = w2.heap.size := by simp [World.setCell]
    have sF := new_sl (w2.setCell ⟨w.heap.size, 0, none⟩ (.slice Av R.now.length cv)) (bools (List.replicate R.now.length false)) 4 (X := (w.heap.size + 1) :: w.heap.size :: X) (by rw [e1]; exact ext_X HX.out (by omega))
    rw [e1] at sF
    have f3 : Fr w2 ((w2.setCell ⟨w.heap.size, 0, none⟩ (.slice Av R.now.length cv)).alloc (.cells (bools (List.replicate R.now.length false)).toArray 4)) [w.heap.size + 1, w.heap.size] := ((Fr.refl _ _).setCell (by simp) _).alloc _
    have f4 : Fr ((w2.setCell ⟨w.heap.size, 0, none⟩ (.slice Av R.now.length cv)).alloc (.cells (bools (List.replicate R.now.length false)).toArray 4)) ((((((((w2.setCell ⟨w.heap.size, 0, none⟩ (.slice Av R.now.length cv)).alloc (.cells (bools (List.replicate R.now.length false)).toArray 4)).setCell ⟨w.heap.size, 2, none⟩ (.slice (some ⟨w2.heap.size, 0, none⟩) R.now.length R.now.length)).setCell ⟨w.heap.size + 1, 0, none⟩ (.slice Av R.now.length cv)).setCell ⟨w.heap.size + 1, 1, none⟩ (.slice A2 R.now.length c2)).setCell ⟨w.heap.size + 1, 2, none⟩ (.slice (some ⟨w2.heap.size, 0, none⟩) R.now.length R.now.length)).setCell ⟨w.heap.size + 1, 3, none⟩ (.int .i64 (stepS R.steps R.left))).setCell ⟨w.heap.size + 1, 4, none⟩ (.int .i64 (stepL R.left))) [w.heap.size + 1, w.heap.size] := ((((((Fr.refl _ _).setCell (by simp) _).setCell (by simp) _).setCell (by simp) _).setCell (by simp) _).setCell (by simp) _).setCell (by simp) _
    have hBf : Below w.heap.size w ((((((((w2.setCell ⟨w.heap.size, 0, none⟩ (.slice Av R.now.length cv)).alloc (.cells (bools (List.replicate R.now.length false)).toArray 4)).setCell ⟨w.heap.size, 2, none⟩ (.slice (some ⟨w2.heap.size, 0, none⟩) R.now.length R.now.length)).setCell ⟨w.heap.size + 1, 0, none⟩ (.slice Av R.now.length cv)).setCell ⟨w.heap.size + 1, 1, none⟩ (.slice A2 R.now.length c2)).setCell ⟨w.heap.size + 1, 2, none⟩ (.slice (some ⟨w2.heap.size, 0, none⟩) R.now.length R.now.length)).setCell ⟨w.heap.size + 1, 3, none⟩ (.int .i64 (stepS R.steps R.left))).setCell ⟨w.heap.size + 1, 4, none⟩ (.int .i64 (stepL R.left))) := HW1.out.1.trans ((lower' hB2 (by omega)).trans ((f3.trans f4).below (by omega) (by simp)))
    have r2 := (Below.heap_setCell ((w2.setCell ⟨w.heap.size, 0, none⟩ (.slice Av R.now.length cv)).alloc (.cells (bools (List.replicate R.now.length false)).toArray 4)) ⟨w.heap.size, 2, none⟩ (.slice (some ⟨w2.heap.size, 0, none⟩) R.now.length R.now.length) (w.heap.size + 1) (by simp)).trans r1
    refine bodyPost_ret (resFlush (set5 r2 _ _ _ _ _) _ rfl) rfl ⟨dv Av A2 (some ⟨w2.heap.size, 0, none⟩) R.now.length R.now.length R.now.length cv c2 R.now.length (stepS R.steps R.left) (stepL R.left), ?_, ?_, hBf⟩
    · rw [show R.flushE = 0 from if_neg h0]; rfl
    · rw [show R.flushM = ⟨R.now, R.now, List.replicate R.now.length false, stepS R.steps R.left, stepL R.left⟩ from if_neg h0]
      exact ⟨Av, A2, _, cv, c2, R.now.length, by simp [dv], (sv.fr (f3.trans f4) (by simp)).sub (fun y hy => by simp [hy]), HH.out.1.below hBf, (sF.fr f4 (by simp)).sub (fun y hy => by simp [hy])⟩
end Go.Proofs.Ytdjcpjfomgfjlaa
/- The document's disk: Write. -/
namespace Go.Proofs.Ytdjcpjfomgfjlaa
open Go.RowKit Go.Maps

theorem grown_set (w : World) (b k : Nat) (u : Value) : w.grownBy (w.setCell ⟨b, k, none⟩ u) (some b) := ⟨rfl, rfl, rfl, by simp [World.setCell], fun i _ h => Below.heap_setCell _ _ _ _ fun e => h (by rw [e])⟩
theorem strs_get (L : List (List UInt8)) (i : Nat) (h : i < L.length) : (strs L)[i]? = some (.string ⟨L[i].toArray⟩) := by simp [strs, h]
theorem bools_get (L : List Bool) (i : Nat) (h : i < L.length) : (bools L)[i]? = some (.bool L[i]) := by simp [bools, h]
theorem strs_set (L : List (List UInt8)) (i : Nat) (l : List UInt8) : strs (L.set i l) = (strs L).set i (.string ⟨l.toArray⟩) := by simp [strs, List.map_set]
theorem bools_set (L : List Bool) (i : Nat) (b : Bool) : bools (L.set i b) = (bools L).set i (.bool b) := by simp [bools, List.map_set]
def RD.writeBad (R : RD) (i : Int) (l : List UInt8) : Prop := ¬ (0 ≤ i ∧ i < R.now.length) ∨ l.length ≠ 64
instance (R : RD) (i : Int) (l : List UInt8) : Decidable (R.writeBad i l) := inferInstanceAs (Decidable (¬ (0 ≤ i ∧ i < R.now.length) ∨ l.length ≠ 64))
def RD.writeE (R : RD) (i : Int) (l : List UInt8) : Int := if R.writeBad i l then 1 else if R.left = 0 then 30 else 0
def RD.writeM (R : RD) (i : Int) (l : List UInt8) : RD := if R.writeBad i l then R else if R.left = 0 then R else ⟨R.sure, R.now.set i.toNat l, R.fresh.set i.toNat true, stepS R.steps R.left, stepL R.left⟩
set_option maxRecDepth 100000 in
set_option maxHeartbeats 2000000 in
theorem rwrite_bad (w : World) (X : List Nat) (R : RD) (v : Value) (h : RefV w X R v) (i : Int) (l : List UInt8) (hb : R.writeBad i l) :
    Calls Try.prog 19 #[v, .int .i64 i, .string ⟨l.toArray⟩] w fun e w' => ∃ v', e = .returned (.tuple #[v', .int .i64 1]) ∧ RefV w' X R v' ∧ Below w.heap.size w w' := by
  have hh := h
  obtain ⟨A1, A2, A3, c1, c2, c3, rfl, h1, h2, h3⟩ := h
  have hsz : (⟨l.toArray⟩ : ByteArray).size = l.length := rfl
  by_cases hi0 : i < 0
  · go_enter Try.func19, Try.ntmps19
    go_wp2
    exact bodyPost_ret (resWrite (lastAgg _ _ _ _ _ _) _ rfl) rfl ⟨_, rfl, hh.below (below2 _ _ _), below2 _ _ _⟩
  · by_cases hin : (R.now.length : Int) ≤ i
    · go_enter Try.func19, Try.ntmps19
      go_wp2
      exact bodyPost_ret (resWrite (lastAgg _ _ _ _ _ _) _ rfl) rfl ⟨_, rfl, hh.below (below2 _ _ _), below2 _ _ _⟩
    · have hl : ¬ ((l.length : Int) = 64) := by
        rcases hb with hb | hb
        · exact absurd ⟨by omega, by omega⟩ hb
        · omega
      go_enter Try.func19, Try.ntmps19
      go_wp2
      exact bodyPost_ret (resWrite (lastAgg _ _ _ _ _ _) _ rfl) rfl ⟨_, rfl, hh.below (below2 _ _ _), below2 _ _ _⟩

set_option maxRecDepth 100000 in
set_option maxHeartbeats 4000000 in
theorem rwrite_good (w : World) (X : List Nat) (R : RD) (v : Value) (h : RefV w X R v) (hk : R.Ok) (hX : ∀ x ∈ X, x < w.heap.size) (i : Nat) (l : List UInt8) (hi : i < R.now.length) (hl : l.length = 64) :
    Calls Try.prog 19 #[v, .int .i64 (i : Int), .string ⟨l.toArray⟩] w fun e w' => ∃ v', e = .returned (.tuple #[v', .int .i64 (if R.left = 0 then 30 else 0)]) ∧ RefV w' X (if R.left = 0 then R else ⟨R.sure, R.now.set i l, R.fresh.set i true, stepS R.steps R.left, stepL R.left⟩) v' ∧ Below w.heap.size w w' := by
  have hh := h
  obtain ⟨A1, A2, A3, c1, c2, c3, rfl, h1, h2, h3⟩ := h
  have HST := Lib.hid (fun (W : World) => rstep_any W A1 A2 A3 R.sure.length R.now.length R.fresh.length c1 c2 c3 R.steps R.left hk.left hk.steps)
  unfold dv at HST
  have hb2 : Below w.heap.size w ((w.alloc (.cells #[.slice A1 R.sure.length c1, .slice A2 R.now.length c2, .slice A3 R.fresh.length c3, .int .i64 R.steps, .int .i64 R.left] 33)).alloc (.cells #[.slice none 0 0, .slice none 0 0, .slice none 0 0, .int .i64 0, .int .i64 0] 33)) := below2 _ _ _
  have hs2 : ((w.alloc (.cells #[.slice A1 R.sure.length c1, .slice A2 R.now.length c2, .slice A3 R.fresh.length c3, .int .i64 R.steps, .int .i64 R.left] 33)).alloc (.cells #[.slice none 0 0, .slice none 0 0, .slice none 0 0, .int .i64 0, .int .i64 0] 33)).heap.size = w.heap.size + 2 := by simp
  obtain ⟨g0, g1⟩ := two_new w (.cells #[.slice A1 R.sure.length c1, .slice A2 R.now.length c2, .slice A3 R.fresh.length c3, .int .i64 R.steps, .int .i64 R.left] 33) (.cells #[.slice none 0 0, .slice none 0 0, .slice none 0 0, .int .i64 0, .int .i64 0] 33)
  have HW2 := Lib.hid (And.intro hb2 (And.intro hs2 (And.intro g0 g1)))
  have hiI : (i : Int) < (R.now.length : Int) := by omega
  have hlI : (l.length : Int) = 64 := by omega
  have hfI : (i : Int) < (R.fresh.length : Int) := by have := hk.fresh; omega
  have hfN : i < R.fresh.length := by omega
  have hsz : (⟨l.toArray⟩ : ByteArray).size = l.length := rfl
  have HK := Lib.hid hk
  have HI2 := Lib.hid hi
  have HI := Lib.hid (show 0 < R.now.length ∧ 0 < R.fresh.length from ⟨by omega, by have := hk.fresh; omega⟩)
  clear hb2 hs2 g0 g1 hi hl hk
  by_cases h0 : R.left = 0
  · rw [decide_eq_true h0] at HST
    rw [if_pos h0, if_pos h0]
    have H0 := Lib.hid h0
    clear h0
    go_enter Try.func19, Try.ntmps19
    go_upto_region 4 with (first
      | (go_at_call 54; (with_reducible refine (HST.out _).mono ?_); rintro e w1 ⟨rfl, hb1⟩; rw [HW2.out.2.1] at hb1; have d0 := (hb1.block w.heap.size (by omega)).trans HW2.out.2.2.1; have d1 := (hb1.block (w.heap.size + 1) (by omega)).trans HW2.out.2.2.2; have e0 := cell_of_row w1 (w.heap.size) 0 _ _ _ d0; have e1 := cell_of_row w1 (w.heap.size) 1 _ _ _ d0; have e2 := cell_of_row w1 (w.heap.size) 2 _ _ _ d0; have e3 := cell_of_row w1 (w.heap.size) 3 _ _ _ d0; have e4 := cell_of_row w1 (w.heap.size) 4 _ _ _ d0; have ef0 := frozen_of_row w1 (w.heap.size) 0 _ _ d0; have ef1 := frozen_of_row w1 (w.heap.size) 1 _ _ d0; have ef2 := frozen_of_row w1 (w.heap.size) 2 _ _ d0; have ef3 := frozen_of_row w1 (w.heap.size) 3 _ _ d0; have ef4 := frozen_of_row w1 (w.heap.size) 4 _ _ d0)
      | go_in)
    have hW1 : Below w.heap.size w (((((w1.setCell ⟨w.heap.size, 0, none⟩ (.slice A1 R.sure.length c1)).setCell ⟨w.heap.size, 1, none⟩ (.slice A2 R.now.length c2)).setCell ⟨w.heap.size, 2, none⟩ (.slice A3 R.fresh.length c3)).setCell ⟨w.heap.size, 3, none⟩ (.int .i64 (stepS R.steps R.left))).setCell ⟨w.heap.size, 4, none⟩ (.int .i64 (stepL R.left))) := below_put w w1 (HW2.out.1.trans (lower' hb1 (by omega))) _ _ _ _ _
    have hs1 : w.heap.size + 1 < (((((w1.setCell ⟨w.heap.size, 0, none⟩ (.slice A1 R.sure.length c1)).setCell ⟨w.heap.size, 1, none⟩ (.slice A2 R.now.length c2)).setCell ⟨w.heap.size, 2, none⟩ (.slice A3 R.fresh.length c3)).setCell ⟨w.heap.size, 3, none⟩ (.int .i64 (stepS R.steps R.left))).setCell ⟨w.heap.size, 4, none⟩ (.int .i64 (stepL R.left))).heap.size := by have := hb1.size; have := HW2.out.2.1; simp [World.setCell]; omega
    have q0 := set5 d0 (.slice A1 R.sure.length c1) (.slice A2 R.now.length c2) (.slice A3 R.fresh.length c3) (.int .i64 (stepS R.steps R.left)) (.int .i64 (stepL R.left))
    have q1 := (other_put w1 w.heap.size (w.heap.size + 1) (by omega) (.slice A1 R.sure.length c1) (.slice A2 R.now.length c2) (.slice A3 R.fresh.length c3) (.int .i64 (stepS R.steps R.left)) (.int .i64 (stepL R.left))).trans d1
    clear d0 d1 hb1 e0 ef0 e1 ef1 e2 ef2 e3 ef3 e4 ef4
    generalize (((((w1.setCell ⟨w.heap.size, 0, none⟩ (.slice A1 R.sure.length c1)).setCell ⟨w.heap.size, 1, none⟩ (.slice A2 R.now.length c2)).setCell ⟨w.heap.size, 2, none⟩ (.slice A3 R.fresh.length c3)).setCell ⟨w.heap.size, 3, none⟩ (.int .i64 (stepS R.steps R.left))).setCell ⟨w.heap.size, 4, none⟩ (.int .i64 (stepL R.left))) = W1 at hW1 hs1 q0 q1 ⊢
    have e0 := cell_of_row W1 (w.heap.size) 0 _ _ _ q0
    have e1 := cell_of_row W1 (w.heap.size) 1 _ _ _ q0
    have e2 := cell_of_row W1 (w.heap.size) 2 _ _ _ q0
    have e3 := cell_of_row W1 (w.heap.size) 3 _ _ _ q0
    have e4 := cell_of_row W1 (w.heap.size) 4 _ _ _ q0
    have ef0 := frozen_of_row W1 (w.heap.size) 0 _ _ q0
    have ef1 := frozen_of_row W1 (w.heap.size) 1 _ _ q0
    have ef2 := frozen_of_row W1 (w.heap.size) 2 _ _ q0
    have ef3 := frozen_of_row W1 (w.heap.size) 3 _ _ q0
    have ef4 := frozen_of_row W1 (w.heap.size) 4 _ _ q0
    have m0 := cell_of_row W1 (w.heap.size + 1) 0 _ _ _ q1
    have m1 := cell_of_row W1 (w.heap.size + 1) 1 _ _ _ q1
    have m2 := cell_of_row W1 (w.heap.size + 1) 2 _ _ _ q1
    have m3 := cell_of_row W1 (w.heap.size + 1) 3 _ _ _ q1
    have m4 := cell_of_row W1 (w.heap.size + 1) 4 _ _ _ q1
    have mf0 := frozen_of_row W1 (w.heap.size + 1) 0 _ _ q1
    have mf1 := frozen_of_row W1 (w.heap.size + 1) 1 _ _ q1
    have mf2 := frozen_of_row W1 (w.heap.size + 1) 2 _ _ q1
    have mf3 := frozen_of_row W1 (w.heap.size + 1) 3 _ _ q1
    have mf4 := frozen_of_row W1 (w.heap.size + 1) 4 _ _ q1
    clear h1 h2 h3
    go_wp2_with go_in
    refine bodyPost_ret (resWrite (set5 q1 _ _ _ _ _) _ rfl) rfl ⟨dv A1 A2 A3 R.sure.length R.now.length R.fresh.length c1 c2 c3 (stepS R.steps R.left) (stepL R.left), ?_, ?_, ?_⟩
    · rfl
    · rw [show stepS R.steps R.left = R.steps from if_pos H0.out, show stepL R.left = R.left from (if_pos H0.out).trans H0.out.symm]
      exact hh.below (below_put1 w W1 hW1 _ _ _ _ _)
    · exact below_put1 w W1 hW1 _ _ _ _ _
  · rw [decide_eq_false h0] at HST
    rw [if_neg h0, if_neg h0]
    have H0 := Lib.hid h0
    clear h0
    go_enter Try.func19, Try.ntmps19
    go_upto_region 4 with (first
      | (go_at_call 54; (with_reducible refine (HST.out _).mono ?_); rintro e w1 ⟨rfl, hb1⟩; rw [HW2.out.2.1] at hb1; have d0 := (hb1.block w.heap.size (by omega)).trans HW2.out.2.2.1; have d1 := (hb1.block (w.heap.size + 1) (by omega)).trans HW2.out.2.2.2; have e0 := cell_of_row w1 (w.heap.size) 0 _ _ _ d0; have e1 := cell_of_row w1 (w.heap.size) 1 _ _ _ d0; have e2 := cell_of_row w1 (w.heap.size) 2 _ _ _ d0; have e3 := cell_of_row w1 (w.heap.size) 3 _ _ _ d0; have e4 := cell_of_row w1 (w.heap.size) 4 _ _ _ d0; have ef0 := frozen_of_row w1 (w.heap.size) 0 _ _ d0; have ef1 := frozen_of_row w1 (w.heap.size) 1 _ _ d0; have ef2 := frozen_of_row w1 (w.heap.size) 2 _ _ d0; have ef3 := frozen_of_row w1 (w.heap.size) 3 _ _ d0; have ef4 := frozen_of_row w1 (w.heap.size) 4 _ _ d0)
      | go_in)
    have hW1 : Below w.heap.size w (((((w1.setCell ⟨w.heap.size, 0, none⟩ (.slice A1 R.sure.length c1)).setCell ⟨w.heap.size, 1, none⟩ (.slice A2 R.now.length c2)).setCell ⟨w.heap.size, 2, none⟩ (.slice A3 R.fresh.length c3)).setCell ⟨w.heap.size, 3, none⟩ (.int .i64 (stepS R.steps R.left))).setCell ⟨w.heap.size, 4, none⟩ (.int .i64 (stepL R.left))) := below_put w w1 (HW2.out.1.trans (lower' hb1 (by omega))) _ _ _ _ _
    have hs1 : w.heap.size + 1 < (((((w1.setCell ⟨w.heap.size, 0, none⟩ (.slice A1 R.sure.length c1)).setCell ⟨w.heap.size, 1, none⟩ (.slice A2 R.now.length c2)).setCell ⟨w.heap.size, 2, none⟩ (.slice A3 R.fresh.length c3)).setCell ⟨w.heap.size, 3, none⟩ (.int .i64 (stepS R.steps R.left))).setCell ⟨w.heap.size, 4, none⟩ (.int .i64 (stepL R.left))).heap.size := by have := hb1.size; have := HW2.out.2.1; simp [World.setCell]; omega
    have q0 := set5 d0 (.slice A1 R.sure.length c1) (.slice A2 R.now.length c2) (.slice A3 R.fresh.length c3) (.int .i64 (stepS R.steps R.left)) (.int .i64 (stepL R.left))
    have q1 := (other_put w1 w.heap.size (w.heap.size + 1) (by omega) (.slice A1 R.sure.length c1) (.slice A2 R.now.length c2) (.slice A3 R.fresh.length c3) (.int .i64 (stepS R.steps R.left)) (.int .i64 (stepL R.left))).trans d1
    clear d0 d1 hb1 e0 ef0 e1 ef1 e2 ef2 e3 ef3 e4 ef4
    generalize (((((w1.setCell ⟨w.heap.size, 0, none⟩ (.slice A1 R.sure.length c1)).setCell ⟨w.heap.size, 1, none⟩ (.slice A2 R.now.length c2)).setCell ⟨w.heap.size, 2, none⟩ (.slice A3 R.fresh.length c3)).setCell ⟨w.heap.size, 3, none⟩ (.int .i64 (stepS R.steps R.left))).setCell ⟨w.heap.size, 4, none⟩ (.int .i64 (stepL R.left))) = W1 at hW1 hs1 q0 q1 ⊢
    have e0 := cell_of_row W1 (w.heap.size) 0 _ _ _ q0
    have e1 := cell_of_row W1 (w.heap.size) 1 _ _ _ q0
    have e2 := cell_of_row W1 (w.heap.size) 2 _ _ _ q0
    have e3 := cell_of_row W1 (w.heap.size) 3 _ _ _ q0
    have e4 := cell_of_row W1 (w.heap.size) 4 _ _ _ q0
    have ef0 := frozen_of_row W1 (w.heap.size) 0 _ _ q0
    have ef1 := frozen_of_row W1 (w.heap.size) 1 _ _ q0
    have ef2 := frozen_of_row W1 (w.heap.size) 2 _ _ q0
    have ef3 := frozen_of_row W1 (w.heap.size) 3 _ _ q0
    have ef4 := frozen_of_row W1 (w.heap.size) 4 _ _ q0
    have m0 := cell_of_row W1 (w.heap.size + 1) 0 _ _ _ q1
    have m1 := cell_of_row W1 (w.heap.size + 1) 1 _ _ _ q1
    have m2 := cell_of_row W1 (w.heap.size + 1) 2 _ _ _ q1
    have m3 := cell_of_row W1 (w.heap.size + 1) 3 _ _ _ q1
    have m4 := cell_of_row W1 (w.heap.size + 1) 4 _ _ _ q1
    have mf0 := frozen_of_row W1 (w.heap.size + 1) 0 _ _ q1
    have mf1 := frozen_of_row W1 (w.heap.size + 1) 1 _ _ q1
    have mf2 := frozen_of_row W1 (w.heap.size + 1) 2 _ _ q1
    have mf3 := frozen_of_row W1 (w.heap.size + 1) 3 _ _ q1
    have mf4 := frozen_of_row W1 (w.heap.size + 1) 4 _ _ q1
    have hS2 := h2.below hW1
    obtain ⟨s0, hs, hsz0, hsz1, hsz2⟩ := info_parts infoStr
    obtain ⟨b0, hb, hbz0, hbz1, hbz2⟩ := info_parts infoBool
    clear e0 e1 e2 e3 e4 ef0 ef1 ef2 ef3 ef4 m0 m1 m2 m3 m4 mf0 mf1 mf2 mf3 mf4
    have tok1 : True := trivial
    have HX := Lib.hid hX
    have HW1 := Lib.hid (And.intro hW1 (And.intro hs1 (And.intro q0 (And.intro q1 hS2))))
    have HH := Lib.hid (And.intro h1 h3)
    clear hW1 q0 q1 hS2 h1 h2 h3 hh hX
    have qa := (Below.heap_alloc W1 (.cells #[] 9) w.heap.size (by omega)).trans HW1.out.2.2.1
    have a0 := cell_of_row (W1.alloc (.cells #[] 9)) (w.heap.size) 0 _ _ _ qa
    have a1 := cell_of_row (W1.alloc (.cells #[] 9)) (w.heap.size) 1 _ _ _ qa
    have a2 := cell_of_row (W1.alloc (.cells #[] 9)) (w.heap.size) 2 _ _ _ qa
    have a3 := cell_of_row (W1.alloc (.cells #[] 9)) (w.heap.size) 3 _ _ _ qa
    have a4 := cell_of_row (W1.alloc (.cells #[] 9)) (w.heap.size) 4 _ _ _ qa
    have af0 := frozen_of_row (W1.alloc (.cells #[] 9)) (w.heap.size) 0 _ _ qa
    have af1 := frozen_of_row (W1.alloc (.cells #[] 9)) (w.heap.size) 1 _ _ qa
    have af2 := frozen_of_row (W1.alloc (.cells #[] 9)) (w.heap.size) 2 _ _ qa
    have af3 := frozen_of_row (W1.alloc (.cells #[] 9)) (w.heap.size) 3 _ _ qa
    have af4 := frozen_of_row (W1.alloc (.cells #[] 9)) (w.heap.size) 4 _ _ qa
    clear qa
    go_wp2_with (first
      | (at_builtin; have _t := tok1; go_loud (refine wpList_appR _ rfl (.tmp 32) (.tmp 34) _ rfl W1.heap.size 9 s0 _ 1 16 Try.underlying30 hs hsz0 hsz1 hsz2 rfl (by omega) (.slice (some ⟨W1.heap.size, 0, none⟩) 0 0) 0 [] rfl (own_lit0 W1 (Nat.le_refl _)) (W1.heap.size + 1) A2 R.now.length c2 (strs R.now) rfl (by simp) ((HW1.out.2.2.2.2.below ((Below.refl _ _).alloc (Nat.le_refl _) _)).1.more (by simp)) (strs_one _) (by have := HK.out.fresh; have := HK.out.n; omega) (by omega) (by simp) ?_; intro v2 w2 hown2 hg2 hat2; rw [Nat.zero_add, List.nil_append] at hown2; have hB2 := append0_below hg2; clear hg2 hat2; have s2 := hB2.size; obtain ⟨g2, cv2, rfl, hg21, hg22, hvc2, hvm2⟩ := own_form hown2 HI.out.1; have p0 := (hB2.block w.heap.size (by omega)).trans HW1.out.2.2.1; have p1 := (hB2.block (w.heap.size + 1) (by omega)).trans HW1.out.2.2.2.1; have k1 := cell_of_row w2 (w.heap.size) 1 _ _ _ p0; have kf1 := frozen_of_row w2 (w.heap.size) 1 _ _ p0; have r0 := (Below.heap_alloc (w2.setCell ⟨w.heap.size, 1, none⟩ (.slice (some ⟨g2, 0, none⟩) R.now.length cv2)) (.cells #[] 4) w.heap.size (by simp [World.setCell]; omega)).trans (heap_setCell_same w2 w.heap.size 1 _ _ (.slice (some ⟨g2, 0, none⟩) R.now.length cv2) p0); have j2 := cell_of_row ((w2.setCell ⟨w.heap.size, 1, none⟩ (.slice (some ⟨g2, 0, none⟩) R.now.length cv2)).alloc (.cells #[] 4)) (w.heap.size) 2 _ _ _ r0; have bUA : Below w.heap.size w ((w2.setCell ⟨w.heap.size, 1, none⟩ (.slice (some ⟨g2, 0, none⟩) R.now.length cv2)).alloc (.cells #[] 4)) := ((HW1.out.1.trans (lower' hB2 (by omega))).setCell (by simp) _).alloc (by simp [World.setCell]; omega) _; have hrF := (HH.out.2.below bUA).1; have su2 : (w2.setCell ⟨w.heap.size, 1, none⟩ (.slice (some ⟨g2, 0, none⟩) R.now.length cv2)).heap.size = w2.heap.size := (by simp [World.setCell]); have ol := own_lit0' (e := 4) (size := 1) (w2.setCell ⟨w.heap.size, 1, none⟩ (.slice (some ⟨g2, 0, none⟩) R.now.length cv2)) su2; clear tok1 _t))
      | (at_builtin; go_loud (refine wpList_appR _ rfl (.tmp 37) (.tmp 39) _ rfl w2.heap.size 4 b0 _ 1 1 Try.underlying31 hb hbz0 hbz1 hbz2 rfl (by omega) (.slice (some ⟨w2.heap.size, 0, none⟩) 0 0) 0 [] rfl ol ((w2.setCell ⟨w.heap.size, 1, none⟩ (.slice (some ⟨g2, 0, none⟩) R.now.length cv2)).alloc (.cells #[] 4)).heap.size A3 R.fresh.length c3 (bools R.fresh) rfl (by simp) hrF (bools_one _) (by have := HK.out.fresh; have := HK.out.n; omega) (by omega) (by simp) ?_; intro v3 w3 hown3 hg3 hat3; rw [Nat.zero_add, List.nil_append] at hown3; have hB3 := append0_below' su2 hg3; clear hg3 hat3; have s3 := hB3.size; rw [su2] at s3; obtain ⟨g3, cv3, rfl, hg31, hg32, hvc3, hvm3⟩ := own_form hown3 HI.out.2; have t0 := (hB3.block w.heap.size (by omega)).trans (heap_setCell_same w2 w.heap.size 1 _ _ (.slice (some ⟨g2, 0, none⟩) R.now.length cv2) p0); have t1 := (hB3.block (w.heap.size + 1) (by omega)).trans ((Below.heap_setCell w2 ⟨w.heap.size, 1, none⟩ (.slice (some ⟨g2, 0, none⟩) R.now.length cv2) (w.heap.size + 1) (by simp)).trans p1); have x2 := cell_of_row w3 (w.heap.size) 2 _ _ _ t0; have xf2 := frozen_of_row w3 (w.heap.size) 2 _ _ t0; have u0 := heap_setCell_same w3 w.heap.size 2 _ _ (.slice (some ⟨g3, 0, none⟩) R.fresh.length cv3) t0; have u1 := (Below.heap_setCell w3 ⟨w.heap.size, 2, none⟩ (.slice (some ⟨g3, 0, none⟩) R.fresh.length cv3) (w.heap.size + 1) (by simp)).trans t1; have y1 := cell_of_row (w3.setCell ⟨w.heap.size, 2, none⟩ (.slice (some ⟨g3, 0, none⟩) R.fresh.length cv3)) (w.heap.size) 1 _ _ _ u0; have o2 := own_keptBy (own_below (own_keptBy hown2 (grown_set w2 w.heap.size 1 (.slice (some ⟨g2, 0, none⟩) R.now.length cv2)) (by omega)) hB3 (by omega)) (grown_set w3 w.heap.size 2 (.slice (some ⟨g3, 0, none⟩) R.fresh.length cv3)) (by omega); have o3 := own_keptBy hown3 (grown_set w3 w.heap.size 2 (.slice (some ⟨g3, 0, none⟩) R.fresh.length cv3)) (by omega); have z2 := World.ownsRow.cellAt o2 i (by have := HI2.out; omega); have zf2 := World.ownsRow.frozenAt o2 i; rw [strs_get R.now i (by have := HI2.out; omega)] at z2; have o2' := (World.ownsRow.stored o2 i (.string ⟨l.toArray⟩)).1; have o3' := own_keptBy o3 (World.ownsRow.stored o2 i (.string ⟨l.toArray⟩)).2 (by omega); have u0' := (Below.heap_setCell (w3.setCell ⟨w.heap.size, 2, none⟩ (.slice (some ⟨g3, 0, none⟩) R.fresh.length cv3)) ⟨g2, i, none⟩ (.string ⟨l.toArray⟩) w.heap.size (by show w.heap.size ≠ g2; omega)).trans u0; have u1' := (Below.heap_setCell (w3.setCell ⟨w.heap.size, 2, none⟩ (.slice (some ⟨g3, 0, none⟩) R.fresh.length cv3)) ⟨g2, i, none⟩ (.string ⟨l.toArray⟩) (w.heap.size + 1) (by show w.heap.size + 1 ≠ g2; omega)).trans u1; have n2 := cell_of_row ((w3.setCell ⟨w.heap.size, 2, none⟩ (.slice (some ⟨g3, 0, none⟩) R.fresh.length cv3)).setCell ⟨g2, i, none⟩ (.string ⟨l.toArray⟩)) (w.heap.size) 2 _ _ _ u0'; have z3 := World.ownsRow.cellAt o3' i (by have := HI2.out; have := HK.out.fresh; omega); have zf3 := World.ownsRow.frozenAt o3' i; rw [bools_get R.fresh i (by have := HI2.out; have := HK.out.fresh; omega)] at z3; have o3'' := (World.ownsRow.stored o3' i (.bool true)).1; have o2'' := World.ownsRow.kept o2' (World.ownsRow.stored o3' i (.bool true)).2 (.inr (by simp [Value.ownBlock]; omega)); have u0'' := (Below.heap_setCell ((w3.setCell ⟨w.heap.size, 2, none⟩ (.slice (some ⟨g3, 0, none⟩) R.fresh.length cv3)).setCell ⟨g2, i, none⟩ (.string ⟨l.toArray⟩)) ⟨g3, i, none⟩ (.bool true) w.heap.size (by show w.heap.size ≠ g3; omega)).trans u0'; have u1'' := (Below.heap_setCell ((w3.setCell ⟨w.heap.size, 2, none⟩ (.slice (some ⟨g3, 0, none⟩) R.fresh.length cv3)).setCell ⟨g2, i, none⟩ (.string ⟨l.toArray⟩)) ⟨g3, i, none⟩ (.bool true) (w.heap.size + 1) (by show w.heap.size + 1 ≠ g3; omega)).trans u1'; have cc0 := cell_of_row (((w3.setCell ⟨w.heap.size, 2, none⟩ (.slice (some ⟨g3, 0, none⟩) R.fresh.length cv3)).setCell ⟨g2, i, none⟩ (.string ⟨l.toArray⟩)).setCell ⟨g3, i, none⟩ (.bool true)) (w.heap.size) 0 _ _ _ u0''; have cc1 := cell_of_row (((w3.setCell ⟨w.heap.size, 2, none⟩ (.slice (some ⟨g3, 0, none⟩) R.fresh.length cv3)).setCell ⟨g2, i, none⟩ (.string ⟨l.toArray⟩)).setCell ⟨g3, i, none⟩ (.bool true)) (w.heap.size) 1 _ _ _ u0''; have cc2 := cell_of_row (((w3.setCell ⟨w.heap.size, 2, none⟩ (.slice (some ⟨g3, 0, none⟩) R.fresh.length cv3)).setCell ⟨g2, i, none⟩ (.string ⟨l.toArray⟩)).setCell ⟨g3, i, none⟩ (.bool true)) (w.heap.size) 2 _ _ _ u0''; have cc3 := cell_of_row (((w3.setCell ⟨w.heap.size, 2, none⟩ (.slice (some ⟨g3, 0, none⟩) R.fresh.length cv3)).setCell ⟨g2, i, none⟩ (.string ⟨l.toArray⟩)).setCell ⟨g3, i, none⟩ (.bool true)) (w.heap.size) 3 _ _ _ u0''; have cc4 := cell_of_row (((w3.setCell ⟨w.heap.size, 2, none⟩ (.slice (some ⟨g3, 0, none⟩) R.fresh.length cv3)).setCell ⟨g2, i, none⟩ (.string ⟨l.toArray⟩)).setCell ⟨g3, i, none⟩ (.bool true)) (w.heap.size) 4 _ _ _ u0''; have cm0 := cell_of_row (((w3.setCell ⟨w.heap.size, 2, none⟩ (.slice (some ⟨g3, 0, none⟩) R.fresh.length cv3)).setCell ⟨g2, i, none⟩ (.string ⟨l.toArray⟩)).setCell ⟨g3, i, none⟩ (.bool true)) (w.heap.size + 1) 0 _ _ _ u1''; have cm1 := cell_of_row (((w3.setCell ⟨w.heap.size, 2, none⟩ (.slice (some ⟨g3, 0, none⟩) R.fresh.length cv3)).setCell ⟨g2, i, none⟩ (.string ⟨l.toArray⟩)).setCell ⟨g3, i, none⟩ (.bool true)) (w.heap.size + 1) 1 _ _ _ u1''; have cm2 := cell_of_row (((w3.setCell ⟨w.heap.size, 2, none⟩ (.slice (some ⟨g3, 0, none⟩) R.fresh.length cv3)).setCell ⟨g2, i, none⟩ (.string ⟨l.toArray⟩)).setCell ⟨g3, i, none⟩ (.bool true)) (w.heap.size + 1) 2 _ _ _ u1''; have cm3 := cell_of_row (((w3.setCell ⟨w.heap.size, 2, none⟩ (.slice (some ⟨g3, 0, none⟩) R.fresh.length cv3)).setCell ⟨g2, i, none⟩ (.string ⟨l.toArray⟩)).setCell ⟨g3, i, none⟩ (.bool true)) (w.heap.size + 1) 3 _ _ _ u1''; have cm4 := cell_of_row (((w3.setCell ⟨w.heap.size, 2, none⟩ (.slice (some ⟨g3, 0, none⟩) R.fresh.length cv3)).setCell ⟨g2, i, none⟩ (.string ⟨l.toArray⟩)).setCell ⟨g3, i, none⟩ (.bool true)) (w.heap.size + 1) 4 _ _ _ u1''; have cmf0 := frozen_of_row (((w3.setCell ⟨w.heap.size, 2, none⟩ (.slice (some ⟨g3, 0, none⟩) R.fresh.length cv3)).setCell ⟨g2, i, none⟩ (.string ⟨l.toArray⟩)).setCell ⟨g3, i, none⟩ (.bool true)) (w.heap.size + 1) 0 _ _ u1''; have cmf1 := frozen_of_row (((w3.setCell ⟨w.heap.size, 2, none⟩ (.slice (some ⟨g3, 0, none⟩) R.fresh.length cv3)).setCell ⟨g2, i, none⟩ (.string ⟨l.toArray⟩)).setCell ⟨g3, i, none⟩ (.bool true)) (w.heap.size + 1) 1 _ _ u1''; have cmf2 := frozen_of_row (((w3.setCell ⟨w.heap.size, 2, none⟩ (.slice (some ⟨g3, 0, none⟩) R.fresh.length cv3)).setCell ⟨g2, i, none⟩ (.string ⟨l.toArray⟩)).setCell ⟨g3, i, none⟩ (.bool true)) (w.heap.size + 1) 2 _ _ u1''; have cmf3 := frozen_of_row (((w3.setCell ⟨w.heap.size, 2, none⟩ (.slice (some ⟨g3, 0, none⟩) R.fresh.length cv3)).setCell ⟨g2, i, none⟩ (.string ⟨l.toArray⟩)).setCell ⟨g3, i, none⟩ (.bool true)) (w.heap.size + 1) 3 _ _ u1''; have cmf4 := frozen_of_row (((w3.setCell ⟨w.heap.size, 2, none⟩ (.slice (some ⟨g3, 0, none⟩) R.fresh.length cv3)).setCell ⟨g2, i, none⟩ (.string ⟨l.toArray⟩)).setCell ⟨g3, i, none⟩ (.bool true)) (w.heap.size + 1) 4 _ _ u1''))
      | go_in)
    have fF : Fr (((w3.setCell ⟨w.heap.size, 2, none⟩ (.slice (some ⟨g3, 0, none⟩) R.fresh.length cv3)).setCell ⟨g2, i, none⟩ (.string ⟨l.toArray⟩)).setCell ⟨g3, i, none⟩ (.bool true)) ((((((((w3.setCell ⟨w.heap.size, 2, none⟩ (.slice (some ⟨g3, 0, none⟩) R.fresh.length cv3)).setCell ⟨g2, i, none⟩ (.string ⟨l.toArray⟩)).setCell ⟨g3, i, none⟩ (.bool true)).setCell ⟨w.heap.size + 1, 0, none⟩ (.slice A1 R.sure.length c1)).setCell ⟨w.heap.size + 1, 1, none⟩ (.slice (some ⟨g2, 0, none⟩) R.now.length cv2)).setCell ⟨w.heap.size + 1, 2, none⟩ (.slice (some ⟨g3, 0, none⟩) R.fresh.length cv3)).setCell ⟨w.heap.size + 1, 3, none⟩ (.int .i64 (stepS R.steps R.left))).setCell ⟨w.heap.size + 1, 4, none⟩ (.int .i64 (stepL R.left))) [w.heap.size + 1] := (((((Fr.refl _ _).setCell (by simp) _).setCell (by simp) _).setCell (by simp) _).setCell (by simp) _).setCell (by simp) _
    have b5 : Below w.heap.size w (((w3.setCell ⟨w.heap.size, 2, none⟩ (.slice (some ⟨g3, 0, none⟩) R.fresh.length cv3)).setCell ⟨g2, i, none⟩ (.string ⟨l.toArray⟩)).setCell ⟨g3, i, none⟩ (.bool true)) := ((((HW1.out.1.trans (lower' hB2 (by omega))).setCell (by simp) _).trans (lower' hB3 (by omega))).setCell (by simp) _ |>.setCell (by show w.heap.size ≤ g2; omega) _).setCell (by show w.heap.size ≤ g3; omega) _
    have hBf : Below w.heap.size w ((((((((w3.setCell ⟨w.heap.size, 2, none⟩ (.slice (some ⟨g3, 0, none⟩) R.fresh.length cv3)).setCell ⟨g2, i, none⟩ (.string ⟨l.toArray⟩)).setCell ⟨g3, i, none⟩ (.bool true)).setCell ⟨w.heap.size + 1, 0, none⟩ (.slice A1 R.sure.length c1)).setCell ⟨w.heap.size + 1, 1, none⟩ (.slice (some ⟨g2, 0, none⟩) R.now.length cv2)).setCell ⟨w.heap.size + 1, 2, none⟩ (.slice (some ⟨g3, 0, none⟩) R.fresh.length cv3)).setCell ⟨w.heap.size + 1, 3, none⟩ (.int .i64 (stepS R.steps R.left))).setCell ⟨w.heap.size + 1, 4, none⟩ (.int .i64 (stepL R.left))) := b5.trans (fF.below (by have := b5.size; omega) (by simp))
    obtain ⟨Ax, cx, ex, _, _, sx⟩ := own_sl o2'' (X := (w.heap.size + 1) :: w.heap.size :: X) (ext_X HX.out (by omega))
    obtain ⟨Ay, cy, ey, _, _, sy⟩ := own_sl o3'' (X := (w.heap.size + 1) :: w.heap.size :: X) (ext_X HX.out (by omega))
    cases ex
    cases ey
    refine bodyPost_ret (resWrite (set5 u1'' _ _ _ _ _) _ rfl) rfl ⟨dv A1 (some ⟨g2, 0, none⟩) (some ⟨g3, 0, none⟩) R.sure.length R.now.length R.fresh.length c1 cv2 cv3 (stepS R.steps R.left) (stepL R.left), ?_, ?_, hBf⟩
    · rfl
    · refine ⟨A1, some ⟨g2, 0, none⟩, some ⟨g3, 0, none⟩, c1, cv2, cv3, by simp [dv], HH.out.1.below hBf, ?_, ?_⟩
      · rw [strs_set]; exact (sx.fr fF (by simp)).sub (fun y hy => by simp [hy])
      · rw [bools_set]; exact (sy.fr fF (by simp)).sub (fun y hy => by simp [hy])
theorem rwrite_any (w : World) (X : List Nat) (R : RD) (v : Value) (h : RefV w X R v) (hk : R.Ok) (hX : ∀ x ∈ X, x < w.heap.size) (i : Int) (l : List UInt8) :
    Calls Try.prog 19 #[v, .int .i64 i, .string ⟨l.toArray⟩] w fun e w' => ∃ v', e = .returned (.tuple #[v', .int .i64 (R.writeE i l)]) ∧ RefV w' X (R.writeM i l) v' ∧ Below w.heap.size w w' := by
  by_cases hb : R.writeBad i l
  · have e1 : R.writeE i l = 1 := if_pos hb
    have e2 : R.writeM i l = R := if_pos hb
    rw [e1, e2]
    exact rwrite_bad w X R v h i l hb
  · have hi : 0 ≤ i ∧ i < R.now.length := Classical.not_not.1 fun h => hb (.inl h)
    have hl : l.length = 64 := Classical.not_not.1 fun h => hb (.inr h)
    obtain ⟨k, rfl⟩ : ∃ k : Nat, i = k := ⟨i.toNat, by omega⟩
    have e1 : R.writeE (k : Int) l = if R.left = 0 then 30 else 0 := if_neg hb
    have e2 : R.writeM (k : Int) l = if R.left = 0 then R else ⟨R.sure, R.now.set k l, R.fresh.set k true, stepS R.steps R.left, stepL R.left⟩ := if_neg hb
    rw [e1, e2]
    exact rwrite_good w X R v h hk hX k l (by omega) hl
end Go.Proofs.Ytdjcpjfomgfjlaa
/- The document's disk: zero, New. -/
namespace Go.Proofs.Ytdjcpjfomgfjlaa
open Go.RowKit Go.Maps

set_option maxRecDepth 100000 in
theorem zero_any (w : World) : Calls Try.prog 37 #[] w fun e w' => e = .returned (.string ⟨zero64.toArray⟩) ∧ w' = w.alloc (.cells (u8s zero64).toArray 5) := by
  have hmk := make64 w
  have rN : Rd (w.alloc (.cells (u8s zero64).toArray 5)) (w.heap.size + 1) (some ⟨w.heap.size, 0, none⟩) (u8s zero64) := Rd.new w (u8s zero64).toArray 5 (0, 0)
  have q3 := strAt (n := 64) (c := 64) rN zero64_len.symm
  clear rN
  go_enter Try.func37, Try.ntmps37
  go_wp2
  go_ret
  exact ⟨rfl, rfl⟩
theorem resNew {w : World} {b : Nat} {v0 v1 v2 v3 v4 : Value} (h : w.heap[b]? = some (.cells #[v0, v1, v2, v3, v4] 33 (0, 0))) (tmps : Array Value) (h2 : tmps.getD 2 undef = .pointer (some ⟨b, 0, none⟩)) :
    (results Try.f8 tmps).run Try.prog w = .ok (.tuple #[.agg #[v0, v1, v2, v3, v4], tmps.getD 3 undef]) w := by
  have e0 : w.cell? ⟨b, 0, none⟩ = some v0 := cell_of_row w b 0 _ _ _ h
  have e1 : w.cell? ⟨b, 1, none⟩ = some v1 := cell_of_row w b 1 _ _ _ h
  have e2 : w.cell? ⟨b, 2, none⟩ = some v2 := cell_of_row w b 2 _ _ _ h
  have e3 : w.cell? ⟨b, 3, none⟩ = some v3 := cell_of_row w b 3 _ _ _ h
  have e4 : w.cell? ⟨b, 4, none⟩ = some v4 := cell_of_row w b 4 _ _ _ h
  have h2' := h2
  simp only [Array.getD_eq_getD_getElem?] at h2'
  simp [results, Try.results8, go_sem, h2', e0, e1, e2, e3, e4]

/-- Two rows that a disk's maker appends to, in the block b of the disk. -/
structure Mk (w0 w : World) (b : Nat) (base : Nat) (vs vn v2 v3 v4 : Value) (ns : Nat) (S : List Value) (nn : Nat) (N : List Value) : Prop where
  below : Below w0.heap.size w0 w
  blk : w.heap[b]? = some (.cells #[vs, vn, v2, v3, v4] 33)
  lt : b < base
  size : base ≤ w.heap.size
  s : w.ownsRow base 9 1 vs ns S
  n : w.ownsRow base 9 1 vn nn N
  apart : vs.ownBlock = none ∨ vs.ownBlock ≠ vn.ownBlock
  apart2 : vn.ownBlock = none ∨ vn.ownBlock ≠ vs.ownBlock
/-- Behind an append to the first. -/
theorem Mk.app0 {w0 w w1 w2 : World} {b base ns nn : Nat} {vs vn v2 v3 v4 v' : Value} {S N S' : List Value} (h : Mk w0 w b base vs vn v2 v3 v4 ns S nn N) (h1 : Below w.heap.size w w1) (hown : w2.ownsRow base 9 1 v' (ns + 1) S') (hg : w1.grownBy w2 vs.ownBlock) (ha : v'.ownBlock = vs.ownBlock ∨ v'.ownBlock = some w1.heap.size) (hw0 : w0.heap.size ≤ b) :
    Mk w0 (w2.setCell ⟨b, 0, none⟩ v') b base v' vn v2 v3 v4 (ns + 1) S' nn N ∧ ∀ k, k < base → k ≠ b → (w2.setCell ⟨b, 0, none⟩ v').heap[k]? = w.heap[k]? := by
  have hsz := h.size
  have hlt := h.lt
  have z1 := h1.size
  have z2 := hg.size
  have hvs : ∀ k, vs.ownBlock = some k → base ≤ k := fun k hk => (World.ownsRow.lt h.s k hk).1
  have hvn : ∀ k, vn.ownBlock = some k → base ≤ k ∧ k < w.heap.size := fun k hk => World.ownsRow.lt h.n k hk
  have hbk : ∀ k, k < base → w2.heap[k]? = w.heap[k]? := fun k hk => (hg.block k (by omega) (fun e => by have := hvs k e.symm; omega)).trans (h1.block k (by omega))
  have hs2 : (w2.setCell ⟨b, 0, none⟩ v').heap.size = w2.heap.size := by simp [World.setCell]
  have n2 : w2.ownsRow base 9 1 vn nn N := World.ownsRow.kept (own_below h.n h1 (Nat.le_refl _)) hg h.apart2
  refine ⟨⟨?_, heap_setCell_same w2 b 0 _ _ v' ((hbk b hlt).trans h.blk), hlt, by omega, own_keptBy hown (grown_set w2 b 0 v') hlt, own_keptBy n2 (grown_set w2 b 0 v') hlt, ?_, ?_⟩, fun k hk hkb => (Below.heap_setCell _ _ _ _ (by exact hkb)).trans (hbk k hk)⟩
  · have hwb := h.below.size
    refine ((h.below.trans (lower' h1 hwb)).trans (grown_below' hg (fun k hk => ?_) (by omega))).setCell (by exact hw0) _
    have := hvs k hk; omega
  · rcases ha with e | e
    · rw [e]; exact h.apart
    · right; rw [e]; intro e2; have := hvn _ e2.symm; omega
  · rcases ha with e | e
    · rw [e]; exact h.apart2
    · right; rw [e]; intro e2; have := hvn _ e2; omega
/-- Behind an append to the second. -/
theorem Mk.app1 {w0 w w1 w2 : World} {b base ns nn : Nat} {vs vn v2 v3 v4 v' : Value} {S N N' : List Value} (h : Mk w0 w b base vs vn v2 v3 v4 ns S nn N) (h1 : Below w.heap.size w w1) (hown : w2.ownsRow base 9 1 v' (nn + 1) N') (hg : w1.grownBy w2 vn.ownBlock) (ha : v'.ownBlock = vn.ownBlock ∨ v'.ownBlock = some w1.heap.size) (hw0 : w0.heap.size ≤ b) :
    Mk w0 (w2.setCell ⟨b, 1, none⟩ v') b base vs v' v2 v3 v4 ns S (nn + 1) N' ∧ ∀ k, k < base → k ≠ b → (w2.setCell ⟨b, 1, none⟩ v').heap[k]? = w.heap[k]? := by
  have hsz := h.size
  have hlt := h.lt
  have z1 := h1.size
  have z2 := hg.size
  have hvs : ∀ k, vs.ownBlock = some k → base ≤ k ∧ k < w.heap.size := fun k hk => World.ownsRow.lt h.s k hk
  have hvn : ∀ k, vn.ownBlock = some k → base ≤ k ∧ k < w.heap.size := fun k hk => World.ownsRow.lt h.n k hk
  have hbk : ∀ k, k < base → w2.heap[k]? = w.heap[k]? := fun k hk => (hg.block k (by omega) (fun e => by have := (hvn k e.symm).1; omega)).trans (h1.block k (by omega))
  have hs2 : (w2.setCell ⟨b, 1, none⟩ v').heap.size = w2.heap.size := by simp [World.setCell]
  have n2 : w2.ownsRow base 9 1 vs ns S := World.ownsRow.kept (own_below h.s h1 (Nat.le_refl _)) hg h.apart
  refine ⟨⟨?_, heap_setCell_same w2 b 1 _ _ v' ((hbk b hlt).trans h.blk), hlt, by omega, own_keptBy n2 (grown_set w2 b 1 v') hlt, own_keptBy hown (grown_set w2 b 1 v') hlt, ?_, ?_⟩, fun k hk hkb => (Below.heap_setCell _ _ _ _ (by exact hkb)).trans (hbk k hk)⟩
  · have hwb := h.below.size
    refine ((h.below.trans (lower' h1 hwb)).trans (grown_below' hg (fun k hk => ?_) (by omega))).setCell (by exact hw0) _
    have := (hvn k hk).1; omega
  · rcases ha with e | e
    · rw [e]; exact h.apart
    · right; rw [e]; intro e2; have := (hvs _ e2).2; omega
  · rcases ha with e | e
    · rw [e]; exact h.apart2
    · right; rw [e]; intro e2; have := (hvs _ e2.symm).2; omega
theorem strs_rep (k : Nat) : strs (List.replicate k zero64) ++ [.string ⟨zero64.toArray⟩] = strs (List.replicate (k + 1) zero64) := by
  rw [List.replicate_succ']; simp [strs]
def RD.new (n : Nat) : RD := ⟨List.replicate n zero64, List.replicate n zero64, List.replicate n false, 0, -1⟩
set_option maxRecDepth 100000 in
set_option maxHeartbeats 2000000 in
theorem rnew_any (w : World) (n : Nat) (X : List Nat) (hX : ∀ x ∈ X, x < w.heap.size) (h1 : 1 ≤ n) (h2 : n ≤ 4096) :
    Calls Try.prog 8 #[.int .i64 (n : Int)] w fun e w' => ∃ v', e = .returned (.tuple #[v', .int .i64 0]) ∧ RefV w' X (RD.new n) v' ∧ Below w.heap.size w w' := by
  have hn1 : ¬ ((n : Int) < 1) := by omega
  have hn2 : ¬ (4096 < (n : Int)) := by omega
  have hmk := makeBools n h2 (w.alloc (.cells #[.slice none 0 0, .slice none 0 0, .slice none 0 0, .int .i64 0, .int .i64 0] 33))
  have HN := Lib.hid (And.intro h1 h2)
  go_enter Try.func8, Try.ntmps8
  go_wp2_with go_in
  have m0 : Mk w (((w.alloc (.cells #[.slice none 0 0, .slice none 0 0, .slice none 0 0, .int .i64 0, .int .i64 0] 33)).alloc (.cells (bools (List.replicate n false)).toArray 4)).alloc (.cells #[.slice none 0 0, .slice none 0 0, (.slice (some ⟨w.heap.size + 1, 0, none⟩) n n), .int .i64 0, .int .i64 (-1)] 33)) (w.heap.size + 1 + 1) (w.heap.size + 3) (.slice none 0 0) (.slice none 0 0) (.slice (some ⟨w.heap.size + 1, 0, none⟩) n n) (.int .i64 0) (.int .i64 (-1)) 0 [] 0 [] :=
    ⟨(((Below.refl _ _).alloc (Nat.le_refl _) _).alloc (by simp) _).alloc (by simp; omega) _, by have := heap_alloc_new ((w.alloc (.cells #[.slice none 0 0, .slice none 0 0, .slice none 0 0, .int .i64 0, .int .i64 0] 33)).alloc (.cells (bools (List.replicate n false)).toArray 4)) (.cells #[.slice none 0 0, .slice none 0 0, (.slice (some ⟨w.heap.size + 1, 0, none⟩) n n), .int .i64 0, .int .i64 (-1)] 33); simp only [alloc1_size] at this; exact this, by omega, by simp, World.ownsRow_nil _ _ _ _, World.ownsRow_nil _ _ _ _, .inl rfl, .inl rfl⟩
  obtain ⟨g0, g1⟩ := two_new w (.cells #[.slice none 0 0, .slice none 0 0, .slice none 0 0, .int .i64 0, .int .i64 0] 33) (.cells (bools (List.replicate n false)).toArray 4)
  have d0 := (Below.heap_alloc ((w.alloc (.cells #[.slice none 0 0, .slice none 0 0, .slice none 0 0, .int .i64 0, .int .i64 0] 33)).alloc (.cells (bools (List.replicate n false)).toArray 4)) (.cells #[.slice none 0 0, .slice none 0 0, (.slice (some ⟨w.heap.size + 1, 0, none⟩) n n), .int .i64 0, .int .i64 (-1)] 33) w.heap.size (by simp; omega)).trans g0
  have d1 := (Below.heap_alloc ((w.alloc (.cells #[.slice none 0 0, .slice none 0 0, .slice none 0 0, .int .i64 0, .int .i64 0] 33)).alloc (.cells (bools (List.replicate n false)).toArray 4)) (.cells #[.slice none 0 0, .slice none 0 0, (.slice (some ⟨w.heap.size + 1, 0, none⟩) n n), .int .i64 0, .int .i64 (-1)] 33) (w.heap.size + 1) (by simp)).trans g1
  have HZ := Lib.hid (And.intro m0 (And.intro d0 d1))
  clear m0 g0 g1 d0 d1 hmk
  generalize (((w.alloc (.cells #[.slice none 0 0, .slice none 0 0, .slice none 0 0, .int .i64 0, .int .i64 0] 33)).alloc (.cells (bools (List.replicate n false)).toArray 4)).alloc (.cells #[.slice none 0 0, .slice none 0 0, (.slice (some ⟨w.heap.size + 1, 0, none⟩) n n), .int .i64 0, .int .i64 (-1)] 33)) = W at HZ ⊢
  go_loopw [5] (fun i wr => ∃ (k : Nat) (vs vn : Value), k ≤ n ∧ i = .int .i64 (k : Int) ∧ Mk w wr (w.heap.size + 1 + 1) (w.heap.size + 3) vs vn (.slice (some ⟨w.heap.size + 1, 0, none⟩) n n) (.int .i64 0) (.int .i64 (-1)) k (strs (List.replicate k zero64)) k (strs (List.replicate k zero64)) ∧ wr.heap[w.heap.size]? = some (.cells #[.slice none 0 0, .slice none 0 0, .slice none 0 0, .int .i64 0, .int .i64 0] 33) ∧ wr.heap[w.heap.size + 1]? = some (.cells (bools (List.replicate n false)).toArray 4))
    (fun i _ => n - (intOf i).toNat)
  case atStart => exact ⟨0, _, _, by omega, rfl, HZ.out.1, HZ.out.2.1, HZ.out.2.2⟩
  case round =>
    obtain ⟨k, vs, vn, hk, rfl, hm, hd0, hd1⟩ := hrel
    by_cases hkn : k < n
    · have hkI : (k : Int) < (n : Int) := by omega
      obtain ⟨As, cs, rfl, _, _, _⟩ := own_shape hm.s
      obtain ⟨An, cn, rfl, _, _, _⟩ := own_shape hm.n
      obtain ⟨i0, hi, hz0, hz1, hz2⟩ := info_parts infoStr
      have HK := Lib.hid hkn
      have hm1 := hm
      have hda1 := hd0
      have hdb1 := hd1
      clear hm hd0 hd1
      have ca := cell_of_row wr (w.heap.size + 1 + 1) 0 _ _ _ hm1.blk
      have hlta : w.heap.size + 1 + 1 < wr.heap.size := by have := hm1.lt; have := hm1.size; omega
      have hKSa : ∀ w' : World, Below wr.heap.size wr w' → w'.cell? ⟨w.heap.size + 1 + 1, 0, none⟩ = some (.slice As k cs) := fun w' h => by
        rw [← (show wr.cell? ⟨w.heap.size + 1 + 1, 0, none⟩ = some (.slice As k cs) from ca)]
        exact h.cell (p := ⟨w.heap.size + 1 + 1, 0, none⟩) hlta
      have hOa : (((wr.alloc (.cells (u8s zero64).toArray 5)).alloc (.cells #[.string ⟨zero64.toArray⟩] 9)).drew).ownsRow (w.heap.size + 3) 9 1 (.slice As k cs) k (strs (List.replicate k zero64)) := (World.ownsRow.alloc (World.ownsRow.alloc hm1.s _) _)
      have hRNa : Rd (((wr.alloc (.cells (u8s zero64).toArray 5)).alloc (.cells #[.string ⟨zero64.toArray⟩] 9)).drew) (wr.heap.size + 2) (some ⟨wr.heap.size + 1, 0, none⟩) [.string ⟨zero64.toArray⟩] := by
        have := (Rd.new (wr.alloc (.cells (u8s zero64).toArray 5)) #[.string ⟨zero64.toArray⟩] 9 (0, 0)).drew
        rw [alloc1_size] at this
        exact this
      obtain ⟨va, wa, hruna, howna, hga, haa⟩ := run_appR (P := Try.prog) (((wr.alloc (.cells (u8s zero64).toArray 5)).alloc (.cells #[.string ⟨zero64.toArray⟩] 9)).drew) (w.heap.size + 3) 30 30 9 i0 _ 1 16 Try.underlying30 hi hz0 hz1 hz2 rfl (by omega) (.slice As k cs) k (strs (List.replicate k zero64)) hOa (wr.heap.size + 2) (some ⟨wr.heap.size + 1, 0, none⟩) 1 1 [.string ⟨zero64.toArray⟩] rfl hRNa (by simp [Value.oneCell']) (by have := HN.out; have := HK.out; omega) (by omega) (by have := hm1.size; simp; omega)
      obtain ⟨ga, c5a, rfl, _, _, _, _⟩ := own_form howna (by omega)
      have hmxa := hm1.app0 (w1 := ((wr.alloc (.cells (u8s zero64).toArray 5)).alloc (.cells #[.string ⟨zero64.toArray⟩] 9)).drew) (((Below.refl _ _).alloc (Nat.le_refl _) _).alloc (by simp) _).drew howna hga haa (by omega)
      have hoba := ((hga.block (w.heap.size + 1 + 1) (by simp; omega) (by intro e; have := hm1.lt; have := (World.ownsRow.lt hm1.s _ e.symm).1; omega)).trans ((((Below.refl _ _).alloc (Nat.le_refl _) (.cells (u8s zero64).toArray 5)).alloc (by simp) (.cells #[.string ⟨zero64.toArray⟩] 9)).block (w.heap.size + 1 + 1) hlta |>.trans hm1.blk))
      have e5a := cell_of_row wa (w.heap.size + 1 + 1) 0 _ _ _ hoba
      have f5a := frozen_of_row wa (w.heap.size + 1 + 1) 0 _ _ hoba
      have HMXa := Lib.hid (And.intro hmxa (And.intro ((hmxa.2 w.heap.size (by omega) (by omega)).trans hda1) ((hmxa.2 (w.heap.size + 1) (by omega) (by omega)).trans hdb1)))
      have k0a := hKSa _ (Below.refl _ wr)
      have k1a := hKSa _ ((Below.refl _ wr).alloc (Nat.le_refl _) (.cells (u8s zero64).toArray 5))
      have k2a := hKSa _ (((Below.refl _ wr).alloc (Nat.le_refl _) (.cells (u8s zero64).toArray 5)).alloc (by simp) (.cells #[.string ⟨zero64.toArray⟩] 9))
      clear hmxa howna hga haa hoba hKSa ca hOa hRNa hm1 hda1 hdb1 hlta
      go_upto_region 7 with go_in
      go_region_law (first
          | (go_simp; go_at_call 37; (refine (zero_any _).mono ?_); rintro e wz ⟨rfl, rfl⟩; dsimp only)
          | (refine step_appK _ (by rfl) (.tmp 22) (.tmp 24) 30 rfl rfl _ _ _ _ rfl rfl hruna ?_))
      all_goals
        obtain ⟨⟨hm2, _⟩, hda2, hdb2⟩ := HMXa.out
        rw [strs_rep] at hm2
        clear k0a k1a k2a e5a f5a hruna HMXa
        generalize wa.setCell ⟨w.heap.size + 1 + 1, 0, none⟩ (.slice (some ⟨ga, 0, none⟩) (k + 1) c5a) = wr2 at hm2 hda2 hdb2 ⊢
        have cb := cell_of_row wr2 (w.heap.size + 1 + 1) 1 _ _ _ hm2.blk
        have hltb : w.heap.size + 1 + 1 < wr2.heap.size := by have := hm2.lt; have := hm2.size; omega
        have hKSb : ∀ w' : World, Below wr2.heap.size wr2 w' → w'.cell? ⟨w.heap.size + 1 + 1, 1, none⟩ = some (.slice An k cn) := fun w' h => by
          rw [← (show wr2.cell? ⟨w.heap.size + 1 + 1, 1, none⟩ = some (.slice An k cn) from cb)]
          exact h.cell (p := ⟨w.heap.size + 1 + 1, 1, none⟩) hltb
        have hOb : (((wr2.alloc (.cells (u8s zero64).toArray 5)).alloc (.cells #[.string ⟨zero64.toArray⟩] 9)).drew).ownsRow (w.heap.size + 3) 9 1 (.slice An k cn) k (strs (List.replicate k zero64)) := (World.ownsRow.alloc (World.ownsRow.alloc hm2.n _) _)
        have hRNb : Rd (((wr2.alloc (.cells (u8s zero64).toArray 5)).alloc (.cells #[.string ⟨zero64.toArray⟩] 9)).drew) (wr2.heap.size + 2) (some ⟨wr2.heap.size + 1, 0, none⟩) [.string ⟨zero64.toArray⟩] := by
          have := (Rd.new (wr2.alloc (.cells (u8s zero64).toArray 5)) #[.string ⟨zero64.toArray⟩] 9 (0, 0)).drew
          rw [alloc1_size] at this
          exact this
        obtain ⟨vb, wb, hrunb, hownb, hgb, hab⟩ := run_appR (P := Try.prog) (((wr2.alloc (.cells (u8s zero64).toArray 5)).alloc (.cells #[.string ⟨zero64.toArray⟩] 9)).drew) (w.heap.size + 3) 30 30 9 i0 _ 1 16 Try.underlying30 hi hz0 hz1 hz2 rfl (by omega) (.slice An k cn) k (strs (List.replicate k zero64)) hOb (wr2.heap.size + 2) (some ⟨wr2.heap.size + 1, 0, none⟩) 1 1 [.string ⟨zero64.toArray⟩] rfl hRNb (by simp [Value.oneCell']) (by have := HN.out; have := HK.out; omega) (by omega) (by have := hm2.size; simp; omega)
        obtain ⟨gb, c5b, rfl, _, _, _, _⟩ := own_form hownb (by omega)
        have hmxb := hm2.app1 (w1 := ((wr2.alloc (.cells (u8s zero64).toArray 5)).alloc (.cells #[.string ⟨zero64.toArray⟩] 9)).drew) (((Below.refl _ _).alloc (Nat.le_refl _) _).alloc (by simp) _).drew hownb hgb hab (by omega)
        have hobb := ((hgb.block (w.heap.size + 1 + 1) (by simp; omega) (by intro e; have := hm2.lt; have := (World.ownsRow.lt hm2.n _ e.symm).1; omega)).trans ((((Below.refl _ _).alloc (Nat.le_refl _) (.cells (u8s zero64).toArray 5)).alloc (by simp) (.cells #[.string ⟨zero64.toArray⟩] 9)).block (w.heap.size + 1 + 1) hltb |>.trans hm2.blk))
        have e5b := cell_of_row wb (w.heap.size + 1 + 1) 1 _ _ _ hobb
        have f5b := frozen_of_row wb (w.heap.size + 1 + 1) 1 _ _ hobb
        have HMXb := Lib.hid (And.intro hmxb (And.intro ((hmxb.2 w.heap.size (by omega) (by omega)).trans hda2) ((hmxb.2 (w.heap.size + 1) (by omega) (by omega)).trans hdb2)))
        have k0b := hKSb _ (Below.refl _ wr2)
        have k1b := hKSb _ ((Below.refl _ wr2).alloc (Nat.le_refl _) (.cells (u8s zero64).toArray 5))
        have k2b := hKSb _ (((Below.refl _ wr2).alloc (Nat.le_refl _) (.cells (u8s zero64).toArray 5)).alloc (by simp) (.cells #[.string ⟨zero64.toArray⟩] 9))
        clear hmxb hownb hgb hab hobb hKSb cb hOb hRNb hm2 hda2 hdb2 hltb
        go_upto_region 8 with go_in
        go_region_law (first
            | (go_simp; go_at_call 37; (refine (zero_any _).mono ?_); rintro e wz ⟨rfl, rfl⟩; dsimp only)
            | (refine step_appK _ (by rfl) (.tmp 28) (.tmp 30) 30 rfl rfl _ _ _ _ rfl rfl hrunb ?_))
        all_goals
          obtain ⟨⟨hm3, _⟩, hda3, hdb3⟩ := HMXb.out
          rw [strs_rep] at hm3
          go_wp2_with go_in
          exact ⟨⟨k + 1, _, _, HK.out, by simp, hm3, hda3, hdb3⟩, by simp [intOf]; have := HK.out; omega⟩
    · obtain rfl : k = n := by omega
      have hX2 : ∀ x ∈ w.heap.size :: X, x < w.heap.size + 3 := by
        intro x hx
        rcases List.mem_cons.1 hx with rfl | hx
        · omega
        · have := hX x hx; omega
      obtain ⟨As, cs, rfl, _, _, sA⟩ := own_sl hm.s hX2
      obtain ⟨An, cn, rfl, _, _, sN⟩ := own_sl hm.n hX2
      have k0 := cell_of_row wr (w.heap.size + 1 + 1) 0 _ _ _ hm.blk
      have k1 := cell_of_row wr (w.heap.size + 1 + 1) 1 _ _ _ hm.blk
      have k2 := cell_of_row wr (w.heap.size + 1 + 1) 2 _ _ _ hm.blk
      have k3 := cell_of_row wr (w.heap.size + 1 + 1) 3 _ _ _ hm.blk
      have k4 := cell_of_row wr (w.heap.size + 1 + 1) 4 _ _ _ hm.blk
      have z0 := cell_of_row wr (w.heap.size) 0 _ _ _ hd0
      have z1 := cell_of_row wr (w.heap.size) 1 _ _ _ hd0
      have z2 := cell_of_row wr (w.heap.size) 2 _ _ _ hd0
      have z3 := cell_of_row wr (w.heap.size) 3 _ _ _ hd0
      have z4 := cell_of_row wr (w.heap.size) 4 _ _ _ hd0
      have zf0 := frozen_of_row wr (w.heap.size) 0 _ _ hd0
      have zf1 := frozen_of_row wr (w.heap.size) 1 _ _ hd0
      have zf2 := frozen_of_row wr (w.heap.size) 2 _ _ hd0
      have zf3 := frozen_of_row wr (w.heap.size) 3 _ _ hd0
      have zf4 := frozen_of_row wr (w.heap.size) 4 _ _ hd0
      have hkI : ¬ ((k : Int) < (k : Int)) := by omega
      have HM := Lib.hid (And.intro hm (And.intro hd0 (And.intro hd1 (And.intro sA sN))))
      clear hm hd0 hd1 sA sN
      go_wp2_with go_in
      have fF : Fr wr (((((wr.setCell ⟨w.heap.size, 0, none⟩ (.slice As k cs)).setCell ⟨w.heap.size, 1, none⟩ (.slice An k cn)).setCell ⟨w.heap.size, 2, none⟩ (.slice (some ⟨w.heap.size + 1, 0, none⟩) k k)).setCell ⟨w.heap.size, 3, none⟩ (.int .i64 0)).setCell ⟨w.heap.size, 4, none⟩ (.int .i64 (-1))) [w.heap.size] := (((((Fr.refl _ _).setCell (by simp) _).setCell (by simp) _).setCell (by simp) _).setCell (by simp) _).setCell (by simp) _
      have hBf : Below w.heap.size w (((((wr.setCell ⟨w.heap.size, 0, none⟩ (.slice As k cs)).setCell ⟨w.heap.size, 1, none⟩ (.slice An k cn)).setCell ⟨w.heap.size, 2, none⟩ (.slice (some ⟨w.heap.size + 1, 0, none⟩) k k)).setCell ⟨w.heap.size, 3, none⟩ (.int .i64 0)).setCell ⟨w.heap.size, 4, none⟩ (.int .i64 (-1))) := HM.out.1.below.trans (fF.below (by have := HM.out.1.below.size; omega) (by simp))
      have sF : Sl wr (w.heap.size :: X) (some ⟨w.heap.size + 1, 0, none⟩) (bools (List.replicate k false)) := by
        refine ⟨fun hn => ⟨w.heap.size + 1, 0, rfl, heap_lt HM.out.2.2.1, fun j u hu => ?_⟩, fun a ha => by cases ha; intro hx; rcases List.mem_cons.1 hx with h | h; exact absurd h (by simp); exact absurd (hX _ h) (by show ¬ (w.heap.size + 1 < w.heap.size); omega)⟩
        rw [cell_of_row wr (w.heap.size + 1) (0 + j) _ _ _ HM.out.2.2.1]
        simpa using hu
      refine bodyPost_ret (resNew (set5 HM.out.2.1 _ _ _ _ _) _ rfl) rfl ⟨dv As An (some ⟨w.heap.size + 1, 0, none⟩) k k k cs cn k 0 (-1), rfl, ?_, hBf⟩
      exact ⟨As, An, some ⟨w.heap.size + 1, 0, none⟩, cs, cn, k, by simp [dv, RD.new], (HM.out.2.2.2.1.fr fF (by simp)).sub (fun y hy => by simp [hy]), (HM.out.2.2.2.2.fr fF (by simp)).sub (fun y hy => by simp [hy]), (sF.fr fF (by simp)).sub (fun y hy => by simp [hy])⟩
end Go.Proofs.Ytdjcpjfomgfjlaa
/- The document's disk: Unsure; whether two lists of numbers are the same. -/
namespace Go.Proofs.Ytdjcpjfomgfjlaa
open Go.RowKit Go.Maps

/-- Those of the first k that are fresh. -/
def upto (F : List Bool) (k : Nat) : List Nat := (List.range k).filter fun i => F.getD i false
theorem upto_succ (F : List Bool) (k : Nat) : upto F (k + 1) = upto F k ++ if F.getD k false then [k] else [] := by
  unfold upto
  rw [List.range_succ, List.filter_append]
  congr 1
  by_cases h : F.getD k false = true
  · rw [if_pos h, List.filter_cons, if_pos h]; rfl
  · rw [if_neg h, List.filter_cons, if_neg h]; rfl
theorem upto_len (F : List Bool) (k : Nat) : (upto F k).length ≤ k := by
  unfold upto
  refine Nat.le_trans (List.length_filter_le _ _) (by simp)

set_option maxRecDepth 100000 in
set_option maxHeartbeats 2000000 in
theorem runsure_any (w : World) (X : List Nat) (R : RD) (v : Value) (h : RefV w X R v) (hn : R.fresh.length ≤ 4096) :
    Calls Try.prog 59 #[v] w fun e w' => ∃ v', e = .returned v' ∧ w'.ownsRow w.heap.size 3 1 v' (upto R.fresh R.fresh.length).length (ints (upto R.fresh R.fresh.length)) ∧ Below w.heap.size w w' := by
  obtain ⟨A1, A2, A3, c1, c2, c3, rfl, h1, h2, h3⟩ := h
  obtain ⟨i0, hi, hz0, hz1, hz2⟩ := info_parts infoInt
  have hb0 : Below w.heap.size w (w.alloc (.cells #[.slice A1 R.sure.length c1, .slice A2 R.now.length c2, .slice A3 R.fresh.length c3, .int .i64 R.steps, .int .i64 R.left] 33)) := (Below.refl _ _).alloc (Nat.le_refl _) _
  have g0 := heap_alloc_new w (.cells #[.slice A1 R.sure.length c1, .slice A2 R.now.length c2, .slice A3 R.fresh.length c3, .int .i64 R.steps, .int .i64 R.left] 33)
  have s0 := alloc1_size w (.cells #[.slice A1 R.sure.length c1, .slice A2 R.now.length c2, .slice A3 R.fresh.length c3, .int .i64 R.steps, .int .i64 R.left] 33)
  have HZ := Lib.hid (And.intro hb0 (And.intro g0 (And.intro s0 (And.intro (h3.below hb0) hn))))
  clear h1 h2 h3 hb0 g0 s0 hn
  go_enter Try.func59, Try.ntmps59
  go_wp2_with go_in
  generalize w.alloc (.cells #[.slice A1 R.sure.length c1, .slice A2 R.now.length c2, .slice A3 R.fresh.length c3, .int .i64 R.steps, .int .i64 R.left] 33) = W at HZ ⊢
  go_loopw [3, 4, 8] (fun o _ i wr => ∃ k : Nat, k ≤ R.fresh.length ∧ i = .int .i64 (k : Int) ∧ wr.ownsRow W.heap.size 3 1 o (upto R.fresh k).length (ints (upto R.fresh k)) ∧ Below W.heap.size W wr)
    (fun _ _ i _ => R.fresh.length - (intOf i).toNat)
  case atStart => exact ⟨0, by omega, rfl, by have := World.ownsRow_nil W W.heap.size 3 1; simpa [upto, ints] using this, Below.refl _ _⟩
  case round =>
    obtain ⟨k, hk, rfl, ho, hb⟩ := hrel
    by_cases hkl : k < R.fresh.length
    · have hkI : (k : Int) < (R.fresh.length : Int) := by omega
      have hkb : (k : Int) < 4096 := by have := HZ.out.2.2.2.2; omega
      have hblk := (hb.block w.heap.size (by rw [HZ.out.2.2.1]; omega)).trans HZ.out.2.1
      have b2 := cell_of_row wr w.heap.size 2 _ _ _ hblk
      obtain ⟨fb, fo, rfl, hfb, hfc⟩ := ((HZ.out.2.2.2.1.below hb).1).get (k := k) (by simpa using hkl)
      have hf : wr.cell? ⟨fb, fo + k, none⟩ = some (.bool R.fresh[k]) := by
        rw [hfc]; simp [bools]
      have hlen := upto_len R.fresh k
      have hup := upto_succ R.fresh k
      have hgd : R.fresh.getD k false = R.fresh[k] := by simp [List.getD, hkl]
      rw [hgd] at hup
      obtain ⟨b, hbe⟩ : ∃ b, b = R.fresh[k] := ⟨_, rfl⟩
      rw [← hbe] at hf hup
      have HX := Lib.hid (And.intro ho (And.intro hb (And.intro hkl hup)))
      obtain ⟨Ao, co, rfl, _, _, _⟩ := own_shape ho
      clear hblk hfc hfb ho hb hup hgd hbe
      cases b with
      | true =>
        have hup := HX.out.2.2.2
        rw [if_pos rfl] at hup
        have HU := Lib.hid hup
        have HN := Lib.hid HZ.out.2.2.2.2
        have HS := Lib.hid HX.out.2.1.size
        have HO := Lib.hid hlen
        clear hup hlen
        go_wp2_with (first
          | (at_builtin; refine wpList_appR _ rfl (.tmp 16) (.tmp 18) _ rfl W.heap.size 3 i0 _ 1 8 Try.underlying88 hi hz0 hz1 hz2 rfl (by omega) (.slice Ao (upto R.fresh k).length co) (upto R.fresh k).length (ints (upto R.fresh k)) rfl (World.ownsRow.alloc HX.out.1 _) (wr.heap.size + 1) (some ⟨wr.heap.size, 0, none⟩) 1 1 [.int .i64 (k : Int)] rfl rfl (Rd.new wr #[.int .i64 (k : Int)] 3 (0, 0)) (by simp [Value.oneCell']) (by have := HO.out; have := HN.out; omega) (by omega) (by have := HS.out; simp; omega) ?_; intro v2 w2 hown2 hg2 hat2)
          | go_in)
        rw [ints_snoc, ← HU.out] at hown2
        have hl : (upto R.fresh k).length + 1 = (upto R.fresh (k + 1)).length := by rw [HU.out]; simp
        rw [hl] at hown2
        refine ⟨⟨k + 1, HX.out.2.2.1, by simp, hown2, ?_⟩, by simp [intOf]; have := HX.out.2.2.1; omega⟩
        exact (HX.out.2.1.alloc HX.out.2.1.size _).trans (grown_below' hg2 (fun j hj => (World.ownsRow.lt HX.out.1 j hj).1) (by have := HS.out; simp; omega))
      | false =>
        have hup := HX.out.2.2.2
        rw [if_neg (by simp), List.append_nil] at hup
        have HU := Lib.hid hup
        clear hup hlen
        go_wp2_with go_in
        refine ⟨⟨k + 1, HX.out.2.2.1, by simp, ?_, HX.out.2.1⟩, by simp [intOf]; have := HX.out.2.2.1; omega⟩
        rw [HU.out]
        exact HX.out.1
    · obtain rfl : k = R.fresh.length := by omega
      have HX := Lib.hid (And.intro ho hb)
      clear ho hb
      go_wp2_with go_in
      go_ret
      exact ⟨_, rfl, own_mono HX.out.1 (by rw [HZ.out.2.2.1]; omega), HZ.out.1.trans (lower' HX.out.2 (by rw [HZ.out.2.2.1]; omega))⟩
end Go.Proofs.Ytdjcpjfomgfjlaa
/- Lists of numbers that are the same. -/
namespace Go.Proofs.Ytdjcpjfomgfjlaa
open Go.RowKit Go.Maps

set_option maxRecDepth 100000 in
set_option maxHeartbeats 2000000 in
theorem ints_same (w : World) (A B : Option Addr) (L : List Nat) (c d b1 b2 : Nat) (h1 : Rd w b1 A (ints L)) (h2 : Rd w b2 B (ints L)) (hb1 : b1 ≤ w.heap.size) (hb2 : b2 ≤ w.heap.size) (hl : L.length ≤ 4096) :
    Calls Try.prog 58 #[.slice A L.length c, .slice B L.length d] w fun e w' => e = .returned (.bool true) ∧ Below w.heap.size w w' := by
  have HH := Lib.hid (And.intro h1 (And.intro h2 (And.intro hb1 (And.intro hb2 hl))))
  clear h1 h2 hb1 hb2 hl
  go_enter Try.func58, Try.ntmps58
  go_wp2_with go_in
  go_loopw [5, 13] (fun _ i wr => ∃ k : Nat, k ≤ L.length ∧ i = .int .i64 (k : Int) ∧ Below w.heap.size w wr)
    (fun _ i _ => L.length - (intOf i).toNat)
  case atStart => exact ⟨0, by omega, rfl, Below.refl _ _⟩
  case round =>
    obtain ⟨k, hk, rfl, hb⟩ := hrel
    by_cases hkl : k < L.length
    · have hkI : (k : Int) < (L.length : Int) := by omega
      have hkb : (k : Int) < 4096 := by have := HH.out.2.2.2.2; omega
      obtain ⟨p1, o1, rfl, hp1, hc1⟩ := HH.out.1.get (k := k) (by simpa using hkl)
      obtain ⟨p2, o2, rfl, hp2, hc2⟩ := HH.out.2.1.get (k := k) (by simpa using hkl)
      have e1 : wr.cell? ⟨p1, o1 + k, none⟩ = some (.int .i64 (L[k] : Int)) := by
        rw [← ints_get L k hkl, ← hc1]; exact hb.cell (p := ⟨p1, o1 + k, none⟩) (by have := HH.out.2.2.1; show p1 < _; omega)
      have e2 : wr.cell? ⟨p2, o2 + k, none⟩ = some (.int .i64 (L[k] : Int)) := by
        rw [← ints_get L k hkl, ← hc2]; exact hb.cell (p := ⟨p2, o2 + k, none⟩) (by have := HH.out.2.2.2.1; show p2 < _; omega)
      obtain ⟨x, hx⟩ : ∃ x, x = L[k] := ⟨_, rfl⟩
      rw [← hx] at e1 e2
      have HB := Lib.hid (And.intro hb hkl)
      clear hb hkl hc1 hc2 hp1 hp2 hx
      go_upto_region 6 with go_in
      go_quiet (fail)
      go_wp2_with go_in
      exact ⟨⟨k + 1, HB.out.2, by simp, Below.drewN' HB.out.1 _⟩, by simp [intOf]; have := HB.out.2; omega⟩
    · obtain rfl : k = L.length := by omega
      have HB := Lib.hid hb
      clear hb
      go_wp2_with go_in
      go_ret
      exact ⟨rfl, HB.out⟩
end Go.Proofs.Ytdjcpjfomgfjlaa
