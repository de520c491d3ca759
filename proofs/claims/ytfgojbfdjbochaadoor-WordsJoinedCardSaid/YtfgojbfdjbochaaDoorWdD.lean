/- (*words.splitter).sign, letter. -/
import Derived.Test.YtfgojbfdjbochaaDoorWdC
import Derived.Laws.Runes
namespace Go.Proofs.YtfgojbfdjbochaaDoor
open Go.RowKit Go.Maps

theorem SB.fault {w : World} {p lo : Nat} {ws : List Wd} {wi : Nat} {pl f : Nat × Nat} (h : SB w p lo ws wi pl f) (hp : p < lo) (q : Nat × Nat) : SB ((w.setCell ⟨p, 4, none⟩ (.int .i64 (q.1 : Int))).setCell ⟨p, 5, none⟩ (.int .i64 (q.2 : Int))) p lo ws wi pl q := by
  obtain ⟨A, c, h1, h2⟩ := h
  have g1 := heap_setCell_same w p 4 _ _ (.int .i64 (q.1 : Int)) h1
  have g2 := heap_setCell_same _ p 5 _ _ (.int .i64 (q.2 : Int)) g1
  refine ⟨A, c, by simpa using g2, own_keptBy (g := p) h2 (grown_of_fr (((Fr.refl w [p]).setCell (p := ⟨p, 4, none⟩) (by simp) _).setCell (p := ⟨p, 5, none⟩) (by simp) _)) hp⟩
theorem SB.within {w : World} {p lo : Nat} {ws : List Wd} {wi : Nat} {pl f : Nat × Nat} (h : SB w p lo ws wi pl f) (hp : p < lo) (k : Nat) : SB (w.setCell ⟨p, 1, none⟩ (.int .i64 (k : Int))) p lo ws k pl f := by
  obtain ⟨A, c, h1, h2⟩ := h
  have g1 := heap_setCell_same w p 1 _ _ (.int .i64 (k : Int)) h1
  exact ⟨A, c, by simpa using g1, own_keptBy (g := p) h2 (grown_of_fr ((Fr.refl w [p]).setCell (p := ⟨p, 1, none⟩) (by simp) _)) hp⟩
theorem SB.place {w : World} {p lo : Nat} {ws : List Wd} {wi : Nat} {pl f : Nat × Nat} (h : SB w p lo ws wi pl f) (hp : p < lo) (q : Nat × Nat) : SB ((w.setCell ⟨p, 2, none⟩ (.int .i64 (q.1 : Int))).setCell ⟨p, 3, none⟩ (.int .i64 (q.2 : Int))) p lo ws wi q f := by
  obtain ⟨A, c, h1, h2⟩ := h
  have g1 := heap_setCell_same w p 2 _ _ (.int .i64 (q.1 : Int)) h1
  have g2 := heap_setCell_same _ p 3 _ _ (.int .i64 (q.2 : Int)) g1
  refine ⟨A, c, by simpa using g2, own_keptBy (g := p) h2 (grown_of_fr (((Fr.refl w [p]).setCell (p := ⟨p, 2, none⟩) (by simp) _).setCell (p := ⟨p, 3, none⟩) (by simp) _)) hp⟩
theorem SB.drew {w : World} {p lo : Nat} {ws : List Wd} {wi : Nat} {pl f : Nat × Nat} (h : SB w p lo ws wi pl f) : SB w.drew p lo ws wi pl f := h
/-- The cells of a splitter. -/
theorem SB.cells {w : World} {p lo : Nat} {ws : List Wd} {wi : Nat} {pl f : Nat × Nat} (h : SB w p lo ws wi pl f) :
    (w.cell? ⟨p, 1, none⟩ = some (.int .i64 (wi : Int)) ∧ w.cell? ⟨p, 2, none⟩ = some (.int .i64 (pl.1 : Int)) ∧ w.cell? ⟨p, 3, none⟩ = some (.int .i64 (pl.2 : Int)) ∧ w.cell? ⟨p, 4, none⟩ = some (.int .i64 (f.1 : Int)) ∧ w.cell? ⟨p, 5, none⟩ = some (.int .i64 (f.2 : Int))) ∧
    (w.frozen? ⟨p, 0, none⟩ = false ∧ w.frozen? ⟨p, 1, none⟩ = false ∧ w.frozen? ⟨p, 2, none⟩ = false ∧ w.frozen? ⟨p, 3, none⟩ = false ∧ w.frozen? ⟨p, 4, none⟩ = false ∧ w.frozen? ⟨p, 5, none⟩ = false) ∧ p < w.heap.size := by
  obtain ⟨A, c, h1, h2⟩ := h
  exact ⟨⟨cell_of_row w _ 1 _ _ _ h1, cell_of_row w _ 2 _ _ _ h1, cell_of_row w _ 3 _ _ _ h1, cell_of_row w _ 4 _ _ _ h1, cell_of_row w _ 5 _ _ _ h1⟩,
    ⟨frozen_of_row w _ 0 _ _ h1, frozen_of_row w _ 1 _ _ h1, frozen_of_row w _ 2 _ _ h1, frozen_of_row w _ 3 _ _ h1, frozen_of_row w _ 4 _ _ h1, frozen_of_row w _ 5 _ _ h1⟩, heap_lt h1⟩

set_option maxRecDepth 100000 in
set_option maxHeartbeats 2000000 in
theorem sign_no (p lo : Nat) (ws : List Wd) (wi : Nat) (pl f q : Nat × Nat) (r : Nat) (w : World) (hS : SB w p lo ws wi pl f) (hp : p < lo) (hlo : lo ≤ w.heap.size) (hs : sgn r = []) :
    Calls Tryd.prog 28 #[.pointer (some ⟨p, 0, none⟩), .int .i32 (r : Int), .agg #[.int .i64 (q.1 : Int), .int .i64 (q.2 : Int)]] w fun e w' => e = .returned (.bool false) ∧ SB w' p lo ws wi pl q ∧ Kp lo p w w' := by
  have g1 := heap_alloc_new w (.cells #[.int .i64 (q.1 : Int), .int .i64 (q.2 : Int)] 50)
  have hb : Below w.heap.size w (w.alloc (.cells #[.int .i64 (q.1 : Int), .int .i64 (q.2 : Int)] 50)) := (Below.refl _ _).alloc (Nat.le_refl _) _
  have hsg := signOf_any r
  rw [hs] at hsg
  have HC := Lib.hid hsg
  clear hsg hs
  go_enter Tryd.func28, Tryd.ntmps28
  go_upto_region 1 with (fail)
  obtain ⟨n, hn⟩ : ∃ n, n = w.heap.size := ⟨_, rfl⟩
  rw [← hn] at g1 ⊢
  generalize w.alloc (.cells #[.int .i64 (q.1 : Int), .int .i64 (q.2 : Int)] 50) = W at g1 hb ⊢
  have hSW := hS.below hb
  obtain ⟨⟨_, _, _, z4, z5⟩, ⟨_, _, _, _, f4, f5⟩, hpW⟩ := hSW.cells
  have c0 : W.cell? ⟨n, 0, none⟩ = some (.int .i64 (q.1 : Int)) := cell_of_row W _ 0 _ _ _ g1
  have c1 : W.cell? ⟨n, 1, none⟩ = some (.int .i64 (q.2 : Int)) := cell_of_row W _ 1 _ _ _ g1
  have HZ := Lib.hid (And.intro (hSW.fault hp q) (((Kp.of_below (p := p) hb hlo).setP 4 (.int .i64 (q.1 : Int))).setP 5 (.int .i64 (q.2 : Int))))
  clear hSW hS hb g1 hpW hn
  go_wp2_with (go_at_call 31; (with_reducible refine (HC.out _).mono ?_); rintro e w' ⟨rfl, rfl⟩)

  go_ret
  exact ⟨rfl, HZ.out⟩

set_option maxRecDepth 100000 in
set_option maxHeartbeats 2000000 in
theorem sign_yes (p lo : Nat) (ws : List Wd) (wi : Nat) (pl f q : Nat × Nat) (r : Nat) (w : World) (hS : SB w p lo ws wi pl f) (hp : p < lo) (hlo : lo ≤ w.heap.size) (hn : ws.length ≤ 100000) (hs : sgn r ≠ []) :
    Calls Tryd.prog 28 #[.pointer (some ⟨p, 0, none⟩), .int .i32 (r : Int), .agg #[.int .i64 (q.1 : Int), .int .i64 (q.2 : Int)]] w fun e w' => e = .returned (.bool true) ∧ SB w' p lo (ws ++ [⟨false, sgn r, q.1, q.2⟩]) wi pl f ∧ Kp lo p w w' := by
  have g1 := heap_alloc_new w (.cells #[.int .i64 (q.1 : Int), .int .i64 (q.2 : Int)] 50)
  have hb : Below w.heap.size w (w.alloc (.cells #[.int .i64 (q.1 : Int), .int .i64 (q.2 : Int)] 50)) := (Below.refl _ _).alloc (Nat.le_refl _) _
  have HC := Lib.hid (signOf_any r)
  obtain ⟨X, hX⟩ : ∃ X, X = sgn r := ⟨_, rfl⟩
  rw [← hX] at HC hs ⊢
  have hbe : (X == ([] : List UInt8)) = false := beq_bytes hs
  clear hX hs
  go_enter Tryd.func28, Tryd.ntmps28
  go_upto_region 1 with (fail)
  obtain ⟨n, hnn⟩ : ∃ n, n = w.heap.size := ⟨_, rfl⟩
  have hlo' : lo ≤ (w.alloc (.cells #[.int .i64 (q.1 : Int), .int .i64 (q.2 : Int)] 50)).heap.size := by have := hb.size; omega
  rw [← hnn] at g1 ⊢
  generalize w.alloc (.cells #[.int .i64 (q.1 : Int), .int .i64 (q.2 : Int)] 50) = W at g1 hb hlo' ⊢
  have HA := Lib.hid (add_any p lo ws wi pl f ⟨false, X, q.1, q.2⟩ W (hS.below hb) hp hlo' hn)
  have c0 : W.cell? ⟨n, 0, none⟩ = some (.int .i64 (q.1 : Int)) := cell_of_row W _ 0 _ _ _ g1
  have c1 : W.cell? ⟨n, 1, none⟩ = some (.int .i64 (q.2 : Int)) := cell_of_row W _ 1 _ _ _ g1
  have HK := Lib.hid (Kp.of_below (p := p) hb hlo)
  clear hS hb g1 hnn hlo hlo' hn
  go_wp2_with (first
    | (go_at_call 31; (with_reducible refine (HC.out _).mono ?_); rintro e w' ⟨rfl, rfl⟩)
    | (go_at_call 30; (with_reducible refine HA.out.mono ?_); rintro e w' ⟨rfl, h1, h2⟩))
  go_ret
  exact ⟨rfl, h1, HK.out.trans h2⟩
end Go.Proofs.YtfgojbfdjbochaaDoor
