/- words.place.behind, beginning, isLetter, isBlank, signOf. -/
import Derived.Test.YtfgojbfdjbochaaDoorProg
import Derived.Test.YtfgojbfdjbochaaDoorFr
import Derived.Test.YtfgojbfdjbochaaDoorWdA
import Derived.Deep.CutBlock
namespace Go.Proofs.YtfgojbfdjbochaaDoor
open Go.RowKit Go.Maps

theorem set2 {w : World} {b : Nat} {t : TypeId} {x0 x1 : Value} (h : w.heap[b]? = some (.cells #[x0, x1] t (0, 0))) (v0 v1 : Value) :
    ((w.setCell ⟨b, 0, none⟩ v0).setCell ⟨b, 1, none⟩ v1).heap[b]? = some (.cells #[v0, v1] t (0, 0)) := by
  have h1 := heap_setCell_same w b 0 #[x0, x1] t v0 h
  have h2 := heap_setCell_same _ b 1 _ t v1 h1
  simpa using h2
theorem resBeh {w : World} {b : Nat} {v0 v1 : Value} (h : w.heap[b]? = some (.cells #[v0, v1] 50 (0, 0))) (tmps : Array Value) (h2 : tmps.getD 4 undef = .pointer (some ⟨b, 0, none⟩)) :
    (results Tryd.f22 tmps).run Tryd.prog w = .ok (.agg #[v0, v1]) w := by
  have e0 : w.cell? ⟨b, 0, none⟩ = some v0 := cell_of_row w b 0 _ _ _ h
  have e1 : w.cell? ⟨b, 1, none⟩ = some v1 := cell_of_row w b 1 _ _ _ h
  have h2' := h2
  simp only [Array.getD_eq_getD_getElem?] at h2'
  simp [results, Tryd.results22, go_sem, h2', e0, e1]
theorem resBeg {w : World} {b : Nat} {v0 v1 : Value} (h : w.heap[b]? = some (.cells #[v0, v1] 50 (0, 0))) (tmps : Array Value) (h2 : tmps.getD 0 undef = .pointer (some ⟨b, 0, none⟩)) :
    (results Tryd.f17 tmps).run Tryd.prog w = .ok (.agg #[v0, v1]) w := by
  have e0 : w.cell? ⟨b, 0, none⟩ = some v0 := cell_of_row w b 0 _ _ _ h
  have e1 : w.cell? ⟨b, 1, none⟩ = some v1 := cell_of_row w b 1 _ _ _ h
  have h2' := h2
  simp only [Array.getD_eq_getD_getElem?] at h2'
  simp [results, Tryd.results17, go_sem, h2', e0, e1]

set_option maxRecDepth 100000 in
theorem beginning_any (w : World) : Calls Tryd.prog 17 #[] w fun e w' => e = .returned (.agg #[.int .i64 1, .int .i64 1]) ∧ Below w.heap.size w w' := by
  go_enter Tryd.func17, Tryd.ntmps17
  go_wp2
  exact bodyPost_ret (resBeg (heap_alloc_new _ _) _ rfl) rfl ⟨rfl, (Below.refl _ _).alloc (Nat.le_refl _) _⟩

set_option maxRecDepth 100000 in
theorem behind_any (p : Nat × Nat) (r : Nat) (w : World) (hp : p.1 + p.2 ≤ 1000000000000000) :
    Calls Tryd.prog 22 #[.agg #[.int .i64 (p.1 : Int), .int .i64 (p.2 : Int)], .int .i32 (r : Int)] w fun e w' => e = .returned (.agg #[.int .i64 ((bh p r).1 : Int), .int .i64 ((bh p r).2 : Int)]) ∧ Below w.heap.size w w' := by
  obtain ⟨l, c⟩ := p
  simp only at hp
  by_cases h : r = 10
  · have hE : bh (l, c) r = (l + 1, 1) := if_pos h
    rw [hE]
    subst h
    clear hE
    go_enter Tryd.func22, Tryd.ntmps22
    go_wp2
    refine bodyPost_ret (resBeh (two_new w _ _).2 _ rfl) rfl ⟨?_, ((Below.refl _ _).alloc (Nat.le_refl _) _).alloc (by simp) _⟩
    go_num
  · have h' : ((r : Int) == 10) = false := by rw [beq_eq_false_iff_ne]; omega
    have hE : bh (l, c) r = (l, c + 1) := if_neg h
    rw [hE]
    clear h hE
    go_enter Tryd.func22, Tryd.ntmps22
    go_wp2
    refine bodyPost_ret (resBeh (two_new w _ _).2 _ rfl) rfl ⟨?_, ((Below.refl _ _).alloc (Nat.le_refl _) _).alloc (by simp) _⟩
    go_num

set_option maxRecDepth 100000 in
theorem isLetter_any (r : Nat) (w : World) : Calls Tryd.prog 25 #[.int .i32 (r : Int)] w fun e w' => e = .returned (.bool (decide (isLet r))) ∧ w = w' := by
  by_cases h1 : 97 ≤ r
  · have h1' : (97 : Int) ≤ (r : Int) := by omega
    by_cases h2 : r ≤ 122
    · have h2' : (r : Int) ≤ 122 := by omega
      have hd : decide (isLet r) = true := decide_eq_true ⟨h1, h2⟩
      rw [hd]
      clear h1 h2 hd
      go_enter Tryd.func25, Tryd.ntmps25
      go_wp2
      go_ret
      exact ⟨rfl, rfl⟩
    · have h2' : ¬ (r : Int) ≤ 122 := by omega
      have hd : decide (isLet r) = false := decide_eq_false (fun h => h2 h.2)
      rw [hd]
      clear h1 h2 hd
      go_enter Tryd.func25, Tryd.ntmps25
      go_wp2
      go_ret
      exact ⟨rfl, rfl⟩
  · have h1' : ¬ (97 : Int) ≤ (r : Int) := by omega
    have hd : decide (isLet r) = false := decide_eq_false (fun h => h1 h.1)
    rw [hd]
    clear h1 hd
    go_enter Tryd.func25, Tryd.ntmps25
    go_wp2
    go_ret
    exact ⟨rfl, rfl⟩

theorem neI {r k : Nat} (h : r ≠ k) : ((r : Int) == (k : Int)) = false := by rw [beq_eq_false_iff_ne]; omega
set_option maxRecDepth 100000 in
theorem isBlank_any (r : Nat) (w : World) : Calls Tryd.prog 27 #[.int .i32 (r : Int)] w fun e w' => e = .returned (.bool (decide (isBlk r))) ∧ w = w' := by
  by_cases h : isBlk r
  · rw [decide_eq_true h]
    unfold isBlk at h
    rcases h with rfl | rfl | rfl | rfl | rfl | rfl
    all_goals
      go_enter Tryd.func27, Tryd.ntmps27
      go_wp2
      go_ret
      exact ⟨rfl, rfl⟩
  · rw [decide_eq_false h]
    unfold isBlk at h
    simp only [not_or] at h
    have h1 : ((r : Int) == 9) = false := neI h.1
    have h2 : ((r : Int) == 10) = false := neI h.2.1
    have h3 : ((r : Int) == 13) = false := neI h.2.2.1
    have h4 : ((r : Int) == 32) = false := neI h.2.2.2.1
    have h5 : ((r : Int) == 160) = false := neI h.2.2.2.2.1
    have h6 : ((r : Int) == 12288) = false := neI h.2.2.2.2.2
    clear h
    go_enter Tryd.func27, Tryd.ntmps27
    go_wp2
    go_ret
    exact ⟨rfl, rfl⟩

set_option maxRecDepth 100000 in
theorem signOf_any (r : Nat) (w : World) : Calls Tryd.prog 31 #[.int .i32 (r : Int)] w fun e w' => e = .returned (.string ⟨(sgn r).toArray⟩) ∧ w = w' := by
  by_cases h : r = 40 ∨ r = 41 ∨ r = 44 ∨ r = 8743 ∨ r = 61 ∨ r = 8592 ∨ r = 59
  · rcases h with rfl | rfl | rfl | rfl | rfl | rfl | rfl
    all_goals
      go_enter Tryd.func31, Tryd.ntmps31
      go_wp2
      go_ret
      exact ⟨by rfl, rfl⟩
  · simp only [not_or] at h
    have h1 : ((r : Int) == 40) = false := neI h.1
    have h2 : ((r : Int) == 41) = false := neI h.2.1
    have h3 : ((r : Int) == 44) = false := neI h.2.2.1
    have h4 : ((r : Int) == 8743) = false := neI h.2.2.2.1
    have h5 : ((r : Int) == 61) = false := neI h.2.2.2.2.1
    have h6 : ((r : Int) == 8592) = false := neI h.2.2.2.2.2.1
    have h7 : ((r : Int) == 59) = false := neI h.2.2.2.2.2.2
    have hs : sgn r = [] := by unfold sgn; rw [if_neg h.1, if_neg h.2.1, if_neg (by omega), if_neg (by omega), if_neg (by omega)]
    rw [hs]
    clear h hs
    go_enter Tryd.func31, Tryd.ntmps31
    go_wp2
    go_ret
    exact ⟨rfl, rfl⟩
end Go.Proofs.YtfgojbfdjbochaaDoor
