/- What the laws of this layer share: few of some lists. -/
import Derived.Test.YtpfkkmfhafejfaaTupT
namespace Go.Proofs.Ytpfkkmfhafejfaa
open Go.RowKit Go.Maps

theorem few_n (ls : List LV) (w : World) (h : ∀ x ∈ ls, x.Raw w) (hs : ls.length ≤ 10) :
    Calls Try.prog 10 #[.slice (some ⟨w.heap.size, 0, none⟩) ls.length ls.length] (w.alloc (.cells (ls.map LV.val).toArray 22)) fun e w' => e = .returned (.bool (fewB ls)) ∧ Below w.heap.size w w' := by
  have hb : Below w.heap.size w (w.alloc (.cells (ls.map LV.val).toArray 22)) := (Below.refl _ _).alloc (Nat.le_refl _) _
  refine (few_any (some ⟨w.heap.size, 0, none⟩) ls.length ls _ (rd_lit (newA rfl)) (by omega) fun x hx => (h x hx).below hb).mono ?_
  rintro e w' ⟨rfl, rfl⟩
  exact ⟨rfl, hb⟩
theorem few_two (a b : LV) (w : World) (ha : a.Raw w) (hb : b.Raw w) :
    Calls Try.prog 10 #[.slice (some ⟨w.heap.size, 0, none⟩) 2 2] (w.alloc (.cells #[.slice a.A a.ts.length a.c, .slice b.A b.ts.length b.c] 22)) fun e w' => e = .returned (.bool (fewB [a, b])) ∧ Below w.heap.size w w' :=
  few_n [a, b] w (fun x hx => by
    rcases List.mem_cons.1 hx with rfl | hx
    · exact ha
    · rw [List.mem_singleton.1 hx]; exact hb) (by simp)
theorem few_thr (a b c : LV) (w : World) (ha : a.Raw w) (hb : b.Raw w) (hc : c.Raw w) :
    Calls Try.prog 10 #[.slice (some ⟨w.heap.size, 0, none⟩) 3 3] (w.alloc (.cells #[.slice a.A a.ts.length a.c, .slice b.A b.ts.length b.c, .slice c.A c.ts.length c.c] 22)) fun e w' => e = .returned (.bool (fewB [a, b, c])) ∧ Below w.heap.size w w' :=
  few_n [a, b, c] w (fun x hx => by
    rcases List.mem_cons.1 hx with rfl | hx
    · exact ha
    · rcases List.mem_cons.1 hx with rfl | hx
      · exact hb
      · rw [List.mem_singleton.1 hx]; exact hc) (by simp)
theorem few_four (a b c d : LV) (w : World) (ha : a.Raw w) (hb : b.Raw w) (hc : c.Raw w) (hd : d.Raw w) :
    Calls Try.prog 10 #[.slice (some ⟨w.heap.size, 0, none⟩) 4 4] (w.alloc (.cells #[.slice a.A a.ts.length a.c, .slice b.A b.ts.length b.c, .slice c.A c.ts.length c.c, .slice d.A d.ts.length d.c] 22)) fun e w' => e = .returned (.bool (fewB [a, b, c, d])) ∧ Below w.heap.size w w' :=
  few_n [a, b, c, d] w (fun x hx => by
    rcases List.mem_cons.1 hx with rfl | hx
    · exact ha
    · rcases List.mem_cons.1 hx with rfl | hx
      · exact hb
      · rcases List.mem_cons.1 hx with rfl | hx
        · exact hc
        · rw [List.mem_singleton.1 hx]; exact hd) (by simp)
theorem fewB_mem {ls : List LV} (h : fewB ls = true) {x : LV} (hx : x ∈ ls) : fewL x = true := List.all_eq_true.1 h x hx
/-- A box of a delta. -/
def BoxD (w : World) (b : Nat) (x y : LV) : Prop := w.heap[b]? = some (.cells #[.slice x.A x.ts.length x.c, .slice y.A y.ts.length y.c] 35 (0, 0))
theorem BoxD.kept {w w' : World} {b : Nat} {x y : LV} (h : BoxD w b x y) (hb : Below w.heap.size w w') : BoxD w' b x y := (hb.block _ (heap_lt h)).trans h
theorem BoxD.cells {w : World} {b : Nat} {x y : LV} (h : BoxD w b x y) : w.cell? ⟨b, 0, none⟩ = some (.slice x.A x.ts.length x.c) ∧ w.cell? ⟨b, 1, none⟩ = some (.slice y.A y.ts.length y.c) := ⟨cell_of_row w b 0 _ _ _ h, cell_of_row w b 1 _ _ _ h⟩
theorem BoxD.new (w : World) (x y : LV) : BoxD (w.alloc (.cells #[.slice x.A x.ts.length x.c, .slice y.A y.ts.length y.c] 35)) w.heap.size x y := newA rfl
theorem de_fix {w' : World} {lo m : Nat} {x y : LV} (p1 : OwnL w' lo x.val x.ts) (p3 : LtB x m) (p4 : lo ≤ m) (p5 : OwnL w' m y.val y.ts) (h : lo ≤ w'.heap.size) : ∃ k, LtB x k ∧ lo ≤ k ∧ OwnL w' k y.val y.ts ∧ k ≤ w'.heap.size := by
  have q := p1.lt
  refine ⟨min m w'.heap.size, ⟨fun a ha => ?_, fun t ht a ha => ?_⟩, by omega, p5.mono (Nat.min_le_left _ _), Nat.min_le_right _ _⟩
  · have := p3.1 a ha
    have := q.1 a ha
    omega
  · have := p3.2 t ht a ha
    have := q.2 t ht a ha
    omega
end Go.Proofs.Ytpfkkmfhafejfaa
