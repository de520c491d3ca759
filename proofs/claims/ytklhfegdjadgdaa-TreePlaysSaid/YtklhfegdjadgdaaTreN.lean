/- A tree: At. -/
import Derived.Test.YtklhfegdjadgdaaTreM
namespace Go.Proofs.Ytklhfegdjadgdaa
open Go.RowKit Go.Maps

set_option maxRecDepth 100000 in
theorem resAt {w : World} {b : Nat} {v0 v1 : Value} (h : w.heap[b]? = some (.cells #[v0, v1] 42 (0, 0))) (tmps : Array Value) (h4 : tmps.getD 4 undef = .pointer (some ⟨b, 0, none⟩)) :
    (results Try.f20 tmps).run Try.prog w = .ok (.tuple #[.agg #[v0, v1], tmps.getD 5 undef]) w := by
  have e0 : w.cell? ⟨b, 0, none⟩ = some v0 := cell_of_row w b 0 _ _ _ h
  have e1 : w.cell? ⟨b, 1, none⟩ = some v1 := cell_of_row w b 1 _ _ _ h
  have h4' := h4
  simp only [Array.getD_eq_getD_getElem?] at h4'
  simp [results, Try.results20, go_sem, h4', e0, e1]
theorem cutI_one {L : List Pr} {i : Nat} (h : i < L.length) : cutI L (i : Int) ((i : Int) + 1) = [L[i]] := by
  unfold cutI
  rw [show ((i : Int) + 1).toNat = i + 1 by omega, show (i : Int).toNat = i by omega, List.take_succ_eq_append_getElem h, List.drop_left' (by rw [List.length_take]; omega)]
set_option maxRecDepth 100000 in
set_option maxHeartbeats 2000000 in
theorem tat_bad {w : World} {lo p : Nat} {L : List Pr} (h : TreeW w lo p L) (i : Int) (hb : i < 0 ∨ (L.length : Int) ≤ i) :
    Calls Try.prog 20 #[.pointer (some ⟨p, 0, none⟩), .int .i64 i] w fun e w' => e = .returned (.tuple #[.agg #[.slice none 0 0, .slice none 0 0], .int .i64 1]) ∧ Below w.heap.size w w' := by
  have hb0 : Below w.heap.size w (w.alloc (.cells #[.slice none 0 0, .slice none 0 0] 42)) := (Below.refl _ _).alloc (Nat.le_refl _) _
  have hg0 := heap_alloc_new w (.cells #[.slice none 0 0, .slice none 0 0] 42)
  have hl := tlen_any (h.below hb0)
  have HL := Lib.hid hl
  have HG := Lib.hid (And.intro hb0 hg0)
  have c0 := cell_of_row _ w.heap.size 0 _ _ _ hg0
  have f0 := frozen_of_row _ w.heap.size 0 _ _ hg0
  have c1 := cell_of_row _ w.heap.size 1 _ _ _ hg0
  have f1 := frozen_of_row _ w.heap.size 1 _ _ hg0
  obtain ⟨N, hN⟩ : ∃ N, N = L.length := ⟨_, rfl⟩
  rw [← hN] at hb HL
  have hb' : i < 0 ∨ (¬ i < 0 ∧ (N : Int) ≤ i) := by omega
  clear h hb hb0 hg0 hl hN
  rcases hb' with h1 | ⟨h1, h2⟩
  all_goals
    go_enter Try.func20, Try.ntmps20
    go_wp2_with (first
      | (go_at_call 7; (with_reducible refine HL.out.mono ?_); rintro e w1 ⟨rfl, rfl⟩))
    exact bodyPost_ret (resAt HG.out.2 _ rfl) rfl ⟨rfl, HG.out.1⟩
/-- What At leaves. -/
def AtPost (w : World) (q : Pr) (e : Ending) (w' : World) : Prop :=
  ∃ k x : Bs, e = .returned (.tuple #[.agg #[.slice k.A k.l.length k.c, .slice x.A x.l.length x.c], .int .i64 0]) ∧ k.l = q.1 ∧ x.l = q.2 ∧ k.ok w' ∧ x.ok w' ∧ (∀ a, k.A = some a → w.heap.size ≤ a.block) ∧ (∀ a, x.A = some a → w.heap.size ≤ a.block) ∧ Below w.heap.size w w'
set_option maxRecDepth 100000 in
set_option maxHeartbeats 2000000 in
theorem tat_any {w : World} {lo p : Nat} {L : List Pr} (h : TreeW w lo p L) (i : Nat) (hi : i < L.length) (hn : L.length ≤ 1000000) :
    Calls Try.prog 20 #[.pointer (some ⟨p, 0, none⟩), .int .i64 (i : Int)] w (AtPost w L[i]) := by
  have hb0 : Below w.heap.size w (w.alloc (.cells #[.slice none 0 0, .slice none 0 0] 42)) := (Below.refl _ _).alloc (Nat.le_refl _) _
  have hg0 := heap_alloc_new w (.cells #[.slice none 0 0, .slice none 0 0] 42)
  have hs0 := alloc1_size w (.cells #[.slice none 0 0, .slice none 0 0] 42)
  have h0 := h.below hb0
  have hl := tlen_any h0
  obtain ⟨t, h1, hL, _, _⟩ := h0
  obtain ⟨r0, _⟩ := h1.root
  have hnum : t.num = L.length := by rw [← Tn.flat_len, hL]
  have hbt := btw_new h1.nodes (i : Int) ((i : Int) + 1) (by omega) (by omega) (by omega)
  rw [hL, cutI_one hi] at hbt
  have HL := Lib.hid hl
  have HG := Lib.hid (And.intro hb0 (And.intro hg0 hs0))
  have HBT := Lib.hid hbt
  have hiI : (i : Int) < (L.length : Int) := by omega
  have hnI : (L.length : Int) ≤ 1000000 := by omega
  have hd : decide (L.length ≤ i) = false := decide_eq_false (by omega)
  generalize L[i] = q at HBT
  obtain ⟨N, hN⟩ : ∃ N, N = L.length := ⟨_, rfl⟩
  rw [← hN] at hd hnI hiI HL
  clear h hb0 hg0 hs0 hl hi hn h1 hL hnum hbt hN
  go_enter Try.func20, Try.ntmps20
  go_upto_region 1 with (fail)
  generalize w.alloc (.cells #[.slice none 0 0, .slice none 0 0] 42) = W0 at HL HG HBT r0 ⊢
  go_wp2_with (first
    | (go_at_call 7; (with_reducible refine HL.out.mono ?_); rintro e w1 ⟨rfl, rfl⟩)
    | (go_at_call 24; (with_reducible refine HBT.out.mono ?_); rintro e w1 ⟨v, P, rfl, p1, p2, p3⟩; obtain ⟨⟨k, x⟩, rfl⟩ : ∃ y, P = [y] := (by match P, p2 with | [y], _ => exact ⟨y, rfl⟩); obtain ⟨A', c', rfl, _, _, hrd⟩ := own_shape p1.row; obtain ⟨ab, ao, rfl, hab, hcc⟩ := hrd (by simp [prC]); have m0 : w1.cell? ⟨ab, ao, none⟩ = some (.slice k.A k.l.length k.c) := hcc 0 _ rfl; have m1 : w1.cell? ⟨ab, ao + 1, none⟩ = some (.slice x.A x.l.length x.c) := hcc 1 _ rfl; have hg2 := (p3.block w.heap.size (by have := HG.out.2.2; omega)).trans HG.out.2.1; have e0 := cell_of_row w1 w.heap.size 0 _ _ _ hg2; have f0 := frozen_of_row w1 w.heap.size 0 _ _ hg2; have e1 := cell_of_row w1 w.heap.size 1 _ _ _ hg2; have f1 := frozen_of_row w1 w.heap.size 1 _ _ hg2; have HP := Lib.hid (And.intro p1 (And.intro p2 (And.intro p3 hg2))); clear p1 p2 p3 hrd hcc hg2 hab))
  obtain ⟨p1, p2, p3, hg2⟩ := HP.out
  have hg3 := heap_setCell_same _ w.heap.size 1 _ _ (.slice x.A x.l.length x.c) (heap_setCell_same w1 w.heap.size 0 _ _ (.slice k.A k.l.length k.c) hg2)
  have hf : Fr w1 ((w1.setCell ⟨w.heap.size, 0, none⟩ (.slice k.A k.l.length k.c)).setCell ⟨w.heap.size, 1, none⟩ (.slice x.A x.l.length x.c)) [w.heap.size] := ((Fr.refl w1 [w.heap.size]).setCell (by simp) _).setCell (by simp) _
  have hN : ∀ z ∈ [w.heap.size], NoBytes w1 z := by intro z hz cs fr hz2; simp at hz; subst hz; rw [hg2] at hz2; cases hz2
  obtain ⟨q1, q2, q3, q4⟩ := p1.key (k, x) (List.mem_singleton.2 rfl)
  have hz0 := HG.out.2.2
  have hq : (k.l, x.l) = q := by simpa [prL] using p2
  refine bodyPost_ret (resAt (by simpa using hg3) _ rfl) rfl ⟨k, x, rfl, by rw [← hq], by rw [← hq], q1.fr hf hN, q3.fr hf hN, fun a ha => by have := q2 a ha; omega, fun a ha => by have := q4 a ha; omega, (HG.out.1.trans (lower' p3 (by omega))).trans (hf.below (by have := p3.size; omega) (by simp))⟩
end Go.Proofs.Ytklhfegdjadgdaa
