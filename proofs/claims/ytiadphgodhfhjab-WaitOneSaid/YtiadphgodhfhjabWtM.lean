/- Layer 17: the law's awake. -/
import Derived.Test.YtiadphgodhfhjabWtL
namespace Go.Proofs.Ytiadphgodhfhjab
open Go.RowKit

theorem rise_ext : ∀ {l m : List Nat}, l.Pairwise (· < ·) → m.Pairwise (· < ·) → (∀ x, x ∈ l ↔ x ∈ m) → l = m
  | [], [], _, _, _ => rfl
  | [], b :: m, _, _, h => absurd ((h b).2 (List.mem_cons_self ..)) (fun k => nomatch k)
  | a :: l, [], _, _, h => absurd ((h a).1 (List.mem_cons_self ..)) (fun k => nomatch k)
  | a :: l, b :: m, hl, hm, h => by
    have hl' := List.pairwise_cons.1 hl
    have hm' := List.pairwise_cons.1 hm
    have e : a = b := by
      rcases List.mem_cons.1 ((h a).1 (List.mem_cons_self ..)) with e | h1
      · exact e
      · rcases List.mem_cons.1 ((h b).2 (List.mem_cons_self ..)) with e | h2
        · exact e.symm
        · have := hm'.1 a h1; have := hl'.1 b h2; omega
    subst e
    rw [rise_ext hl'.2 hm'.2 fun x => ?_]
    constructor
    · intro hx
      rcases List.mem_cons.1 ((h x).1 (List.mem_cons_of_mem _ hx)) with e | h1
      · have := hl'.1 x hx; omega
      · exact h1
    · intro hx
      rcases List.mem_cons.1 ((h x).2 (List.mem_cons_of_mem _ hx)) with e | h1
      · have := hm'.1 x hx; omega
      · exact h1
theorem caughtL_eq {R : Nat → Nat → Prop} {l : List Nat} (hl : l.Pairwise (· < ·)) (h : ∀ s, s ∈ l ↔ (1 ≤ s ∧ s ≤ 16) ∧ InRing R s) : caughtL R = l :=
  rise_ext (caughtL_rise R) hl fun x => by rw [mem_caughtL, h]
def awE : List (Int × Int) := [(1, 2), (2, 1), (3, 1)]
theorem awE_good : goodE awE := ⟨by simp [awE], fun e he => by
  simp only [awE, List.mem_cons, List.not_mem_nil, or_false] at he
  rcases he with rfl | rfl | rfl <;> simp⟩
theorem awE_ed {a b : Nat} : EdR awE a b ↔ (a = 1 ∧ b = 2) ∨ (a = 2 ∧ b = 1) ∨ (a = 3 ∧ b = 1) := by
  unfold EdR awE
  simp only [List.mem_cons, List.not_mem_nil, or_false, Prod.mk.injEq]
  omega
theorem awE_caught : caughtL (EdR awE) = [1, 2] := by
  refine caughtL_eq (by simp) fun s => ?_
  have h12 : EdR awE 1 2 := awE_ed.2 (by simp)
  have h21 : EdR awE 2 1 := awE_ed.2 (by simp)
  constructor
  · intro h
    simp only [List.mem_cons, List.not_mem_nil, or_false] at h
    rcases h with rfl | rfl
    · exact ⟨by omega, (Ld.one h12).snoc h21⟩
    · exact ⟨by omega, (Ld.one h21).snoc h12⟩
  · rintro ⟨_, h⟩
    obtain ⟨c, hc⟩ := Ld.last h
    have := awE_ed.1 hc
    simp only [List.mem_cons, List.not_mem_nil, or_false]
    omega
theorem awE_young : Yst (birthF [0, 5, 9]) (caughtL (EdR awE)) 2 := by
  rw [awE_caught]
  refine ⟨by simp, fun s hs => ?_⟩
  simp only [List.mem_cons, List.not_mem_nil, or_false] at hs
  rcases hs with rfl | rfl
  · exact .inl (by simp [birthF])
  · exact .inr ⟨rfl, Nat.le_refl _⟩
def awO : List (Int × Int) := [(4, 4)]
theorem awO_good : goodE awO := ⟨by simp [awO], fun e he => by
  simp only [awO, List.mem_cons, List.not_mem_nil, or_false] at he
  subst he; simp⟩
theorem awO_ed {a b : Nat} : EdR awO a b ↔ a = 4 ∧ b = 4 := by
  unfold EdR awO
  simp only [List.mem_cons, List.not_mem_nil, or_false, Prod.mk.injEq]
  omega
theorem awO_ring : InRing (EdR awO) 4 := .one (awO_ed.2 (by simp))
theorem awO_is {l : List Nat} (h : RingOf (EdR awO) 4 l) : natZ l = [4] := by
  have h0 := h.first
  have hp := h.pos
  match l, h with
  | [], h => exact absurd h.pos (by simp)
  | [a], h => simp at h0; subst h0; rfl
  | a :: b :: l, h =>
    have h1 := awO_ed.1 (h.walk 0 (by simp))
    simp at h1
    have := h.nd
    simp [h1.1, h1.2] at this
theorem il_lit {w : World} {b : Nat} {l : List Int} {f : Nat × Nat} (h : w.heap[b]? = some (.cells (intsZ l).toArray 3 f)) : IntL w (some ⟨b, 0, none⟩) l.length l := ⟨fun _ => ⟨b, 0, rfl, heap_lt h, fun j u hu => by
  rw [cell_of_row w b (0 + j) _ _ _ h, Nat.zero_add]
  simpa using hu⟩, Nat.le_refl _⟩
set_option maxRecDepth 100000 in
set_option maxHeartbeats 8000000 in
theorem awake_any (w : World) : Calls Try.prog 9 #[] w fun e w' => e = .returned (.bool true) ∧ Below w.heap.size w w' := by
  have hb0 : Below w.heap.size w (w.alloc (.cells #[.int .i64 1, .int .i64 2, .int .i64 2, .int .i64 1, .int .i64 3, .int .i64 1] 30)) := (Below.refl _ _).alloc (Nat.le_refl _) _
  have hg0 := heap_alloc_new w (.cells #[.int .i64 1, .int .i64 2, .int .i64 2, .int .i64 1, .int .i64 3, .int .i64 1] 30)
  have hpl : PrL (w.alloc (.cells #[.int .i64 1, .int .i64 2, .int .i64 2, .int .i64 1, .int .i64 3, .int .i64 1] 30)) (some ⟨w.heap.size, 0, none⟩) 3 awE := ⟨(rd_prs (l := awE) hg0).more (by simp), by simp [awE]⟩
  have HL := Lib.hid (And.intro hpl hb0)
  have HC := Lib.hid (show Calls Try.prog 11 #[.slice (some ⟨w.heap.size, 0, none⟩) 3 3] (w.alloc (.cells #[.int .i64 1, .int .i64 2, .int .i64 2, .int .i64 1, .int .i64 3, .int .i64 1] 30)) (CaYes awE (w.alloc (.cells #[.int .i64 1, .int .i64 2, .int .i64 2, .int .i64 1, .int .i64 3, .int .i64 1] 30))) from Caught_yes _ hpl awE_good)
  clear hb0 hg0 hpl
  go_enter Try.func9, Try.ntmps9
  go_upto_region 3 with (go_at_call 11; (with_reducible refine HC.out.mono ?_); rintro e w1 ⟨A1, c1, rfl, ho1, hb1⟩; rw [awE_caught] at ho1 ⊢; have H1 := Lib.hid (And.intro ho1 hb1); clear ho1 hb1)
  have hb2 : Below w1.heap.size w1 (w1.alloc (.cells #[.int .i64 0, .int .i64 5, .int .i64 9] 3)) := (Below.refl _ _).alloc (Nat.le_refl _) _
  have hg2 := heap_alloc_new w1 (.cells #[.int .i64 0, .int .i64 5, .int .i64 9] 3)
  have hp2 := (HL.out.1.below H1.out.2).below hb2
  have hv := Victim_yes _ hp2 awE_good (il_lit (l := [0, 5, 9]) hg2) (by rw [awE_caught]; simp)
  have HV := Lib.hid (show Calls Try.prog 17 #[.slice (some ⟨w.heap.size, 0, none⟩) 3 3, .slice (some ⟨w1.heap.size, 0, none⟩) 3 3] (w1.alloc (.cells #[.int .i64 0, .int .i64 5, .int .i64 9] 3)) (fun e w' => e = .returned (.tuple #[.int .i64 2, .bool true, .int .i64 0]) ∧ Below w1.heap.size w1 w') from hv.mono fun e w' ⟨v, he, hy, hb⟩ => by
    obtain rfl := hy.uniq awE_young
    exact ⟨he, hb2.trans (lower' hb hb2.size)⟩)
  clear hb2 hg2 hp2 hv
  go_upto_region 4 with (go_at_call 17; (with_reducible refine HV.out.mono ?_); rintro e w2 ⟨rfl, hb2⟩; have H2 := Lib.hid hb2; clear hb2)
  have hb3 : Below w2.heap.size w2 (w2.alloc (.cells #[.int .i64 4, .int .i64 4] 30)) := (Below.refl _ _).alloc (Nat.le_refl _) _
  have hg3 := heap_alloc_new w2 (.cells #[.int .i64 4, .int .i64 4] 30)
  have hp3 : PrL (w2.alloc (.cells #[.int .i64 4, .int .i64 4] 30)) (some ⟨w2.heap.size, 0, none⟩) 1 awO := ⟨(rd_prs (l := awO) hg3).more (by simp), by simp [awO]⟩
  have hr := Ring_yes _ hp3 awO_good 4 (by omega) awO_ring
  have HR := Lib.hid (show Calls Try.prog 15 #[.slice (some ⟨w2.heap.size, 0, none⟩) 1 1, .int .i64 4] (w2.alloc (.cells #[.int .i64 4, .int .i64 4] 30)) (fun e w' => ∃ (A : Option Addr) (c : Nat), e = .returned (.tuple #[.slice A 1 c, .int .i64 0]) ∧ IntL w' A c [4] ∧ Below w2.heap.size w2 w') from hr.mono fun e w' ⟨A, c, l, he, ho, hr, _, _, hb⟩ => by
    have e4 := awO_is hr
    have el : l.length = 1 := by rw [← natZ_len, e4]; rfl
    rw [e4, el] at ho
    obtain ⟨A', c', e5, hi⟩ := ho.il
    injection e5 with e5 _ e6
    subst e5 e6
    exact ⟨A, c, by rw [he, el], hi, hb3.trans (lower' hb hb3.size)⟩)
  clear hb3 hg3 hp3 hr
  go_upto_region 5 with (go_at_call 15; (with_reducible refine HR.out.mono ?_); rintro e w3 ⟨A3, c3, rfl, hi3, hb3⟩; have H3 := Lib.hid (And.intro hi3 hb3); clear hi3 hb3)
  have hb4 : Below w3.heap.size w3 (w3.alloc (.cells #[.int .i64 1, .int .i64 2] 3)) := (Below.refl _ _).alloc (Nat.le_refl _) _
  have hg4 := heap_alloc_new w3 (.cells #[.int .i64 1, .int .i64 2] 3)
  have h13 : Below w1.heap.size w1 w3 := H2.out.trans (lower' H3.out.2 H2.out.size)
  obtain ⟨A1', c1', e5, hi1⟩ := H1.out.1.il
  injection e5 with e5 _ e6
  subst e5 e6
  have hi4 := intsZ_any _ ((hi1.below h13).below hb4) (il_lit (l := [1, 2]) hg4) (by decide)
  have HI := Lib.hid (show Calls Try.prog 13 #[.slice A1 2 c1, .slice (some ⟨w3.heap.size, 0, none⟩) 2 2] (w3.alloc (.cells #[.int .i64 1, .int .i64 2] 3)) (fun e w' => e = .returned (.bool true) ∧ Below w3.heap.size w3 w') from hi4.mono fun e w' ⟨he, hb⟩ => ⟨by rw [he]; rfl, hb4.trans (lower' hb hb4.size)⟩)
  have HT := Lib.hid (fun (W : World) (hW : Below w3.heap.size w3 W) => show Calls Try.prog 13 #[.slice A3 1 c3, .slice (some ⟨W.heap.size, 0, none⟩) 1 1] (W.alloc (.cells #[.int .i64 4] 3)) (fun e w' => e = .returned (.bool true) ∧ Below w3.heap.size w3 w') from by
    have hb5 : Below W.heap.size W (W.alloc (.cells #[.int .i64 4] 3)) := (Below.refl _ _).alloc (Nat.le_refl _) _
    exact (intsZ_any _ ((H3.out.1.below hW).below hb5) (il_lit (l := [4]) (heap_alloc_new W (.cells #[.int .i64 4] 3))) (by decide)).mono fun e w' ⟨he, hb⟩ => ⟨by rw [he]; rfl, (hW.trans (lower' hb5 hW.size)).trans (lower' hb (by have := hW.size; simp; omega))⟩)
  have h03 : Below w.heap.size w w3 := (HL.out.2.trans (lower' H1.out.2 HL.out.2.size)).trans (lower' h13 (Nat.le_trans HL.out.2.size H1.out.2.size))
  have H03 := Lib.hid h03
  clear hb4 hg4 h13 hi1 hi4 h03
  go_wp2_with (first
    | (go_at_call 13; (with_reducible refine HI.out.mono ?_); rintro e w4 ⟨rfl, hb4⟩; have HT2 := Lib.hid (And.intro hb4 (HT.out w4 hb4)); clear hb4)
    | (go_at_call 13; (with_reducible refine HT2.out.2.mono ?_); rintro e w5 ⟨rfl, hb5⟩))
  go_ret
  exact ⟨rfl, H03.out.trans (lower' hb5 H03.out.size)⟩
end Go.Proofs.Ytiadphgodhfhjab
