/- A node is balanced. -/
import Derived.Test.YtklhfegdjadgdaaTreC
import Derived.IntWalk
import Derived.Deep.Cut
namespace Go.Proofs.Ytklhfegdjadgdaa
open Go.RowKit Go.Maps

theorem height_q {w : World} {t : Tn} (h : t.At w) (n : Nat) : Calls Try.prog 27 #[.pointer t.adr] (w.drewN n) fun e w' => e = .returned (.int .i64 (t.ht : Int)) ∧ w' = w.drewN n :=
  (height_any t (w.drewN n) (h.below (Below.drewN' (Below.refl _ _) n))).mono fun _ _ h => ⟨h.1, h.2.symm⟩
theorem pairs_q {w : World} {t : Tn} (h : t.At w) (n : Nat) : Calls Try.prog 23 #[.pointer t.adr] (w.drewN n) fun e w' => e = .returned (.int .i64 (t.num : Int)) ∧ w' = w.drewN n :=
  (pairs_any t (w.drewN n) (h.below (Below.drewN' (Below.refl _ _) n))).mono fun _ _ h => ⟨h.1, h.2.symm⟩
theorem Stale.drewN {w : World} {b : Nat} {k x : Bs} {l r : Tn} (h : Stale w b k x l r) (n : Nat) : Stale (w.drewN n) b k x l r := h.fr (S := []) (Fr.of_below (Below.drewN' (Below.refl _ _) n) _) (by simp) (by simp)
/-- What balanced leaves. -/
def Balanced (w : World) (b : Nat) (k x : Bs) (l r : Tn) (e : Ending) (w' : World) : Prop :=
  e = .returned (.pointer (Tn.node b k x l r).bal.adr) ∧ (Tn.node b k x l r).bal.At w' ∧ Fr w w' (Tn.node b k x l r).blks
theorem Stale.cells {w : World} {b : Nat} {k x : Bs} {l r : Tn} (h : Stale w b k x l r) : w.cell? ⟨b, 2, none⟩ = some (.pointer l.adr) ∧ w.cell? ⟨b, 3, none⟩ = some (.pointer r.adr) ∧ w.frozen? ⟨b, 2, none⟩ = false ∧ w.frozen? ⟨b, 3, none⟩ = false := by
  obtain ⟨s, d, hg⟩ := h.blk
  exact ⟨cell_of_row w b 2 _ _ _ hg, cell_of_row w b 3 _ _ _ hg, frozen_of_row w b 2 _ _ hg, frozen_of_row w b 3 _ _ hg⟩
theorem ht_small {t : Tn} (h : t.num ≤ 1000000) : (t.ht : Int) ≤ 1000000 := by have := t.ht_le_num; omega
set_option maxRecDepth 100000 in
set_option maxHeartbeats 4000000 in
theorem balanced_mid {w : World} {b : Nat} {k x : Bs} {l r : Tn} (h : Stale w b k x l r) (hnd : (Tn.node b k x l r).blks.Nodup) (hn : (Tn.node b k x l r).num ≤ 1000000) (h1 : ¬ r.ht + 1 < l.ht) (h2 : ¬ l.ht + 1 < r.ht) :
    Calls Try.prog 32 #[.pointer (some ⟨b, 0, none⟩)] w (Balanced w b k x l r) := by
  have hbal : (Tn.node b k x l r).bal = Tn.node b k x l r := by simp only [Tn.bal]; rw [if_neg h1, if_neg h2]
  obtain ⟨c2, c3, f2, f3⟩ := h.cells
  have hl := fun n => height_q h.left n
  have hr := fun n => height_q h.right n
  have hnl : l.num ≤ 1000000 := by simp only [Tn.num] at hn; omega
  have hnr : r.num ≤ 1000000 := by simp only [Tn.num] at hn; omega
  have b1 := ht_small hnl
  have b2 := ht_small hnr
  have hm := fun n => measure_any (h.drewN n) (by simp only [Tn.blks, List.nodup_cons, List.mem_append, not_or] at hnd; exact hnd.1.1) (by simp only [Tn.blks, List.nodup_cons, List.mem_append, not_or] at hnd; exact hnd.1.2) hn
  have t1 : ¬ (r.ht : Int) - (l.ht : Int) < -1 := by omega
  have t2 : ¬ (1 : Int) < (r.ht : Int) - (l.ht : Int) := by omega
  have b3 : (0 : Int) ≤ (l.ht : Int) := by omega
  have b4 : (0 : Int) ≤ (r.ht : Int) := by omega
  have HL := Lib.hid hl
  have HR := Lib.hid hr
  have HM := Lib.hid hm
  have HB := Lib.hid hbal
  clear h hnd hn h1 h2 hl hr hm hbal hnl hnr f2 f3
  go_enter Try.func32, Try.ntmps32
  go_upto_region 1 with (fail)
  have hw : IntKind.i64.wrap ((r.ht : Int) - (l.ht : Int)) = (r.ht : Int) - (l.ht : Int) := IntWalk.i64_in _ (by omega)
  go_quiet ((first | (go_at_call 27; with_reducible exact Calls.quiet_of_same (HR.out _)) | (go_at_call 27; with_reducible exact Calls.quiet_of_same (HL.out _))))
  clear hw
  go_wp2_with (go_at_call 37; (with_reducible refine (HM.out _).mono ?_); rintro e w3 ⟨rfl, h3, hf3⟩; have H3 := Lib.hid (And.intro h3 hf3); clear h3 hf3)
  go_ret
  unfold Balanced
  rw [HB.out]
  exact ⟨rfl, H3.out.1, (Fr.of_below (Below.drewN' (Below.refl _ _) _) _).trans (H3.out.2.mono (by simp [Tn.blks]))⟩
/-- Behind the turn of the left side. -/
theorem after_right {w w3 : World} {b c d : Nat} {k x kl xl km xm : Bs} {ll ml mr r : Tn} (h : Stale w b k x (.node c kl xl ll (.node d km xm ml mr)) r) (hnd : (Tn.node b k x (.node c kl xl ll (.node d km xm ml mr)) r).blks.Nodup) (hn : (Tn.node b k x (.node c kl xl ll (.node d km xm ml mr)) r).num ≤ 1000000)
    (h3 : (Tn.node d km xm (.node c kl xl ll ml) mr).At w3) (hf3 : Fr w w3 [c, d]) :
    w3.cell? ⟨b, 2, none⟩ = some (.pointer (some ⟨c, 0, none⟩)) ∧ w3.frozen? ⟨b, 2, none⟩ = false ∧
    Calls Try.prog 36 #[.pointer (some ⟨b, 0, none⟩)] (w3.setCell ⟨b, 2, none⟩ (.pointer (some ⟨d, 0, none⟩))) fun e w' => e = .returned (.pointer (some ⟨d, 0, none⟩)) ∧ (Tn.node d km xm (.node c kl xl ll ml) (.node b k x mr r)).At w' ∧ Fr w w' [b, c, d] := by
  obtain ⟨s, dd, hg⟩ := h.blk
  have hN : ∀ z ∈ [c, d], NoBytes w z := by
    intro z hz
    refine (h.left.lt z ?_).2
    simp at hz
    simp [Tn.blks]
    rcases hz with rfl | rfl
    · exact .inl rfl
    · exact .inr (.inr (.inl rfl))
  have hb3 := h.left.lt
  have hperm : (Tn.node b k x (.node d km xm (.node c kl xl ll ml) mr) r).blks.Perm (Tn.node b k x (.node c kl xl ll (.node d km xm ml mr)) r).blks := Tn.node_blks (Tn.rotL_blks (.node c kl xl ll (.node d km xm ml mr))) (List.Perm.refl _)
  have hnd2 := hperm.nodup_iff.2 hnd
  have hbc : b ∉ [c, d] := by
    simp only [Tn.blks, List.cons_append, List.nodup_cons, List.mem_cons, List.mem_append, not_or] at hnd
    simp
    exact ⟨hnd.1.1, hnd.1.2.1.2.1⟩
  have hbr : ∀ z ∈ r.blks, z ∉ [c, d] := by
    intro z hz hm
    simp only [Tn.blks, List.cons_append, List.nodup_cons, List.mem_cons, List.mem_append, List.nodup_append, not_or] at hnd
    simp at hm
    rcases hm with rfl | rfl
    · exact hnd.2.1.2 hz
    · exact hnd.2.2.2.2 z (.inr (.inl rfl)) z hz rfl
  have hg3 : w3.heap[b]? = some (.cells (nodeC k x (.node c kl xl ll (.node d km xm ml mr)) r s dd) 64 (0, 0)) := (hf3.block b (heap_lt hg) hbc).trans hg
  refine ⟨cell_of_row w3 b 2 _ _ _ hg3, frozen_of_row w3 b 2 _ _ hg3, ?_⟩
  have hNb : ∀ z ∈ [b], NoBytes w3 z := by intro z hz cs fr hz2; simp at hz; subst hz; rw [hg3] at hz2; cases hz2
  have hf4 : Fr w3 (w3.setCell ⟨b, 2, none⟩ (.pointer (some ⟨d, 0, none⟩))) [b] := (Fr.refl w3 [b]).setCell (by simp) _
  have hbn : ∀ z ∈ (Tn.node d km xm (.node c kl xl ll ml) mr).blks, z ∉ [b] := by
    intro z hz hm
    simp at hm
    subst hm
    exact (List.nodup_cons.1 hnd2).1 (List.mem_append_left _ hz)
  have hrb : ∀ z ∈ r.blks, z ∉ [b] := by
    intro z hz hm
    simp at hm
    subst hm
    exact (List.nodup_cons.1 hnd).1 (List.mem_append_right _ hz)
  have hst : Stale (w3.setCell ⟨b, 2, none⟩ (.pointer (some ⟨d, 0, none⟩))) b k x (.node d km xm (.node c kl xl ll ml) mr) r :=
    ⟨Stale.setLeft (l' := .node d km xm (.node c kl xl ll ml) mr) ⟨s, dd, hg3⟩, (h.key.fr hf3 hN).fr hf4 hNb, (h.val.fr hf3 hN).fr hf4 hNb, h3.fr hf4 hNb hbn, (h.right.fr hf3 hN hbr).fr hf4 hNb hrb⟩
  refine (leftUp_any hst hnd2 (by simp only [Tn.num] at hn ⊢; omega)).mono ?_
  rintro e w' ⟨h1, h2, h4⟩
  exact ⟨h1, h2, (hf3.mono (by simp)).trans ((hf4.mono (by simp)).trans (h4.mono (by simp)))⟩
/-- Behind the turn of the right side. -/
theorem after_left {w w3 : World} {b c d : Nat} {k x kr xr km xm : Bs} {l ml mr rr : Tn} (h : Stale w b k x l (.node c kr xr (.node d km xm ml mr) rr)) (hnd : (Tn.node b k x l (.node c kr xr (.node d km xm ml mr) rr)).blks.Nodup) (hn : (Tn.node b k x l (.node c kr xr (.node d km xm ml mr) rr)).num ≤ 1000000)
    (h3 : (Tn.node d km xm ml (.node c kr xr mr rr)).At w3) (hf3 : Fr w w3 [c, d]) :
    w3.cell? ⟨b, 3, none⟩ = some (.pointer (some ⟨c, 0, none⟩)) ∧ w3.frozen? ⟨b, 3, none⟩ = false ∧
    Calls Try.prog 35 #[.pointer (some ⟨b, 0, none⟩)] (w3.setCell ⟨b, 3, none⟩ (.pointer (some ⟨d, 0, none⟩))) fun e w' => e = .returned (.pointer (some ⟨d, 0, none⟩)) ∧ (Tn.node d km xm (.node b k x l ml) (.node c kr xr mr rr)).At w' ∧ Fr w w' [b, c, d] := by
  obtain ⟨s, dd, hg⟩ := h.blk
  have hN : ∀ z ∈ [c, d], NoBytes w z := by
    intro z hz
    refine (h.right.lt z ?_).2
    simp at hz
    simp [Tn.blks]
    rcases hz with rfl | rfl
    · exact .inl rfl
    · exact .inr (.inl rfl)
  have hperm : (Tn.node b k x l (.node d km xm ml (.node c kr xr mr rr))).blks.Perm (Tn.node b k x l (.node c kr xr (.node d km xm ml mr) rr)).blks := Tn.node_blks (List.Perm.refl _) (Tn.rotR_blks (.node c kr xr (.node d km xm ml mr) rr))
  have hnd2 := hperm.nodup_iff.2 hnd
  have hmem : c ∈ (Tn.node c kr xr (.node d km xm ml mr) rr).blks ∧ d ∈ (Tn.node c kr xr (.node d km xm ml mr) rr).blks := by simp [Tn.blks]
  have hbc : b ∉ [c, d] := by
    intro hm
    simp at hm
    rcases hm with rfl | rfl
    · exact (List.nodup_cons.1 hnd).1 (List.mem_append_right _ hmem.1)
    · exact (List.nodup_cons.1 hnd).1 (List.mem_append_right _ hmem.2)
  have hbl : ∀ z ∈ l.blks, z ∉ [c, d] := by
    intro z hz hm
    have h9 := (List.nodup_append.1 (List.nodup_cons.1 hnd).2).2.2
    simp at hm
    rcases hm with rfl | rfl
    · exact h9 _ hz _ hmem.1 rfl
    · exact h9 _ hz _ hmem.2 rfl
  have hg3 : w3.heap[b]? = some (.cells (nodeC k x l (.node c kr xr (.node d km xm ml mr) rr) s dd) 64 (0, 0)) := (hf3.block b (heap_lt hg) hbc).trans hg
  refine ⟨cell_of_row w3 b 3 _ _ _ hg3, frozen_of_row w3 b 3 _ _ hg3, ?_⟩
  have hNb : ∀ z ∈ [b], NoBytes w3 z := by intro z hz cs fr hz2; simp at hz; subst hz; rw [hg3] at hz2; cases hz2
  have hf4 : Fr w3 (w3.setCell ⟨b, 3, none⟩ (.pointer (some ⟨d, 0, none⟩))) [b] := (Fr.refl w3 [b]).setCell (by simp) _
  have hbn : ∀ z ∈ (Tn.node d km xm ml (.node c kr xr mr rr)).blks, z ∉ [b] := by
    intro z hz hm
    simp at hm
    subst hm
    exact (List.nodup_cons.1 hnd2).1 (List.mem_append_right _ hz)
  have hlb : ∀ z ∈ l.blks, z ∉ [b] := by
    intro z hz hm
    simp at hm
    subst hm
    exact (List.nodup_cons.1 hnd).1 (List.mem_append_left _ hz)
  have hst : Stale (w3.setCell ⟨b, 3, none⟩ (.pointer (some ⟨d, 0, none⟩))) b k x l (.node d km xm ml (.node c kr xr mr rr)) :=
    ⟨Stale.setRight (r' := .node d km xm ml (.node c kr xr mr rr)) ⟨s, dd, hg3⟩, (h.key.fr hf3 hN).fr hf4 hNb, (h.val.fr hf3 hN).fr hf4 hNb, (h.left.fr hf3 hN hbl).fr hf4 hNb hlb, h3.fr hf4 hNb hbn⟩
  refine (rightUp_any hst hnd2 (by simp only [Tn.num] at hn ⊢; omega)).mono ?_
  rintro e w' ⟨h1, h2, h4⟩
  exact ⟨h1, h2, (hf3.mono (by simp)).trans ((hf4.mono (by simp)).trans (h4.mono (by simp)))⟩
end Go.Proofs.Ytklhfegdjadgdaa
