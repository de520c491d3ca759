/- A tree's rotations. -/
import Derived.Test.YtklhfegdjadgdaaTreB
import Derived.StillTailTactics
namespace Go.Proofs.Ytklhfegdjadgdaa
open Go.RowKit Go.Maps

/-- A node whose size and depth may be stale. -/
structure Stale (w : World) (b : Nat) (k x : Bs) (l r : Tn) : Prop where
  blk : ∃ s d : Int, w.heap[b]? = some (.cells (nodeC k x l r s d) 64 (0, 0))
  key : k.ok w
  val : x.ok w
  left : l.At w
  right : r.At w
theorem Stale.lt {w : World} {b : Nat} {k x : Bs} {l r : Tn} (h : Stale w b k x l r) : b < w.heap.size ∧ NoBytes w b := by
  obtain ⟨s, d, hg⟩ := h.blk
  exact ⟨heap_lt hg, fun cs fr hg2 => by rw [hg] at hg2; cases hg2⟩
theorem Tn.At.stale {w : World} {b : Nat} {k x : Bs} {l r : Tn} (h : (Tn.node b k x l r).At w) : Stale w b k x l r := ⟨⟨_, _, h.1⟩, h.2.1, h.2.2.1, h.2.2.2.1, h.2.2.2.2⟩
theorem Stale.fr {w w' : World} {b : Nat} {k x : Bs} {l r : Tn} {S : List Nat} (h : Stale w b k x l r) (hf : Fr w w' S) (hS : ∀ s ∈ S, NoBytes w s) (hb : ∀ c ∈ (Tn.node b k x l r).blks, c ∉ S) : Stale w' b k x l r := by
  obtain ⟨s, d, hg⟩ := h.blk
  simp only [Tn.blks, List.mem_cons, List.mem_append] at hb
  exact ⟨⟨s, d, (hf.block b (heap_lt hg) (hb b (.inl rfl))).trans hg⟩, h.key.fr hf hS, h.val.fr hf hS, h.left.fr hf hS (fun c hc => hb c (.inr (.inl hc))), h.right.fr hf hS (fun c hc => hb c (.inr (.inr hc)))⟩
/-- A pointer of a node is stored. -/
theorem Stale.setLeft {w : World} {b : Nat} {k x : Bs} {l r l' : Tn} (hg : ∃ s d : Int, w.heap[b]? = some (.cells (nodeC k x l r s d) 64 (0, 0))) : ∃ s d : Int, (w.setCell ⟨b, 2, none⟩ (.pointer l'.adr)).heap[b]? = some (.cells (nodeC k x l' r s d) 64 (0, 0)) := by
  obtain ⟨s, d, hg⟩ := hg
  refine ⟨s, d, ?_⟩
  have := heap_setCell_same w b 2 _ _ (.pointer l'.adr) hg
  simpa [nodeC] using this
theorem Stale.setRight {w : World} {b : Nat} {k x : Bs} {l r r' : Tn} (hg : ∃ s d : Int, w.heap[b]? = some (.cells (nodeC k x l r s d) 64 (0, 0))) : ∃ s d : Int, (w.setCell ⟨b, 3, none⟩ (.pointer r'.adr)).heap[b]? = some (.cells (nodeC k x l r' s d) 64 (0, 0)) := by
  obtain ⟨s, d, hg⟩ := hg
  refine ⟨s, d, ?_⟩
  have := heap_setCell_same w b 3 _ _ (.pointer r'.adr) hg
  simpa [nodeC] using this
set_option maxRecDepth 100000 in
set_option maxHeartbeats 2000000 in
theorem measure_any {w : World} {b : Nat} {k x : Bs} {l r : Tn} (h : Stale w b k x l r) (hbl : b ∉ l.blks) (hbr : b ∉ r.blks) (hn : (Tn.node b k x l r).num ≤ 1000000) :
    Calls Try.prog 37 #[.pointer (some ⟨b, 0, none⟩)] w fun e w' => e = .returned (.tuple #[]) ∧ (Tn.node b k x l r).At w' ∧ Fr w w' [b] := by
  have hlt := h.lt
  have hpl : ∀ W, Fr w W [b] → Calls Try.prog 23 #[(.pointer l.adr)] W fun e w' => e = .returned (.int .i64 (l.num : Int)) ∧ w' = W := fun W hf => (pairs_any l W (h.left.fr hf (by simp; exact hlt.2) (fun c hc => by simp; rintro rfl; exact hbl hc))).mono fun _ _ h => ⟨h.1, h.2.symm⟩
  have hpr : ∀ W, Fr w W [b] → Calls Try.prog 23 #[(.pointer r.adr)] W fun e w' => e = .returned (.int .i64 (r.num : Int)) ∧ w' = W := fun W hf => (pairs_any r W (h.right.fr hf (by simp; exact hlt.2) (fun c hc => by simp; rintro rfl; exact hbr hc))).mono fun _ _ h => ⟨h.1, h.2.symm⟩
  have hhl : ∀ W, Fr w W [b] → Calls Try.prog 27 #[(.pointer l.adr)] W fun e w' => e = .returned (.int .i64 (l.ht : Int)) ∧ w' = W := fun W hf => (height_any l W (h.left.fr hf (by simp; exact hlt.2) (fun c hc => by simp; rintro rfl; exact hbl hc))).mono fun _ _ h => ⟨h.1, h.2.symm⟩
  have hhr : ∀ W, Fr w W [b] → Calls Try.prog 27 #[(.pointer r.adr)] W fun e w' => e = .returned (.int .i64 (r.ht : Int)) ∧ w' = W := fun W hf => (height_any r W (h.right.fr hf (by simp; exact hlt.2) (fun c hc => by simp; rintro rfl; exact hbr hc))).mono fun _ _ h => ⟨h.1, h.2.symm⟩
  have hfin : ∀ W, Fr w W [b] → (∃ fr, W.heap[b]? = some (.cells (nodeC k x l r ((l.num : Int) + 1 + (r.num : Int)) (max (l.ht : Int) (r.ht : Int) + 1)) 64 fr) ∧ fr = (0, 0)) → (Tn.node b k x l r).At W := fun W hf ⟨fr, hg, hfr⟩ => by
    subst hfr
    refine ⟨?_, h.key.fr hf (by simp; exact hlt.2), h.val.fr hf (by simp; exact hlt.2), h.left.fr hf (by simp; exact hlt.2) (fun c hc => by simp; rintro rfl; exact hbl hc), h.right.fr hf (by simp; exact hlt.2) (fun c hc => by simp; rintro rfl; exact hbr hc)⟩
    rw [hg]
    have e1 : ((Tn.node b k x l r).num : Int) = (l.num : Int) + 1 + (r.num : Int) := by simp [Tn.num]
    have e2 : ((Tn.node b k x l r).ht : Int) = max (l.ht : Int) (r.ht : Int) + 1 := by simp only [Tn.ht]; omega
    rw [e1, e2]
  have n1 : (l.num : Int) + (r.num : Int) ≤ 999999 := by simp only [Tn.num] at hn; omega
  have n2 := l.ht_le_num
  have n3 := r.ht_le_num
  have n4 : (l.ht : Int) ≤ 999999 := by omega
  have n5 : (r.ht : Int) ≤ 999999 := by omega
  have n6 : (0 : Int) ≤ (l.num : Int) := by omega
  have n7 : (0 : Int) ≤ (r.num : Int) := by omega
  have n8 : (l.num : Int) ≤ 999999 := by omega
  have n9 : (r.num : Int) ≤ 999999 := by omega
  obtain ⟨s, d, hg⟩ := h.blk
  have HF := Lib.hid hfin
  have HPL := Lib.hid hpl
  have HPR := Lib.hid hpr
  have HHL := Lib.hid hhl
  have HHR := Lib.hid hhr
  unfold nodeC at hg
  have HG := Lib.hid hg
  have a2 := cell_of_row w b 2 _ _ _ hg
  have a3 := cell_of_row w b 3 _ _ _ hg
  have a4 := cell_of_row w b 4 _ _ _ hg
  have f4 := frozen_of_row w b 4 _ _ hg
  clear h hbl hbr hn hlt hpl hpr hhl hhr hfin n2 n3 hg
  go_enter Try.func37, Try.ntmps37
  go_wp2_with (fail)
  refine wp_region_still_tail 15 (by kernel_rfl) (by kernel_rfl) ?_
  simp only [List.take_succ_cons, List.take_zero, List.drop_succ_cons, List.drop_zero]
  repeat still_step
  still_call (HPL.out _ (Fr.refl _ _).drew)
  repeat still_step
  still_call (HPR.out _ (Fr.refl _ _).drew)
  repeat still_step
  refine wpStill_nil ?_
  change wpList _ _ _ _ _ w.drew
  go_wp2_with (fail)
  have hg1 : (w.setCell ⟨b, 4, none⟩ (.int .i64 ((l.num : Int) + 1 + (r.num : Int)))).drew.heap[b]? = some (.cells #[(Value.slice k.A k.l.length k.c), (Value.slice x.A x.l.length x.c), (.pointer l.adr), (.pointer r.adr), .int .i64 ((l.num : Int) + 1 + (r.num : Int)), .int .i64 d] 64 (0, 0)) := by
    show (w.setCell ⟨b, 4, none⟩ (.int .i64 ((l.num : Int) + 1 + (r.num : Int)))).heap[b]? = _
    have := heap_setCell_same w b 4 _ _ (.int .i64 ((l.num : Int) + 1 + (r.num : Int))) HG.out
    simpa using this
  have hf1 : Fr w (w.setCell ⟨b, 4, none⟩ (.int .i64 ((l.num : Int) + 1 + (r.num : Int)))).drew [b] := ((Fr.refl w [b]).setCell (by simp) _).drew
  generalize (w.setCell ⟨b, 4, none⟩ (.int .i64 ((l.num : Int) + 1 + (r.num : Int)))).drew = W1 at hg1 hf1 ⊢
  have HG1 := Lib.hid (And.intro hg1 hf1)
  have hg2 : ∀ n : Int, n = max (l.ht : Int) (r.ht : Int) + 1 → (W1.setCell ⟨b, 5, none⟩ (.int .i64 n)).drew.heap[b]? = some (.cells (nodeC k x l r ((l.num : Int) + 1 + (r.num : Int)) (max (l.ht : Int) (r.ht : Int) + 1)) 64 (0, 0)) := by
    rintro n rfl
    show (W1.setCell ⟨b, 5, none⟩ (.int .i64 (max (l.ht : Int) (r.ht : Int) + 1))).heap[b]? = _
    have := heap_setCell_same W1 b 5 _ _ (.int .i64 (max (l.ht : Int) (r.ht : Int) + 1)) HG1.out.1
    simpa [nodeC] using this
  have hf2 : ∀ n : Int, Fr w (W1.setCell ⟨b, 5, none⟩ (.int .i64 n)).drew [b] := fun n => (HG1.out.2.setCell (by simp) _).drew
  have HG2 := Lib.hid hg2
  have HF2 := Lib.hid hf2
  clear hg2 hf2
  have a2 := cell_of_row W1 b 2 _ _ _ hg1
  have a3 := cell_of_row W1 b 3 _ _ _ hg1
  have a5 := cell_of_row W1 b 5 _ _ _ hg1
  have f5 := frozen_of_row W1 b 5 _ _ hg1
  clear hg1 hf1
  refine wp_region_still_tail 15 (by kernel_rfl) (by kernel_rfl) ?_
  simp only [List.take_succ_cons, List.take_zero, List.drop_succ_cons, List.drop_zero]
  repeat still_step
  still_call (HHL.out _ HG1.out.2.drew)
  repeat still_step
  still_call (HHR.out _ HG1.out.2.drew)
  repeat still_step
  refine wpStill_nil ?_
  change wpList _ _ _ _ _ W1.drew
  go_wp2_with (fail)
  all_goals
    go_end0
    exact ⟨rfl, HF.out _ (HF2.out _) ⟨_, HG2.out _ (by omega), rfl⟩, HF2.out _⟩
theorem Tn.At.ofSame {w w' : World} {t : Tn} (h : t.At w) (hw : w = w') : t.At w' := hw ▸ h
set_option maxRecDepth 100000 in
set_option maxHeartbeats 2000000 in
theorem leftUp_any {w : World} {b c : Nat} {k x kl xl : Bs} {ll lr r : Tn} (h : Stale w b k x (.node c kl xl ll lr) r) (hnd : (Tn.node b k x (.node c kl xl ll lr) r).blks.Nodup) (hn : (Tn.node b k x (.node c kl xl ll lr) r).num ≤ 1000000) :
    Calls Try.prog 36 #[.pointer (some ⟨b, 0, none⟩)] w fun e w' => e = .returned (.pointer (some ⟨c, 0, none⟩)) ∧ (Tn.node c kl xl ll (.node b k x lr r)).At w' ∧ Fr w w' [b, c] := by
  have hlt := h.lt
  have hcl := h.left.lt c (by simp [Tn.blks])
  have hblk := h.blk
  have hcblk := h.left.1
  have hst := h.left.stale
  simp only [Tn.blks, List.cons_append, List.nodup_cons, List.mem_cons, List.mem_append, List.nodup_append, not_or] at hnd
  obtain ⟨⟨hbc, ⟨hbll, hblr⟩, hbr⟩, ⟨⟨hcll, hclr⟩, hcr⟩, hnd1⟩ := hnd
  have hN : ∀ s ∈ [b, c], NoBytes w s := by simp; exact ⟨hlt.2, hcl.2⟩
  have hfr : Fr w ((w.setCell ⟨b, 2, none⟩ (.pointer lr.adr)).setCell ⟨c, 3, none⟩ (.pointer (some ⟨b, 0, none⟩))) [b, c] := ((Fr.refl w [b, c]).setCell (by simp) _).setCell (by simp) _
  have e1 := Stale.setLeft (l' := lr) hblk
  have e2 : ∃ s d : Int, ((w.setCell ⟨b, 2, none⟩ (.pointer lr.adr)).setCell ⟨c, 3, none⟩ (.pointer (some ⟨b, 0, none⟩))).heap[b]? = some (.cells (nodeC k x lr r s d) 64 (0, 0)) := by
    obtain ⟨s, d, e1⟩ := e1
    exact ⟨s, d, (Below.heap_setCell _ _ _ _ (fun e => hbc e)).trans e1⟩
  have e3 : ∃ s d : Int, (w.setCell ⟨b, 2, none⟩ (.pointer lr.adr)).heap[c]? = some (.cells (nodeC kl xl ll lr s d) 64 (0, 0)) := ⟨_, _, (Below.heap_setCell _ _ _ _ (fun e => hbc e.symm)).trans hcblk⟩
  have e4 : ∃ s d : Int, ((w.setCell ⟨b, 2, none⟩ (.pointer lr.adr)).setCell ⟨c, 3, none⟩ (.pointer (some ⟨b, 0, none⟩))).heap[c]? = some (.cells (nodeC kl xl ll (.node b k x lr r) s d) 64 (0, 0)) := Stale.setRight (r' := .node b k x lr r) e3
  have a2 : w.cell? ⟨b, 2, none⟩ = some (.pointer (some ⟨c, 0, none⟩)) := by obtain ⟨s, d, hg⟩ := hblk; exact cell_of_row w b 2 _ _ _ hg
  have f2 : w.frozen? ⟨b, 2, none⟩ = false := by obtain ⟨s, d, hg⟩ := hblk; exact frozen_of_row w b 2 _ _ hg
  have a3 : w.cell? ⟨c, 3, none⟩ = some (.pointer lr.adr) := cell_of_row w c 3 _ _ _ hcblk
  obtain ⟨s3, d3, e3⟩ := e3
  have a3' : (w.setCell ⟨b, 2, none⟩ (.pointer lr.adr)).cell? ⟨c, 3, none⟩ = some (.pointer lr.adr) := cell_of_row _ c 3 _ _ _ e3
  have f3 : (w.setCell ⟨b, 2, none⟩ (.pointer lr.adr)).frozen? ⟨c, 3, none⟩ = false := frozen_of_row _ c 3 _ _ e3
  have hst2 : Stale ((w.setCell ⟨b, 2, none⟩ (.pointer lr.adr)).setCell ⟨c, 3, none⟩ (.pointer (some ⟨b, 0, none⟩))) b k x lr r :=
    ⟨e2, h.key.fr hfr hN, h.val.fr hfr hN, hst.right.fr hfr hN (by simp; intro z hz; exact ⟨fun e => hblr (e ▸ hz), fun e => hclr (e ▸ hz)⟩), h.right.fr hfr hN (by simp; intro z hz; exact ⟨fun e => hbr (e ▸ hz), fun e => hcr (e ▸ hz)⟩)⟩
  have hm1 := measure_any hst2 hblr hbr (by simp only [Tn.num] at hn ⊢; omega)
  have hm2 : ∀ w3, (Tn.node b k x lr r).At w3 → Fr ((w.setCell ⟨b, 2, none⟩ (.pointer lr.adr)).setCell ⟨c, 3, none⟩ (.pointer (some ⟨b, 0, none⟩))) w3 [b] → Calls Try.prog 37 #[.pointer (some ⟨c, 0, none⟩)] w3 fun e w' => e = .returned (.tuple #[]) ∧ (Tn.node c kl xl ll (.node b k x lr r)).At w' ∧ Fr w3 w' [c] := fun w3 h3 hf3 => by
    have hf13 := hfr.trans (hf3.mono (by simp) : Fr _ _ [b, c])
    refine measure_any ⟨?_, hst.key.fr hf13 hN, hst.val.fr hf13 hN, hst.left.fr hf13 hN (by simp; intro z hz; exact ⟨fun e => hbll (e ▸ hz), fun e => hcll (e ▸ hz)⟩), h3⟩ hcll (by simp [Tn.blks]; exact ⟨fun e => hbc e.symm, hclr, hcr⟩) (by simp only [Tn.num] at hn ⊢; omega)
    obtain ⟨s, d, e4⟩ := e4
    exact ⟨s, d, (hf3.block c (heap_lt e4) (by simp; exact fun e => hbc e.symm)).trans e4⟩
  have HFR := Lib.hid hfr
  have HM1 := Lib.hid hm1
  have HM2 := Lib.hid hm2
  clear h hlt hcl hblk hcblk hst hnd1 hN hfr e1 e2 e3 e4 hst2 hm1 hm2 hn hbc hbll hblr hbr hcll hclr hcr
  go_enter Try.func36, Try.ntmps36
  go_wp2_with (first
    | (go_at_call 37; (with_reducible refine HM1.out.mono ?_); rintro e w3 ⟨rfl, h3, hf3⟩; have HM3 := Lib.hid (And.intro (HM2.out _ h3 hf3) hf3); clear h3 hf3)
    | (go_at_call 37; (with_reducible refine HM3.out.1.mono ?_); rintro e w4 ⟨rfl, h4, hf4⟩; have H4 := Lib.hid (And.intro h4 hf4); clear h4 hf4))
  go_ret
  exact ⟨rfl, H4.out.1, HFR.out.trans ((HM3.out.2.mono (by simp)).trans (H4.out.2.mono (by simp)))⟩
set_option maxRecDepth 100000 in
set_option maxHeartbeats 2000000 in
theorem rightUp_any {w : World} {b c : Nat} {k x kr xr : Bs} {l rl rr : Tn} (h : Stale w b k x l (.node c kr xr rl rr)) (hnd : (Tn.node b k x l (.node c kr xr rl rr)).blks.Nodup) (hn : (Tn.node b k x l (.node c kr xr rl rr)).num ≤ 1000000) :
    Calls Try.prog 35 #[.pointer (some ⟨b, 0, none⟩)] w fun e w' => e = .returned (.pointer (some ⟨c, 0, none⟩)) ∧ (Tn.node c kr xr (.node b k x l rl) rr).At w' ∧ Fr w w' [b, c] := by
  have hlt := h.lt
  have hcl := h.right.lt c (by simp [Tn.blks])
  have hblk := h.blk
  have hcblk := h.right.1
  have hst := h.right.stale
  have hnd' : b ≠ c ∧ b ∉ l.blks ∧ b ∉ rl.blks ∧ b ∉ rr.blks ∧ c ∉ l.blks ∧ c ∉ rl.blks ∧ c ∉ rr.blks := by
    simp only [Tn.blks, List.nodup_cons, List.mem_cons, List.mem_append, List.nodup_append, not_or] at hnd
    obtain ⟨⟨h1, h2, h3, h4⟩, h5, ⟨⟨h6, h7⟩, h8⟩, h9⟩ := hnd
    exact ⟨h2, h1, h3, h4, fun hc => h9 c hc c (.inl rfl) rfl, h6, h7⟩
  obtain ⟨hbc, hbl, hbrl, hbrr, hcl', hcrl, hcrr⟩ := hnd'
  have hN : ∀ s ∈ [b, c], NoBytes w s := by simp; exact ⟨hlt.2, hcl.2⟩
  have hfr : Fr w ((w.setCell ⟨b, 3, none⟩ (.pointer rl.adr)).setCell ⟨c, 2, none⟩ (.pointer (some ⟨b, 0, none⟩))) [b, c] := ((Fr.refl w [b, c]).setCell (by simp) _).setCell (by simp) _
  have e1 := Stale.setRight (r' := rl) hblk
  have e2 : ∃ s d : Int, ((w.setCell ⟨b, 3, none⟩ (.pointer rl.adr)).setCell ⟨c, 2, none⟩ (.pointer (some ⟨b, 0, none⟩))).heap[b]? = some (.cells (nodeC k x l rl s d) 64 (0, 0)) := by
    obtain ⟨s, d, e1⟩ := e1
    exact ⟨s, d, (Below.heap_setCell _ _ _ _ (fun e => hbc e)).trans e1⟩
  have e3 : ∃ s d : Int, (w.setCell ⟨b, 3, none⟩ (.pointer rl.adr)).heap[c]? = some (.cells (nodeC kr xr rl rr s d) 64 (0, 0)) := ⟨_, _, (Below.heap_setCell _ _ _ _ (fun e => hbc e.symm)).trans hcblk⟩
  have e4 : ∃ s d : Int, ((w.setCell ⟨b, 3, none⟩ (.pointer rl.adr)).setCell ⟨c, 2, none⟩ (.pointer (some ⟨b, 0, none⟩))).heap[c]? = some (.cells (nodeC kr xr (.node b k x l rl) rr s d) 64 (0, 0)) := Stale.setLeft (l' := .node b k x l rl) e3
  have a2 : w.cell? ⟨b, 3, none⟩ = some (.pointer (some ⟨c, 0, none⟩)) := by obtain ⟨s, d, hg⟩ := hblk; exact cell_of_row w b 3 _ _ _ hg
  have f2 : w.frozen? ⟨b, 3, none⟩ = false := by obtain ⟨s, d, hg⟩ := hblk; exact frozen_of_row w b 3 _ _ hg
  have a3 : w.cell? ⟨c, 2, none⟩ = some (.pointer rl.adr) := cell_of_row w c 2 _ _ _ hcblk
  obtain ⟨s3, d3, e3⟩ := e3
  have a3' : (w.setCell ⟨b, 3, none⟩ (.pointer rl.adr)).cell? ⟨c, 2, none⟩ = some (.pointer rl.adr) := cell_of_row _ c 2 _ _ _ e3
  have f3 : (w.setCell ⟨b, 3, none⟩ (.pointer rl.adr)).frozen? ⟨c, 2, none⟩ = false := frozen_of_row _ c 2 _ _ e3
  have hst2 : Stale ((w.setCell ⟨b, 3, none⟩ (.pointer rl.adr)).setCell ⟨c, 2, none⟩ (.pointer (some ⟨b, 0, none⟩))) b k x l rl :=
    ⟨e2, h.key.fr hfr hN, h.val.fr hfr hN, h.left.fr hfr hN (by simp; intro z hz; exact ⟨fun e => hbl (e ▸ hz), fun e => hcl' (e ▸ hz)⟩), hst.left.fr hfr hN (by simp; intro z hz; exact ⟨fun e => hbrl (e ▸ hz), fun e => hcrl (e ▸ hz)⟩)⟩
  have hm1 := measure_any hst2 hbl hbrl (by simp only [Tn.num] at hn ⊢; omega)
  have hm2 : ∀ w3, (Tn.node b k x l rl).At w3 → Fr ((w.setCell ⟨b, 3, none⟩ (.pointer rl.adr)).setCell ⟨c, 2, none⟩ (.pointer (some ⟨b, 0, none⟩))) w3 [b] → Calls Try.prog 37 #[.pointer (some ⟨c, 0, none⟩)] w3 fun e w' => e = .returned (.tuple #[]) ∧ (Tn.node c kr xr (.node b k x l rl) rr).At w' ∧ Fr w3 w' [c] := fun w3 h3 hf3 => by
    have hf13 := hfr.trans (hf3.mono (by simp) : Fr _ _ [b, c])
    refine measure_any ⟨?_, hst.key.fr hf13 hN, hst.val.fr hf13 hN, h3, hst.right.fr hf13 hN (by simp; intro z hz; exact ⟨fun e => hbrr (e ▸ hz), fun e => hcrr (e ▸ hz)⟩)⟩ (by simp [Tn.blks]; exact ⟨fun e => hbc e.symm, hcl', hcrl⟩) hcrr (by simp only [Tn.num] at hn ⊢; omega)
    obtain ⟨s, d, e4⟩ := e4
    exact ⟨s, d, (hf3.block c (heap_lt e4) (by simp; exact fun e => hbc e.symm)).trans e4⟩
  have HFR := Lib.hid hfr
  have HM1 := Lib.hid hm1
  have HM2 := Lib.hid hm2
  clear h hlt hcl hblk hcblk hst hnd hN hfr e1 e2 e3 e4 hst2 hm1 hm2 hn hbc hbl hbrl hbrr hcl' hcrl hcrr
  go_enter Try.func35, Try.ntmps35
  go_wp2_with (first
    | (go_at_call 37; (with_reducible refine HM1.out.mono ?_); rintro e w3 ⟨rfl, h3, hf3⟩; have HM3 := Lib.hid (And.intro (HM2.out _ h3 hf3) hf3); clear h3 hf3)
    | (go_at_call 37; (with_reducible refine HM3.out.1.mono ?_); rintro e w4 ⟨rfl, h4, hf4⟩; have H4 := Lib.hid (And.intro h4 hf4); clear h4 hf4))
  go_ret
  exact ⟨rfl, H4.out.1, HFR.out.trans ((HM3.out.2.mono (by simp)).trans (H4.out.2.mono (by simp)))⟩
end Go.Proofs.Ytklhfegdjadgdaa
