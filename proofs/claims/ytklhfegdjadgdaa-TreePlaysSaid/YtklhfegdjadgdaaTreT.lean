/- A tree's clone. -/
import Derived.Test.YtklhfegdjadgdaaTreL
namespace Go.Proofs.Ytklhfegdjadgdaa
open Go.RowKit Go.Maps

/-- What a clone of nodes leaves. -/
def ClonePost (w : World) (t : Tn) (e : Ending) (w' : World) : Prop :=
  ∃ t' : Tn, e = .returned (.pointer t'.adr) ∧ t'.At w' ∧ t'.flat = t.flat ∧ t'.ht = t.ht ∧ t'.Bal ∧ t'.blks.Nodup ∧ (∀ z ∈ t'.blks, w.heap.size ≤ z) ∧ Below w.heap.size w w' ∧ (∀ z ∈ t'.blks, z < w'.heap.size) ∧ ∀ z ∈ t'.bys, w.heap.size ≤ z
set_option maxRecDepth 100000 in
theorem clone_nil (w : World) : Calls Try.prog 30 #[.pointer Tn.nil.adr] w (ClonePost w .nil) := by
  unfold Tn.adr
  go_enter Try.func30, Try.ntmps30
  go_wp2
  go_ret
  exact ⟨.nil, rfl, trivial, rfl, rfl, trivial, List.nodup_nil, by simp [Tn.blks], Below.refl _ _, by simp [Tn.blks], by simp [Tn.bys]⟩
set_option maxRecDepth 100000 in
set_option maxHeartbeats 4000000 in
theorem clone_node (b : Nat) (k x : Bs) (l r : Tn)
    (ihl : ∀ w : World, l.At w → l.Bal → Calls Try.prog 30 #[.pointer l.adr] w (ClonePost w l))
    (ihr : ∀ w : World, r.At w → r.Bal → Calls Try.prog 30 #[.pointer r.adr] w (ClonePost w r))
    (w : World) (h : (Tn.node b k x l r).At w) (hbal : (Tn.node b k x l r).Bal) : Calls Try.prog 30 #[.pointer (some ⟨b, 0, none⟩)] w (ClonePost w (.node b k x l r)) := by
  obtain ⟨N, hN⟩ : ∃ N, N = (Tn.node b k x l r).num := ⟨_, rfl⟩
  obtain ⟨H, hH⟩ : ∃ H, H = (Tn.node b k x l r).ht := ⟨_, rfl⟩
  have hpo := pairOf_any k x w.heap.size w.drew h.2.1.1.1 h.2.2.1.1.1 (Nat.le_refl _) h.2.1.2.2.2 h.2.2.1.2.2.2
  have hl := fun W (hb : Below w.heap.size w W) => ihl W (h.2.2.2.1.below hb) hbal.1
  have hr := fun W (hb : Below w.heap.size w W) => ihr W (h.2.2.2.2.below hb) hbal.2.1
  have hks : ∀ W, Below w.heap.size w W → W.cell? ⟨b, 0, none⟩ = some (.slice k.A k.l.length k.c) ∧ W.cell? ⟨b, 1, none⟩ = some (.slice x.A x.l.length x.c) ∧ W.cell? ⟨b, 2, none⟩ = some (.pointer l.adr) ∧ W.cell? ⟨b, 3, none⟩ = some (.pointer r.adr) ∧ W.cell? ⟨b, 4, none⟩ = some (.int .i64 (N : Int)) ∧ W.cell? ⟨b, 5, none⟩ = some (.int .i64 (H : Int)) := fun W hb => by
    have h1 := (h.below hb).1
    rw [← hN, ← hH] at h1
    exact ⟨cell_of_row W b 0 _ _ _ h1, cell_of_row W b 1 _ _ _ h1, cell_of_row W b 2 _ _ _ h1, cell_of_row W b 3 _ _ _ h1, cell_of_row W b 4 _ _ _ h1, cell_of_row W b 5 _ _ _ h1⟩
  have HPO := Lib.hid hpo
  have HL := Lib.hid hl
  have HR := Lib.hid hr
  have KS := Lib.hid hks
  have HN := Lib.hid (And.intro hN (And.intro hH hbal))
  have h0 := hks w.drew (Below.refl _ _).drew
  clear hpo hl hr hks hN hH hbal h ihl ihr
  go_enter Try.func30, Try.ntmps30
  go_upto_region 3 with (fail)
  go_region_held3 (fun W => W.cell? ⟨b, 0, none⟩ = some (.slice k.A k.l.length k.c) ∧ W.cell? ⟨b, 1, none⟩ = some (.slice x.A x.l.length x.c) ∧ W.cell? ⟨b, 2, none⟩ = some (.pointer l.adr) ∧ W.cell? ⟨b, 3, none⟩ = some (.pointer r.adr) ∧ W.cell? ⟨b, 4, none⟩ = some (.int .i64 (N : Int)) ∧ W.cell? ⟨b, 5, none⟩ = some (.int .i64 (H : Int)))
    (first | assumption | exact KS.out _ B3.out | exact KS.out _ (B3.out.alloc B3.out.size _) | exact KS.out _ B2.out | exact KS.out _ B1.out | exact KS.out _ (Below.refl _ _).drew)
    (first
      | (go_at_call 31; (with_reducible refine HPO.out.mono ?_); rintro e w1 ⟨k', x', rfl, r1, r2, r3, r4, r5, r6, r7⟩; have B1 := Lib.hid ((Below.refl _ w).drew.trans (r7 : Below w.heap.size _ _)); have HL1 := Lib.hid (HL.out w1 B1.out); have H1 := Lib.hid (And.intro r1 (And.intro r2 (And.intro r3 r4))); have H1b := Lib.hid (And.intro r5 r6); clear r1 r2 r3 r4 r5 r6 r7 HPO)
      | (go_at_call 30; (with_reducible refine HL1.out.mono ?_); rintro e w2 ⟨l', rfl, p1, p2, p3, p4, p5, p6, p7, p8, p9⟩; have B2 := Lib.hid (B1.out.trans (lower' p7 B1.out.size)); have HR2 := Lib.hid (HR.out w2 B2.out); have H2 := Lib.hid (And.intro p1 (And.intro p2 (And.intro p3 (And.intro p4 (And.intro p5 (And.intro p6 (And.intro p7 (And.intro p8 p9)))))))); clear p1 p2 p3 p4 p5 p6 p7 p8 p9 HL1)
      | (go_at_call 30; (with_reducible refine HR2.out.mono ?_); rintro e w3 ⟨r', rfl, p1, p2, p3, p4, p5, p6, p7, p8, p9⟩; have B3 := Lib.hid (B2.out.trans (lower' p7 B2.out.size)); have H3 := Lib.hid (And.intro p1 (And.intro p2 (And.intro p3 (And.intro p4 (And.intro p5 (And.intro p6 (And.intro p7 (And.intro p8 p9)))))))); clear p1 p2 p3 p4 p5 p6 p7 p8 p9 HR2))
  all_goals
    go_wp2_with (fail)
    go_ret
    obtain ⟨a1, a2, a3, a4⟩ := H1.out
    obtain ⟨l1, l2, l3, l4, l5, l6, l7, l8, l9⟩ := H2.out
    obtain ⟨r1, r2, r3, r4, r5, r6, r7, r8, r9⟩ := H3.out
    obtain ⟨n1, n2, n3⟩ := HN.out
    have hb := (Below.refl w3.heap.size w3).alloc (Nat.le_refl _) (.cells (nodeC k' x' l' r' (N : Int) (H : Int)) 64)
    have e1 : (Tn.node w3.heap.size k' x' l' r').num = N := by
      have q1 := Tn.num_of_flat l2
      have q2 := Tn.num_of_flat r2
      rw [n1]
      simp only [Tn.num, q1, q2]
    have e2 : (Tn.node w3.heap.size k' x' l' r').ht = H := by
      rw [n2]
      simp only [Tn.ht, l3, r3]
    have hw12 : w1.heap.size ≤ w2.heap.size := l7.size
    have hw23 : w2.heap.size ≤ w3.heap.size := r7.size
    have hw01 := B1.out.size
    refine ⟨.node w3.heap.size k' x' l' r', rfl, ⟨?_, ((a3.below l7).below r7).below hb, ((a4.below l7).below r7).below hb, (l1.below r7).below hb, r1.below hb⟩, ?_, ?_, ⟨l4, r4, ?_, ?_⟩, ?_, ?_, B3.out.trans (lower' hb B3.out.size), ?_, ?_⟩
    · rw [e1, e2]
      exact heap_alloc_new w3 _
    · simp only [Tn.flat, l2, r2, a1, a2]
    · rw [e2]; exact n2
    · rw [l3, r3]; exact n3.2.2.1
    · rw [l3, r3]; exact n3.2.2.2
    · refine List.nodup_cons.2 ⟨fun hm => ?_, List.nodup_append.2 ⟨l5, r5, fun z hz y hy e => ?_⟩⟩
      · rcases List.mem_append.1 hm with hm | hm
        · have := l8 _ hm; omega
        · have := r8 _ hm; omega
      · subst e
        have := l8 _ hz
        have := r6 _ hy
        omega
    · intro z hz
      simp only [Tn.blks, List.mem_cons, List.mem_append] at hz
      rcases hz with rfl | hz | hz
      · omega
      · have := l6 z hz; omega
      · have := r6 z hz; omega
    · intro z hz
      simp only [Tn.blks, List.mem_cons, List.mem_append] at hz
      simp
      rcases hz with rfl | hz | hz
      · omega
      · have := l8 z hz; omega
      · have := r8 z hz; omega
    · intro z hz
      simp only [Tn.bys, List.mem_append] at hz
      rcases hz with ((h | h) | h) | h
      · exact blk_new H1b.out.1 z h
      · exact blk_new H1b.out.2 z h
      · have := l9 z h; omega
      · have := r9 z h; omega
theorem clone_nodes (t : Tn) : ∀ w : World, t.At w → t.Bal → Calls Try.prog 30 #[.pointer t.adr] w (ClonePost w t) := by
  induction t with
  | nil => intro w _ _; exact clone_nil w
  | node b k x l r ihl ihr => intro w h1 h2; exact clone_node b k x l r ihl ihr w h1 h2
set_option maxRecDepth 100000 in
theorem tclone_any {w : World} {lo p : Nat} {L : List Pr} (h : TreeW w lo p L) : Calls Try.prog 22 #[.pointer (some ⟨p, 0, none⟩)] w fun e w' => ∃ q : Nat, e = .returned (.pointer (some ⟨q, 0, none⟩)) ∧ TreeW w' w.heap.size q L ∧ Below w.heap.size w w' := by
  obtain ⟨t, h1, rfl, _⟩ := h
  have hc := clone_nodes t w h1.nodes h1.bal
  have HC := Lib.hid hc
  have HR := Lib.hid h1.ris
  obtain ⟨c0, _⟩ := h1.root
  clear h1 hc
  go_enter Try.func22, Try.ntmps22
  go_wp2_with (go_at_call 30; (with_reducible refine HC.out.mono ?_); rintro e w1 ⟨t', rfl, p1, p2, p3, p4, p5, p6, p7, p8, _⟩; have HP := Lib.hid (And.intro p1 (And.intro p2 (And.intro p4 (And.intro p5 (And.intro p6 p7))))); clear p1 p2 p3 p4 p5 p6 p7 p8 HC)
  go_ret
  obtain ⟨p1, p2, p4, p5, p6, p7⟩ := HP.out
  have hb := (Below.refl w1.heap.size w1).alloc (Nat.le_refl _) (.cells #[.pointer t'.adr] 39)
  exact ⟨w1.heap.size, rfl, ⟨t', ⟨heap_alloc_new w1 _, p1.below hb, p5, p4, by rw [p2]; exact HR.out⟩, p2, p7.size, p6⟩, p7.trans (lower' hb p7.size)⟩
end Go.Proofs.Ytklhfegdjadgdaa
