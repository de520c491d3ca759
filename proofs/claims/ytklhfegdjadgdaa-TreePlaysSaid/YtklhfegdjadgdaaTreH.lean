/- apart, sides, without: a key is gone. -/
import Derived.Test.YtklhfegdjadgdaaTreG
namespace Go.Proofs.Ytklhfegdjadgdaa
open Go.RowKit Go.Maps

/-- What apart leaves: the node of the least key, and the others. -/
def ApartPost (w : World) (t : Tn) (e : Ending) (w' : World) : Prop :=
  ∃ (bl : Nat) (kl xl : Bs) (t' : Tn), e = .returned (.tuple #[.pointer (some ⟨bl, 0, none⟩), .pointer t'.adr]) ∧ (∃ (L R : Tn) (s d : Int), w'.heap[bl]? = some (.cells (nodeC kl xl L R s d) 64 (0, 0))) ∧ kl.ok w' ∧ xl.ok w' ∧ t'.At w' ∧ t.flat = (kl.l, xl.l) :: t'.flat ∧ (t'.Bal ∧ t'.ht ≤ t.ht ∧ t.ht ≤ t'.ht + 1) ∧ (bl :: t'.blks).Nodup ∧ (∀ z ∈ bl :: t'.blks, z ∈ t.blks) ∧ Fr w w' t.blks ∧ ∀ z, z ∈ kl.blk ∨ z ∈ xl.blk ∨ z ∈ t'.bys → z ∈ t.bys
set_option maxRecDepth 100000 in
set_option maxHeartbeats 2000000 in
theorem apart_end (b : Nat) (k x : Bs) (r : Tn) (w : World) (h : (Tn.node b k x .nil r).At w) (hnd : (Tn.node b k x .nil r).blks.Nodup) (hbal : (Tn.node b k x .nil r).Bal) :
    Calls Try.prog 38 #[.pointer (some ⟨b, 0, none⟩)] w (ApartPost w (.node b k x .nil r)) := by
  obtain ⟨c0, c1, c2, c3⟩ := node_cells h
  rw [show Tn.nil.adr = none from rfl] at c2
  have HN := Lib.hid (And.intro h (And.intro hnd hbal))
  clear h hnd hbal
  go_enter Try.func38, Try.ntmps38
  go_upto_region 2 with (fail)
  go_quiet (fail)
  go_wp2_with (fail)
  go_ret2
  obtain ⟨h, hnd, hbal⟩ := HN.out
  have hb : Below w.heap.size w (w.drewN nq) := Below.drewN' (Below.refl _ _) _
  have h2 := h.below hb
  obtain ⟨_, q2, _, _⟩ := hbal
  exact ⟨b, k, x, r, rfl, ⟨_, _, _, _, h2.1⟩, h2.2.1, h2.2.2.1, h2.2.2.2.2, rfl, ⟨q2, by simp only [Tn.ht]; omega, by simp only [Tn.ht]; omega⟩, hnd, fun z hz => hz, Fr.of_below hb _, fun z hz => by simp only [Tn.bys, List.append_nil, List.mem_append]; rcases hz with h | h | h <;> simp [h]⟩
set_option maxRecDepth 100000 in
set_option maxHeartbeats 2000000 in
theorem apart_node (b : Nat) (k x : Bs) (c : Nat) (kc xc : Bs) (ll lr r : Tn)
    (ih : ∀ w : World, (Tn.node c kc xc ll lr).At w → (Tn.node c kc xc ll lr).blks.Nodup → (Tn.node c kc xc ll lr).Bal → (Tn.node c kc xc ll lr).num ≤ 1000000 → Calls Try.prog 38 #[.pointer (some ⟨c, 0, none⟩)] w (ApartPost w (.node c kc xc ll lr)))
    (w : World) (h : (Tn.node b k x (.node c kc xc ll lr) r).At w) (hnd : (Tn.node b k x (.node c kc xc ll lr) r).blks.Nodup) (hbal : (Tn.node b k x (.node c kc xc ll lr) r).Bal) (hn : (Tn.node b k x (.node c kc xc ll lr) r).num ≤ 1000000) :
    Calls Try.prog 38 #[.pointer (some ⟨b, 0, none⟩)] w (ApartPost w (.node b k x (.node c kc xc ll lr) r)) := by
  obtain ⟨c0, c1, c2, c3⟩ := node_cells h
  rw [show (Tn.node c kc xc ll lr).adr = some ⟨c, 0, none⟩ from rfl] at c2
  have hcall := ih w h.2.2.2.1 (List.nodup_append.1 (List.nodup_cons.1 hnd).2).1 hbal.1 (by simp only [Tn.num] at hn ⊢; omega)
  have HCA := Lib.hid hcall
  have HN := Lib.hid (And.intro h (And.intro hnd (And.intro hbal hn)))
  clear h hnd hbal hn ih hcall
  obtain ⟨l, hl⟩ : ∃ l, l = Tn.node c kc xc ll lr := ⟨_, rfl⟩
  rw [← hl] at HN HCA ⊢
  have hla : l.adr = some ⟨c, 0, none⟩ := by rw [hl]; rfl
  have HLA := Lib.hid hla
  clear hl hla
  go_enter Try.func38, Try.ntmps38
  go_wp2_with (first
    | (go_at_call 38; (with_reducible refine HCA.out.mono ?_); rintro e w1 ⟨bl, kl, xl, t', rfl, p1, p2, p3, p4, p5, p6, p7, p8, p9, p10⟩; obtain ⟨g1, g2, hre⟩ := rebal_left HN.out.1 HN.out.2.1 p4 p9 (List.nodup_cons.1 p7).2 (fun z hz => .inl (p8 z (List.mem_cons_of_mem _ hz))) (by have h1 := congrArg List.length p5; rw [Tn.flat_len, List.length_cons, Tn.flat_len] at h1; have := HN.out.2.2.2; simp only [Tn.num] at this ⊢; omega); rw [HLA.out] at g1; have HRE := Lib.hid hre; have HP := Lib.hid (And.intro p1 (And.intro p2 (And.intro p3 (And.intro p5 (And.intro p6 (And.intro p7 (And.intro p8 (And.intro p4 (And.intro p9 p10))))))))); clear p1 p2 p3 p4 p5 p6 p7 p8 p9 p10 hre HCA)
    | (go_at_call 32; (with_reducible refine HRE.out.mono ?_); rintro e w2 ⟨rfl, q1, q2, q3, q4, q5⟩; have HQ := Lib.hid (And.intro q1 (And.intro q2 (And.intro q3 (And.intro q4 q5)))); clear q1 q2 q3 q4 q5 HRE))
  go_ret2
  obtain ⟨q1, q2, q3, q4, q5⟩ := HQ.out
  obtain ⟨⟨L, R, s, d, p1⟩, p2, p3, p5, p6, p7, p8, p4, p9, p10⟩ := HP.out
  obtain ⟨h, hnd, hbal, hn⟩ := HN.out
  obtain ⟨hbn, hnd2⟩ := List.nodup_cons.1 hnd
  obtain ⟨hndl, hndr, hdis⟩ := List.nodup_append.1 hnd2
  have hbl := p8 bl (List.mem_cons_self ..)
  have hnb : bl ∉ (Tn.node b k x t' r).blks := fun hm => by
    simp only [Tn.blks, List.mem_cons, List.mem_append] at hm
    rcases hm with rfl | hm | hm
    · exact hbn (List.mem_append_left _ hbl)
    · exact (List.nodup_cons.1 p7).1 hm
    · exact hdis bl hbl bl hm rfl
  have hsub : ∀ z ∈ (Tn.node b k x t' r).blks, z ∈ (Tn.node b k x l r).blks := fun z hz => by
    simp only [Tn.blks, List.mem_cons, List.mem_append] at hz ⊢
    rcases hz with rfl | hz | hz
    · exact .inl rfl
    · exact .inr (.inl (p8 z (List.mem_cons_of_mem _ hz)))
    · exact .inr (.inr hz)
  have hN : ∀ z ∈ (Tn.node b k x t' r).blks, NoBytes w1 z := fun z hz => by
    simp only [Tn.blks, List.mem_cons, List.mem_append] at hz
    rcases hz with rfl | hz | hz
    · intro cs fr hg
      have := (p9.block z (heap_lt h.1) (fun hm => hbn (List.mem_append_left _ hm))).trans h.1
      rw [this] at hg
      cases hg
    · exact (p4.lt z hz).2
    · exact ((h.2.2.2.2.fr p9 (fun y hy => (h.2.2.2.1.lt y hy).2) (fun y hy hm => hdis y hm y hy rfl)).lt z hz).2
  refine ⟨bl, kl, xl, (Tn.node b k x t' r).bal, rfl, ⟨L, R, s, d, (q5.block bl (heap_lt p1) hnb).trans p1⟩, p2.fr q5 hN, p3.fr q5 hN, q1, ?_, del_left hbal p6.1 p6.2.1 p6.2.2, List.nodup_cons.2 ⟨fun hm => hnb ((Tn.bal_blks _).mem_iff.1 hm), q3⟩, fun z hz => ?_, q2, fun z hz => ?_⟩
  · rw [Tn.bal_flat]
    simp only [Tn.flat]
    rw [p5]
    rfl
  · rcases List.mem_cons.1 hz with rfl | hz
    · simp only [Tn.blks, List.mem_cons, List.mem_append]; exact .inr (.inl hbl)
    · exact hsub z ((Tn.bal_blks _).mem_iff.1 hz)
  · simp only [Tn.bys, List.mem_append]
    rcases hz with hz | hz | hz
    · exact .inl (.inr (p10 z (.inl hz)))
    · exact .inl (.inr (p10 z (.inr (.inl hz))))
    · have hz2 := Tn.bal_bys _ z hz
      simp only [Tn.bys, List.mem_append] at hz2
      rcases hz2 with ((h | h) | h) | h
      · exact .inl (.inl (.inl h))
      · exact .inl (.inl (.inr h))
      · exact .inl (.inr (p10 z (.inr (.inr h))))
      · exact .inr h
theorem apart_any (b : Nat) (k x : Bs) (l r : Tn) : ∀ w : World, (Tn.node b k x l r).At w → (Tn.node b k x l r).blks.Nodup → (Tn.node b k x l r).Bal → (Tn.node b k x l r).num ≤ 1000000 → Calls Try.prog 38 #[.pointer (some ⟨b, 0, none⟩)] w (ApartPost w (.node b k x l r)) := by
  induction l generalizing b k x r with
  | nil => intro w h1 h2 h3 h4; exact apart_end b k x r w h1 h2 h3
  | node c kc xc ll lr ihl _ => intro w h1 h2 h3 h4; exact apart_node b k x c kc xc ll lr r (ihl c kc xc lr) w h1 h2 h3 h4
/-- What sides and without leave: the pairs but one. -/
def LessPost (w : World) (t : Tn) (flat : List Pr) (e : Ending) (w' : World) : Prop :=
  ∃ t' : Tn, e = .returned (.pointer t'.adr) ∧ t'.At w' ∧ t'.flat = flat ∧ (t'.Bal ∧ t'.ht ≤ t.ht ∧ t.ht ≤ t'.ht + 1) ∧ t'.blks.Nodup ∧ (∀ z ∈ t'.blks, z ∈ t.blks) ∧ Fr w w' t.blks ∧ ∀ z ∈ t'.bys, z ∈ t.bys
set_option maxRecDepth 100000 in
set_option maxHeartbeats 2000000 in
theorem sides_any (b : Nat) (k x : Bs) (l r : Tn) (w : World) (h : (Tn.node b k x l r).At w) (hnd : (Tn.node b k x l r).blks.Nodup) (hbal : (Tn.node b k x l r).Bal) (hn : (Tn.node b k x l r).num ≤ 1000000) :
    Calls Try.prog 34 #[.pointer (some ⟨b, 0, none⟩)] w (LessPost w (.node b k x l r) (l.flat ++ r.flat)) := by
  obtain ⟨c0, c1, c2, c3⟩ := node_cells h
  cases r with
  | nil =>
    rw [show Tn.nil.adr = none from rfl] at c3
    have HN := Lib.hid (And.intro h (And.intro hnd hbal))
    clear h hnd hbal hn
    go_enter Try.func34, Try.ntmps34
    go_wp2_with (fail)
    go_ret
    obtain ⟨h, hnd, q1, _, _, _⟩ := HN.out
    exact ⟨l, rfl, h.2.2.2.1, by simp [Tn.flat], ⟨q1, by simp only [Tn.ht]; omega, by simp only [Tn.ht]; omega⟩, (List.nodup_append.1 (List.nodup_cons.1 hnd).2).1, fun z hz => by simp [Tn.blks, hz], Fr.refl _ _, fun z hz => by simp [Tn.bys, hz]⟩
  | node c kc xc rl rr =>
    have hcall := apart_any c kc xc rl rr w h.2.2.2.2 (List.nodup_append.1 (List.nodup_cons.1 hnd).2).2.1 hbal.2.1 (by simp only [Tn.num] at hn ⊢; omega)
    rw [show (Tn.node c kc xc rl rr).adr = some ⟨c, 0, none⟩ from rfl] at c3
    have hst : ∀ (w1 : World) (bl : Nat) (kl xl : Bs) (t' : Tn), (∃ (L R : Tn) (s d : Int), w1.heap[bl]? = some (.cells (nodeC kl xl L R s d) 64 (0, 0))) → kl.ok w1 → xl.ok w1 → t'.At w1 → (Tn.node c kc xc rl rr).flat = (kl.l, xl.l) :: t'.flat → (t'.Bal ∧ t'.ht ≤ (Tn.node c kc xc rl rr).ht ∧ (Tn.node c kc xc rl rr).ht ≤ t'.ht + 1) → (bl :: t'.blks).Nodup → (∀ z ∈ bl :: t'.blks, z ∈ (Tn.node c kc xc rl rr).blks) → Fr w w1 (Tn.node c kc xc rl rr).blks → (∀ z, z ∈ kl.blk ∨ z ∈ xl.blk ∨ z ∈ t'.bys → z ∈ (Tn.node c kc xc rl rr).bys) →
        w1.cell? ⟨b, 2, none⟩ = some (.pointer l.adr) ∧ (∃ v2, w1.cell? ⟨bl, 2, none⟩ = some (.pointer v2)) ∧ w1.frozen? ⟨bl, 2, none⟩ = false ∧ (∃ v3, (w1.setCell ⟨bl, 2, none⟩ (.pointer l.adr)).cell? ⟨bl, 3, none⟩ = some (.pointer v3)) ∧ (w1.setCell ⟨bl, 2, none⟩ (.pointer l.adr)).frozen? ⟨bl, 3, none⟩ = false ∧
        Calls Try.prog 32 #[.pointer (some ⟨bl, 0, none⟩)] ((w1.setCell ⟨bl, 2, none⟩ (.pointer l.adr)).setCell ⟨bl, 3, none⟩ (.pointer t'.adr)) (LessPost w (.node b k x l (.node c kc xc rl rr)) (l.flat ++ (Tn.node c kc xc rl rr).flat)) := by
      intro w1 bl kl xl t' ⟨L, R, s, d, p1⟩ p2 p3 p4 p5 p6 p7 p8 p9 p10
      obtain ⟨hbn, hnd2⟩ := List.nodup_cons.1 hnd
      obtain ⟨hndl, hndr, hdis⟩ := List.nodup_append.1 hnd2
      have hbl := p8 bl (List.mem_cons_self ..)
      have hNr : ∀ z ∈ (Tn.node c kc xc rl rr).blks, NoBytes w z := fun z hz => (h.2.2.2.2.lt z hz).2
      have hg1 := (p9.block b (heap_lt h.1) (fun hm => hbn (List.mem_append_right _ hm))).trans h.1
      have hl1 := h.2.2.2.1.fr p9 hNr (fun z hz hm => hdis z hz z hm rfl)
      have hs1 := heap_setCell_same w1 bl 2 _ _ (.pointer l.adr) p1
      have hs2 := heap_setCell_same _ bl 3 _ _ (.pointer t'.adr) hs1
      have hNb : ∀ z ∈ [bl], NoBytes w1 z := by intro z hz cs fr hz2; simp at hz; subst hz; rw [p1] at hz2; cases hz2
      have hf2 : Fr w1 ((w1.setCell ⟨bl, 2, none⟩ (.pointer l.adr)).setCell ⟨bl, 3, none⟩ (.pointer t'.adr)) [bl] := ((Fr.refl w1 [bl]).setCell (by simp) _).setCell (by simp) _
      have hblt : bl ∉ t'.blks := (List.nodup_cons.1 p7).1
      have hbll : bl ∉ l.blks := fun hm => hdis bl hm bl hbl rfl
      have hnd3 : (Tn.node bl kl xl l t').blks.Nodup := List.nodup_cons.2 ⟨fun hm => by
        rcases List.mem_append.1 hm with h1 | h1
        · exact hbll h1
        · exact hblt h1, List.nodup_append.2 ⟨hndl, (List.nodup_cons.1 p7).2, fun z hz y hy e => by subst e; exact hdis z hz z (p8 z (List.mem_cons_of_mem _ hy)) rfl⟩⟩
      have hst : Stale ((w1.setCell ⟨bl, 2, none⟩ (.pointer l.adr)).setCell ⟨bl, 3, none⟩ (.pointer t'.adr)) bl kl xl l t' :=
        ⟨⟨s, d, by simpa [nodeC] using hs2⟩, p2.fr hf2 hNb, p3.fr hf2 hNb, hl1.fr hf2 hNb (fun z hz hm => by simp at hm; subst hm; exact hbll hz), p4.fr hf2 hNb (fun z hz hm => by simp at hm; subst hm; exact hblt hz)⟩
      refine ⟨cell_of_row w1 b 2 _ _ _ hg1, ⟨_, cell_of_row w1 bl 2 _ _ _ p1⟩, frozen_of_row w1 bl 2 _ _ p1, ⟨R.adr, by have := cell_of_row _ bl 3 _ _ _ hs1; rw [this]; simp [nodeC]⟩, frozen_of_row _ bl 3 _ _ hs1, ?_⟩
      have hnum : (Tn.node bl kl xl l t').num ≤ 1000000 := by
        have h1 := congrArg List.length p5
        rw [Tn.flat_len, List.length_cons, Tn.flat_len] at h1
        simp only [Tn.num] at hn h1 ⊢
        omega
      refine (balanced_any hst hnd3 hnum).mono ?_
      rintro e w' ⟨h1, h2, h3⟩
      have hsub : ∀ z ∈ (Tn.node bl kl xl l t').blks, z ∈ (Tn.node b k x l (.node c kc xc rl rr)).blks := fun z hz => by
        rcases List.mem_cons.1 hz with rfl | hz
        · exact List.mem_cons_of_mem _ (List.mem_append_right _ hbl)
        · rcases List.mem_append.1 hz with hz | hz
          · exact List.mem_cons_of_mem _ (List.mem_append_left _ hz)
          · exact List.mem_cons_of_mem _ (List.mem_append_right _ (p8 z (List.mem_cons_of_mem _ hz)))
      refine ⟨_, h1, h2, ?_, del_right (b := bl) (k := kl) (x := xl) (l := l) (r := .node c kc xc rl rr) hbal p6.1 p6.2.1 p6.2.2, (Tn.bal_blks _).nodup_iff.2 hnd3, fun z hz => hsub z ((Tn.bal_blks _).mem_iff.1 hz), ?_, fun z hz => ?_⟩
      · rw [Tn.bal_flat, p5]
        rfl
      · exact (p9.mono (fun z hz => List.mem_cons_of_mem _ (List.mem_append_right _ hz))).trans ((hf2.mono (fun z hz => by simp at hz; subst hz; exact List.mem_cons_of_mem _ (List.mem_append_right _ hbl))).trans (h3.mono hsub))
      · have hz2 := Tn.bal_bys _ z hz
        rw [Tn.bys, List.mem_append, List.mem_append, List.mem_append] at hz2
        rw [Tn.bys, List.mem_append, List.mem_append, List.mem_append]
        rcases hz2 with ((h | h) | h) | h
        · exact .inr (p10 z (.inl h))
        · exact .inr (p10 z (.inr (.inl h)))
        · exact .inl (.inr h)
        · exact .inr (p10 z (.inr (.inr h)))
    have HCA := Lib.hid hcall
    have HST := Lib.hid hst
    clear h hnd hbal hn hcall hst c0 c1 c2
    go_enter Try.func34, Try.ntmps34
    go_wp2_with (first
      | (go_at_call 38; (with_reducible refine HCA.out.mono ?_); rintro e w1 ⟨bl, kl, xl, t', rfl, p1, p2, p3, p4, p5, p6, p7, p8, p9, p10⟩; obtain ⟨g1, ⟨v2, g2⟩, g3, ⟨v3, g4⟩, g5, hre⟩ := HST.out w1 bl kl xl t' p1 p2 p3 p4 p5 p6 p7 p8 p9 p10; have HRE := Lib.hid hre; clear p1 p2 p3 p4 p5 p6 p7 p8 p9 p10 hre HCA)
      | (go_at_call 32; (with_reducible refine HRE.out.mono ?_); rintro e w2 ⟨t2, rfl, hp⟩; have HP := Lib.hid hp; clear hp HRE))
    go_ret
    exact ⟨t2, rfl, HP.out⟩
end Go.Proofs.Ytklhfegdjadgdaa
