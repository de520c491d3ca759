/- A node's side is turned, and it is balanced; pairOf; with. -/
import Derived.Test.YtklhfegdjadgdaaTreE
namespace Go.Proofs.Ytklhfegdjadgdaa
open Go.RowKit Go.Maps

/-- What a node leaves whose side was turned. -/
def Rebal (w w1 : World) (b : Nat) (k x : Bs) (l r : Tn) (old : List Nat) (e : Ending) (w' : World) : Prop :=
  e = .returned (.pointer (Tn.node b k x l r).bal.adr) ∧ (Tn.node b k x l r).bal.At w' ∧ Fr w w' old ∧ (Tn.node b k x l r).bal.blks.Nodup ∧ (∀ z ∈ (Tn.node b k x l r).bal.blks, z ∈ old ∨ w.heap.size ≤ z) ∧ Fr w1 w' (Tn.node b k x l r).blks
theorem rebal_left {w w1 : World} {b : Nat} {k x : Bs} {l r l' : Tn} (h : (Tn.node b k x l r).At w) (hnd : (Tn.node b k x l r).blks.Nodup) (hl : l'.At w1) (hf : Fr w w1 l.blks) (hnd' : l'.blks.Nodup) (hsub : ∀ z ∈ l'.blks, z ∈ l.blks ∨ w.heap.size ≤ z) (hn : (Tn.node b k x l' r).num ≤ 1000000) :
    w1.cell? ⟨b, 2, none⟩ = some (.pointer l.adr) ∧ w1.frozen? ⟨b, 2, none⟩ = false ∧
    Calls Try.prog 32 #[.pointer (some ⟨b, 0, none⟩)] (w1.setCell ⟨b, 2, none⟩ (.pointer l'.adr)) (Rebal w w1 b k x l' r (Tn.node b k x l r).blks) := by
  obtain ⟨hbn, hnd2⟩ := List.nodup_cons.1 hnd
  obtain ⟨hndl, hndr, hdis⟩ := List.nodup_append.1 hnd2
  have hbl : b ∉ l.blks := fun h => hbn (List.mem_append_left _ h)
  have hbr : b ∉ r.blks := fun h => hbn (List.mem_append_right _ h)
  have hlt := h.lt
  have hN : ∀ z ∈ l.blks, NoBytes w z := fun z hz => (hlt z (by simp [Tn.blks, hz])).2
  have hrl : ∀ z ∈ r.blks, z ∉ l.blks := fun z hz hm => hdis z hm z hz rfl
  have hg1 : w1.heap[b]? = some (.cells (nodeC k x l r ((Tn.node b k x l r).num : Int) ((Tn.node b k x l r).ht : Int)) 64 (0, 0)) := (hf.block b (heap_lt h.1) hbl).trans h.1
  have hbl' : b ∉ l'.blks := fun hm => by
    rcases hsub b hm with h1 | h1
    · exact hbl h1
    · have := heap_lt h.1; omega
  have hNb : ∀ z ∈ [b], NoBytes w1 z := by intro z hz cs fr hz2; simp at hz; subst hz; rw [hg1] at hz2; cases hz2
  have hf2 : Fr w1 (w1.setCell ⟨b, 2, none⟩ (.pointer l'.adr)) [b] := (Fr.refl w1 [b]).setCell (by simp) _
  have hst : Stale (w1.setCell ⟨b, 2, none⟩ (.pointer l'.adr)) b k x l' r :=
    ⟨Stale.setLeft (l' := l') ⟨_, _, hg1⟩, (h.2.1.fr hf hN).fr hf2 hNb, (h.2.2.1.fr hf hN).fr hf2 hNb, hl.fr hf2 hNb (fun z hz hm => by simp at hm; subst hm; exact hbl' hz), (h.2.2.2.2.fr hf hN hrl).fr hf2 hNb (fun z hz hm => by simp at hm; subst hm; exact hbr hz)⟩
  have hnd3 : (Tn.node b k x l' r).blks.Nodup := by
    refine List.nodup_cons.2 ⟨fun hm => ?_, List.nodup_append.2 ⟨hnd', hndr, fun z hz y hy e => ?_⟩⟩
    · rcases List.mem_append.1 hm with h1 | h1
      · exact hbl' h1
      · exact hbr h1
    · subst e
      rcases hsub z hz with h1 | h1
      · exact hdis z h1 z hy rfl
      · have := (hlt z (by simp [Tn.blks, hy])).1; omega
  refine ⟨cell_of_row w1 b 2 _ _ _ hg1, frozen_of_row w1 b 2 _ _ hg1, (balanced_any hst hnd3 hn).mono ?_⟩
  rintro e w' ⟨h1, h2, h3⟩
  have hz1 : w.heap.size ≤ w1.heap.size := hf.size
  refine ⟨h1, h2, ?_, (Tn.bal_blks _).nodup_iff.2 hnd3, fun z hz => ?_, (hf2.mono (by simp [Tn.blks])).trans h3⟩
  · refine (hf.mono (S' := (Tn.node b k x l r).blks) (fun z hz => by simp [Tn.blks, hz])).more ((hf2.mono (S' := (Tn.node b k x l' r).blks) (by simp [Tn.blks])).trans h3) (fun z hz => ?_)
    simp only [Tn.blks, List.mem_cons, List.mem_append] at hz ⊢
    rcases hz with rfl | hz | hz
    · exact .inl (.inl rfl)
    · rcases hsub z hz with h | h
      · exact .inl (.inr (.inl h))
      · exact .inr h
    · exact .inl (.inr (.inr hz))
  · have hz2 := (Tn.bal_blks _).mem_iff.1 hz
    simp only [Tn.blks, List.mem_cons, List.mem_append] at hz2 ⊢
    rcases hz2 with rfl | hz2 | hz2
    · exact .inl (.inl rfl)
    · rcases hsub z hz2 with h | h
      · exact .inl (.inr (.inl h))
      · exact .inr h
    · exact .inl (.inr (.inr hz2))
theorem rebal_right {w w1 : World} {b : Nat} {k x : Bs} {l r r' : Tn} (h : (Tn.node b k x l r).At w) (hnd : (Tn.node b k x l r).blks.Nodup) (hr : r'.At w1) (hf : Fr w w1 r.blks) (hnd' : r'.blks.Nodup) (hsub : ∀ z ∈ r'.blks, z ∈ r.blks ∨ w.heap.size ≤ z) (hn : (Tn.node b k x l r').num ≤ 1000000) :
    w1.cell? ⟨b, 3, none⟩ = some (.pointer r.adr) ∧ w1.frozen? ⟨b, 3, none⟩ = false ∧
    Calls Try.prog 32 #[.pointer (some ⟨b, 0, none⟩)] (w1.setCell ⟨b, 3, none⟩ (.pointer r'.adr)) (Rebal w w1 b k x l r' (Tn.node b k x l r).blks) := by
  obtain ⟨hbn, hnd2⟩ := List.nodup_cons.1 hnd
  obtain ⟨hndl, hndr, hdis⟩ := List.nodup_append.1 hnd2
  have hbl : b ∉ l.blks := fun h => hbn (List.mem_append_left _ h)
  have hbr : b ∉ r.blks := fun h => hbn (List.mem_append_right _ h)
  have hlt := h.lt
  have hN : ∀ z ∈ r.blks, NoBytes w z := fun z hz => (hlt z (by simp [Tn.blks, hz])).2
  have hlr : ∀ z ∈ l.blks, z ∉ r.blks := fun z hz hm => hdis z hz z hm rfl
  have hg1 : w1.heap[b]? = some (.cells (nodeC k x l r ((Tn.node b k x l r).num : Int) ((Tn.node b k x l r).ht : Int)) 64 (0, 0)) := (hf.block b (heap_lt h.1) hbr).trans h.1
  have hbr' : b ∉ r'.blks := fun hm => by
    rcases hsub b hm with h1 | h1
    · exact hbr h1
    · have := heap_lt h.1; omega
  have hNb : ∀ z ∈ [b], NoBytes w1 z := by intro z hz cs fr hz2; simp at hz; subst hz; rw [hg1] at hz2; cases hz2
  have hf2 : Fr w1 (w1.setCell ⟨b, 3, none⟩ (.pointer r'.adr)) [b] := (Fr.refl w1 [b]).setCell (by simp) _
  have hst : Stale (w1.setCell ⟨b, 3, none⟩ (.pointer r'.adr)) b k x l r' :=
    ⟨Stale.setRight (r' := r') ⟨_, _, hg1⟩, (h.2.1.fr hf hN).fr hf2 hNb, (h.2.2.1.fr hf hN).fr hf2 hNb, (h.2.2.2.1.fr hf hN hlr).fr hf2 hNb (fun z hz hm => by simp at hm; subst hm; exact hbl hz), hr.fr hf2 hNb (fun z hz hm => by simp at hm; subst hm; exact hbr' hz)⟩
  have hnd3 : (Tn.node b k x l r').blks.Nodup := by
    refine List.nodup_cons.2 ⟨fun hm => ?_, List.nodup_append.2 ⟨hndl, hnd', fun z hz y hy e => ?_⟩⟩
    · rcases List.mem_append.1 hm with h1 | h1
      · exact hbl h1
      · exact hbr' h1
    · subst e
      rcases hsub z hy with h1 | h1
      · exact hdis z hz z h1 rfl
      · have := (hlt z (by simp [Tn.blks, hz])).1; omega
  refine ⟨cell_of_row w1 b 3 _ _ _ hg1, frozen_of_row w1 b 3 _ _ hg1, (balanced_any hst hnd3 hn).mono ?_⟩
  rintro e w' ⟨h1, h2, h3⟩
  refine ⟨h1, h2, ?_, (Tn.bal_blks _).nodup_iff.2 hnd3, fun z hz => ?_, (hf2.mono (by simp [Tn.blks])).trans h3⟩
  · refine (hf.mono (S' := (Tn.node b k x l r).blks) (fun z hz => by simp [Tn.blks, hz])).more ((hf2.mono (S' := (Tn.node b k x l r').blks) (by simp [Tn.blks])).trans h3) (fun z hz => ?_)
    simp only [Tn.blks, List.mem_cons, List.mem_append] at hz ⊢
    rcases hz with rfl | hz | hz
    · exact .inl (.inl rfl)
    · exact .inl (.inr (.inl hz))
    · rcases hsub z hz with h | h
      · exact .inl (.inr (.inr h))
      · exact .inr h
  · have hz2 := (Tn.bal_blks _).mem_iff.1 hz
    simp only [Tn.blks, List.mem_cons, List.mem_append] at hz2 ⊢
    rcases hz2 with rfl | hz2 | hz2
    · exact .inl (.inl rfl)
    · exact .inl (.inr (.inl hz2))
    · rcases hsub z hz2 with h | h
      · exact .inl (.inr (.inr h))
      · exact .inr h
set_option maxRecDepth 100000 in
theorem resPair {w : World} {b : Nat} {v0 v1 : Value} (h : w.heap[b]? = some (.cells #[v0, v1] 42 (0, 0))) (tmps : Array Value) (h4 : tmps.getD 4 undef = .pointer (some ⟨b, 0, none⟩)) :
    (results Try.f31 tmps).run Try.prog w = .ok (.agg #[v0, v1]) w := by
  have e0 : w.cell? ⟨b, 0, none⟩ = some v0 := cell_of_row w b 0 _ _ _ h
  have e1 : w.cell? ⟨b, 1, none⟩ = some v1 := cell_of_row w b 1 _ _ _ h
  have h4' := h4
  simp only [Array.getD_eq_getD_getElem?] at h4'
  simp [results, Try.results31, go_sem, h4', e0, e1]
/-- A pair's bytes that were just made. -/
def NewPair (w : World) (k v : List UInt8) (e : Ending) (w' : World) : Prop :=
  ∃ k' v' : Bs, e = .returned (.agg #[(Value.slice k'.A k'.l.length k'.c), (Value.slice v'.A v'.l.length v'.c)]) ∧ k'.l = k ∧ v'.l = v ∧ k'.ok w' ∧ v'.ok w' ∧ (∀ a, k'.A = some a → w.heap.size ≤ a.block) ∧ (∀ a, v'.A = some a → w.heap.size ≤ a.block) ∧ Below w.heap.size w w'
set_option maxRecDepth 100000 in
set_option maxHeartbeats 1000000 in
theorem pairOf_any (k v : Bs) (B : Nat) (w : World) (hk : Rd w B k.A (u8s k.l)) (hv : Rd w B v.A (u8s v.l)) (hB : B ≤ w.heap.size) (hkl : k.l.length ≤ 1000000) (hvl : v.l.length ≤ 1000000) :
    Calls Try.prog 31 #[(Value.slice k.A k.l.length k.c), (Value.slice v.A v.l.length v.c)] w (NewPair w k.l v.l) := by
  have hb0 : Below w.heap.size w (w.alloc (.cells #[.slice none 0 0, .slice none 0 0] 42)) := (Below.refl _ _).alloc (Nat.le_refl _) _
  have hg0 := heap_alloc_new w (.cells #[.slice none 0 0, .slice none 0 0] 42)
  have hs0 : (w.alloc (.cells #[.slice none 0 0, .slice none 0 0] 42)).heap.size = w.heap.size + 1 := by simp
  have hc1 := clone_any k B (w.alloc (.cells #[.slice none 0 0, .slice none 0 0] 42)) (hk.below hb0 hB) (by omega) hkl
  have hc2 : ∀ w1, Below (w.alloc (.cells #[.slice none 0 0, .slice none 0 0] 42)).heap.size (w.alloc (.cells #[.slice none 0 0, .slice none 0 0] 42)) w1 → Calls Try.prog 29 #[(Value.slice v.A v.l.length v.c)] w1 _ := fun w1 h => clone_any v B w1 ((hv.below hb0 hB).below h (by omega)) (by have := h.size; omega) hvl
  have HC1 := Lib.hid hc1
  have HC2 := Lib.hid hc2
  have HB := Lib.hid (And.intro hb0 (And.intro hg0 hs0))
  clear hk hv hB hkl hvl hb0 hg0 hs0 hc1 hc2
  go_enter Try.func31, Try.ntmps31
  go_upto_region 1 with (fail)
  go_wp2_with (first
    | (go_at_call 29; (with_reducible refine HC1.out.mono ?_); rintro e w1 ⟨k', rfl, hk1, hk2, hk3, hb1⟩; have HC3 := Lib.hid (HC2.out w1 hb1); have H1 := Lib.hid (And.intro hk1 (And.intro hk2 (And.intro hk3 hb1))); clear hk1 hk2 hk3 hb1 HC1)
    | (go_at_call 29; (with_reducible refine HC3.out.mono ?_); rintro e w2 ⟨v', rfl, hv1, hv2, hv3, hb2⟩; have hb12 := H1.out.2.2.2.trans (lower' hb2 H1.out.2.2.2.size); have hg2 := (hb12.block w.heap.size (by have := HB.out.2.2; omega)).trans HB.out.2.1; have c0 := cell_of_row w2 w.heap.size 0 _ _ _ hg2; have f0 := frozen_of_row w2 w.heap.size 0 _ _ hg2; have c1 := cell_of_row w2 w.heap.size 1 _ _ _ hg2; have f1 := frozen_of_row w2 w.heap.size 1 _ _ hg2; have H2 := Lib.hid (And.intro hv1 (And.intro hv2 (And.intro hv3 (And.intro hb2 (And.intro hb12 hg2))))); clear hv1 hv2 hv3 hb2 HC3 hb12 hg2))
  have hg3 := heap_setCell_same _ w.heap.size 1 _ _ (.slice v'.A v'.l.length v'.c) (heap_setCell_same w2 w.heap.size 0 _ _ (.slice k'.A k'.l.length k'.c) H2.out.2.2.2.2.2)
  obtain ⟨x1, x2, x3, x4⟩ := H1.out
  obtain ⟨y1, y2, y3, y4, y5, y6⟩ := H2.out
  obtain ⟨z1, z2, z3⟩ := HB.out
  have hf : Fr w2 ((w2.setCell ⟨w.heap.size, 0, none⟩ (.slice k'.A k'.l.length k'.c)).setCell ⟨w.heap.size, 1, none⟩ (.slice v'.A v'.l.length v'.c)) [w.heap.size] := ((Fr.refl w2 [w.heap.size]).setCell (by simp) _).setCell (by simp) _
  have hN : ∀ z ∈ [w.heap.size], NoBytes w2 z := by intro z hz cs fr hz2; simp at hz; subst hz; rw [y6] at hz2; cases hz2
  have hsz : w.heap.size ≤ w1.heap.size := by have := x4.size; omega
  exact bodyPost_ret (resPair (by simpa using hg3) _ rfl) rfl ⟨k', v', rfl, x1, y1, (x2.below y4).fr hf hN, y2.fr hf hN, fun a ha => by have := x3 a ha; omega, fun a ha => by have := y3 a ha; omega, (z1.trans (lower' y5 (by omega))).trans (hf.below (by have := y4.size; omega) (by simp))⟩
/-- What with leaves. -/
def WithPost (w : World) (t : Tn) (key val : List UInt8) (e : Ending) (w' : World) : Prop :=
  ∃ t' : Tn, e = .returned (.pointer t'.adr) ∧ t'.At w' ∧ t'.flat = insL key val t.flat ∧ (t'.Bal ∧ t.ht ≤ t'.ht ∧ t'.ht ≤ t.ht + 1) ∧ t'.blks.Nodup ∧ (∀ z ∈ t'.blks, z ∈ t.blks ∨ w.heap.size ≤ z) ∧ Fr w w' t.blks ∧ ∀ z ∈ t'.bys, z ∈ t.bys ∨ w.heap.size ≤ z
theorem ins_left {b : Nat} {k x : Bs} {l r l' : Tn} (hb : (Tn.node b k x l r).Bal) (hl' : l'.Bal) (h1 : l.ht ≤ l'.ht) (h2 : l'.ht ≤ l.ht + 1) : (Tn.node b k x l' r).bal.Bal ∧ (Tn.node b k x l r).ht ≤ (Tn.node b k x l' r).bal.ht ∧ (Tn.node b k x l' r).bal.ht ≤ (Tn.node b k x l r).ht + 1 := by
  obtain ⟨q1, q2, q3, q4⟩ := hb
  obtain ⟨p1, p2⟩ := Tn.bal_bal (b := b) (k := k) (x := x) hl' q2 (by omega) (by omega)
  refine ⟨p1, ?_⟩
  simp only [Tn.ht]
  omega
theorem ins_right {b : Nat} {k x : Bs} {l r r' : Tn} (hb : (Tn.node b k x l r).Bal) (hr' : r'.Bal) (h1 : r.ht ≤ r'.ht) (h2 : r'.ht ≤ r.ht + 1) : (Tn.node b k x l r').bal.Bal ∧ (Tn.node b k x l r).ht ≤ (Tn.node b k x l r').bal.ht ∧ (Tn.node b k x l r').bal.ht ≤ (Tn.node b k x l r).ht + 1 := by
  obtain ⟨q1, q2, q3, q4⟩ := hb
  obtain ⟨p1, p2⟩ := Tn.bal_bal (b := b) (k := k) (x := x) q1 hr' (by omega) (by omega)
  refine ⟨p1, ?_⟩
  simp only [Tn.ht]
  omega
theorem del_left {b : Nat} {k x : Bs} {l r l' : Tn} (hb : (Tn.node b k x l r).Bal) (hl' : l'.Bal) (h1 : l'.ht ≤ l.ht) (h2 : l.ht ≤ l'.ht + 1) : (Tn.node b k x l' r).bal.Bal ∧ (Tn.node b k x l' r).bal.ht ≤ (Tn.node b k x l r).ht ∧ (Tn.node b k x l r).ht ≤ (Tn.node b k x l' r).bal.ht + 1 := by
  obtain ⟨q1, q2, q3, q4⟩ := hb
  obtain ⟨p1, p2⟩ := Tn.bal_bal (b := b) (k := k) (x := x) hl' q2 (by omega) (by omega)
  refine ⟨p1, ?_⟩
  simp only [Tn.ht]
  omega
theorem del_right {b : Nat} {k x : Bs} {l r r' : Tn} (hb : (Tn.node b k x l r).Bal) (hr' : r'.Bal) (h1 : r'.ht ≤ r.ht) (h2 : r.ht ≤ r'.ht + 1) : (Tn.node b k x l r').bal.Bal ∧ (Tn.node b k x l r').bal.ht ≤ (Tn.node b k x l r).ht ∧ (Tn.node b k x l r).ht ≤ (Tn.node b k x l r').bal.ht + 1 := by
  obtain ⟨q1, q2, q3, q4⟩ := hb
  obtain ⟨p1, p2⟩ := Tn.bal_bal (b := b) (k := k) (x := x) q1 hr' (by omega) (by omega)
  refine ⟨p1, ?_⟩
  simp only [Tn.ht]
  omega
theorem num_ins {key val : List UInt8} {t t' : Tn} (h : t'.flat = insL key val t.flat) : t'.num ≤ t.num + 1 := by
  have := (insL_len (k := key) (v := val) t.flat).2
  rw [← h, t'.flat_len, t.flat_len] at this
  exact this
end Go.Proofs.Ytklhfegdjadgdaa
