/- with: a key has a value. -/
import Derived.Test.YtklhfegdjadgdaaTreF
namespace Go.Proofs.Ytklhfegdjadgdaa
open Go.RowKit Go.Maps

set_option maxRecDepth 100000 in
set_option maxHeartbeats 4000000 in
theorem with_nil (w : World) (key val : Bs) (B : Nat) (hk : Rd w B key.A (u8s key.l)) (hv : Rd w B val.A (u8s val.l)) (hB : B ≤ w.heap.size) (hkl : key.l.length ≤ 1000000) (hvl : val.l.length ≤ 1000000) :
    Calls Try.prog 25 #[.pointer Tn.nil.adr, .slice key.A key.l.length key.c, .slice val.A val.l.length val.c] w (WithPost w .nil key.l val.l) := by
  have hp := pairOf_any key val B w hk hv hB hkl hvl
  have HP := Lib.hid hp
  clear hk hv hB hkl hvl hp
  unfold Tn.adr
  go_enter Try.func25, Try.ntmps25
  go_wp2_with (first
    | (go_at_call 31; (with_reducible refine HP.out.mono ?_); rintro e w1 ⟨k', v', rfl, h1, h2, h3, h4, h5, h6, h7⟩; have H1 := Lib.hid (And.intro h1 (And.intro h2 (And.intro h3 (And.intro h4 h7)))); have H1b := Lib.hid (And.intro h5 h6); clear h1 h2 h3 h4 h5 h6 h7 HP))
  go_ret
  obtain ⟨h1, h2, h3, h4, h7⟩ := H1.out
  have hb := (Below.refl w1.heap.size w1).alloc (Nat.le_refl _) (.cells (nodeC k' v' .nil .nil 1 1) 64)
  refine ⟨.node w1.heap.size k' v' .nil .nil, rfl, ⟨heap_alloc_new w1 _, h3.below hb, h4.below hb, trivial, trivial⟩, ?_, ⟨⟨trivial, trivial, by simp [Tn.ht], by simp [Tn.ht]⟩, by simp [Tn.ht], by simp [Tn.ht]⟩, by simp [Tn.blks], ?_, Fr.of_below (h7.trans (lower' hb h7.size)) _, ?_⟩
  · show [(k'.l, v'.l)] = [(key.l, val.l)]
    rw [h1, h2]
  · intro z hz
    simp [Tn.blks] at hz
    subst hz
    exact .inr h7.size
  · intro z hz
    simp only [Tn.bys, List.append_nil, List.mem_append] at hz
    rcases hz with hz | hz
    · exact .inr (blk_new H1b.out.1 z hz)
    · exact .inr (blk_new H1b.out.2 z hz)
/-- The facts of the walk at a node. -/
theorem node_cells {w : World} {b : Nat} {k x : Bs} {l r : Tn} (h : (Tn.node b k x l r).At w) : w.cell? ⟨b, 0, none⟩ = some (.slice k.A k.l.length k.c) ∧ w.cell? ⟨b, 1, none⟩ = some (.slice x.A x.l.length x.c) ∧ w.cell? ⟨b, 2, none⟩ = some (.pointer l.adr) ∧ w.cell? ⟨b, 3, none⟩ = some (.pointer r.adr) :=
  ⟨cell_of_row w b 0 _ _ _ h.1, cell_of_row w b 1 _ _ _ h.1, cell_of_row w b 2 _ _ _ h.1, cell_of_row w b 3 _ _ _ h.1⟩
set_option maxRecDepth 100000 in
set_option maxHeartbeats 4000000 in
theorem with_node (b : Nat) (k x : Bs) (l r : Tn)
    (ihl : ∀ (w : World) (key val : Bs) (B : Nat), Rd w B key.A (u8s key.l) → Rd w B val.A (u8s val.l) → B ≤ w.heap.size → key.l.length ≤ 1000000 → val.l.length ≤ 1000000 → l.At w → l.blks.Nodup → l.Bal → Rises l.flat → l.num ≤ 999999 →
      Calls Try.prog 25 #[.pointer l.adr, .slice key.A key.l.length key.c, .slice val.A val.l.length val.c] w (WithPost w l key.l val.l))
    (ihr : ∀ (w : World) (key val : Bs) (B : Nat), Rd w B key.A (u8s key.l) → Rd w B val.A (u8s val.l) → B ≤ w.heap.size → key.l.length ≤ 1000000 → val.l.length ≤ 1000000 → r.At w → r.blks.Nodup → r.Bal → Rises r.flat → r.num ≤ 999999 →
      Calls Try.prog 25 #[.pointer r.adr, .slice key.A key.l.length key.c, .slice val.A val.l.length val.c] w (WithPost w r key.l val.l))
    (w : World) (key val : Bs) (B : Nat) (hk : Rd w B key.A (u8s key.l)) (hv : Rd w B val.A (u8s val.l)) (hB : B ≤ w.heap.size) (hkl : key.l.length ≤ 1000000) (hvl : val.l.length ≤ 1000000) (h : (Tn.node b k x l r).At w) (hnd : (Tn.node b k x l r).blks.Nodup) (hbal : (Tn.node b k x l r).Bal) (hri : Rises (Tn.node b k x l r).flat) (hn : (Tn.node b k x l r).num ≤ 999999) :
    Calls Try.prog 25 #[.pointer (Tn.node b k x l r).adr, .slice key.A key.l.length key.c, .slice val.A val.l.length val.c] w (WithPost w (.node b k x l r) key.l val.l) := by
  obtain ⟨c0, c1, c2, c3⟩ := node_cells h
  have hcmp := compare_any key.A k.A key.l k.l key.c k.c B w.heap.size w hk h.2.1.1.1
  obtain ⟨hndl, hndr, _⟩ := List.nodup_append.1 (List.nodup_cons.1 hnd).2
  obtain ⟨hrl, hrr, _, _, _⟩ := rises_mid hri
  have hnl : l.num ≤ 999999 := by simp only [Tn.num] at hn; omega
  have hnr : r.num ≤ 999999 := by simp only [Tn.num] at hn; omega
  obtain ⟨c, hc⟩ : ∃ c, c = cmpB key.l k.l := ⟨_, rfl⟩
  rw [← hc] at hcmp
  have HCM := Lib.hid hcmp
  have HN := Lib.hid (And.intro h (And.intro hnd (And.intro hbal (And.intro hri hn))))
  show Calls Try.prog 25 #[.pointer (some ⟨b, 0, none⟩), .slice key.A key.l.length key.c, .slice val.A val.l.length val.c] w (WithPost w (.node b k x l r) key.l val.l)
  have h3 : c < 0 ∨ 0 < c ∨ c = 0 := by omega
  rcases h3 with h3 | h3 | h3
  · have hcall := ihl w key val B hk hv hB hkl hvl h.2.2.2.1 hndl hbal.1 hrl hnl
    have HCA := Lib.hid hcall
    have HC := Lib.hid hc
    clear h hnd hbal hri hn hndl hndr hrl hrr hnl hnr hcmp hcall hk hv hB hkl hvl ihl ihr hc
    go_enter Try.func25, Try.ntmps25
    go_wp2_with (first
      | (go_at_call 26; (with_reducible refine HCM.out.mono ?_); rintro e w1 ⟨rfl, rfl⟩; clear HCM)
      | (go_at_call 25; (with_reducible refine HCA.out.mono ?_); rintro e w1 ⟨l', rfl, p1, p2, ⟨p3, p4, p5⟩, p6, p7, p8, p9⟩; obtain ⟨g1, g2, hre⟩ := rebal_left HN.out.1 HN.out.2.1 p1 p8 p6 p7 (by have := num_ins p2; have := HN.out.2.2.2.2; simp only [Tn.num] at this ⊢; omega); have HRE := Lib.hid hre; have HP := Lib.hid (And.intro p2 (And.intro p3 (And.intro p4 (And.intro p5 p9)))); clear p1 p2 p3 p4 p5 p6 p7 p8 p9 hre HCA)
      | (go_at_call 32; (with_reducible refine HRE.out.mono ?_); rintro e w2 ⟨rfl, q1, q2, q3, q4, _⟩; have HQ := Lib.hid (And.intro q1 (And.intro q2 (And.intro q3 q4))); clear q1 q2 q3 q4 HRE))
    go_ret
    obtain ⟨q1, q2, q3, q4⟩ := HQ.out
    obtain ⟨p2, p3, p4, p5, p9⟩ := HP.out
    refine ⟨_, rfl, q1, ?_, ins_left HN.out.2.2.1 p3 p4 p5, q3, q4, q2, fun z hz => ?_⟩
    rotate_left
    · have hz2 := Tn.bal_bys _ z hz
      simp only [Tn.bys, List.mem_append] at hz2 ⊢
      rcases hz2 with ((h | h) | h) | h
      · exact .inl (.inl (.inl (.inl h)))
      · exact .inl (.inl (.inl (.inr h)))
      · rcases p9 z h with h | h
        · exact .inl (.inl (.inr h))
        · exact .inr h
      · exact .inl (.inr h)
    rw [Tn.bal_flat]
    simp only [Tn.flat]
    rw [p2, insL_left (by rw [← HC.out]; exact h3)]
  · have hcall := ihr w key val B hk hv hB hkl hvl h.2.2.2.2 hndr hbal.2.1 hrr hnr
    have HCA := Lib.hid hcall
    have HC := Lib.hid hc
    have h4 : ¬ c < 0 := by omega
    clear h hnd hbal hri hn hndl hndr hrl hrr hnl hnr hcmp hcall hk hv hB hkl hvl ihl ihr hc
    go_enter Try.func25, Try.ntmps25
    go_wp2_with (first
      | (go_at_call 26; (with_reducible refine HCM.out.mono ?_); rintro e w1 ⟨rfl, rfl⟩; clear HCM)
      | (go_at_call 25; (with_reducible refine HCA.out.mono ?_); rintro e w1 ⟨r', rfl, p1, p2, ⟨p3, p4, p5⟩, p6, p7, p8, p9⟩; obtain ⟨g1, g2, hre⟩ := rebal_right HN.out.1 HN.out.2.1 p1 p8 p6 p7 (by have := num_ins p2; have := HN.out.2.2.2.2; simp only [Tn.num] at this ⊢; omega); have HRE := Lib.hid hre; have HP := Lib.hid (And.intro p2 (And.intro p3 (And.intro p4 (And.intro p5 p9)))); clear p1 p2 p3 p4 p5 p6 p7 p8 p9 hre HCA)
      | (go_at_call 32; (with_reducible refine HRE.out.mono ?_); rintro e w2 ⟨rfl, q1, q2, q3, q4, _⟩; have HQ := Lib.hid (And.intro q1 (And.intro q2 (And.intro q3 q4))); clear q1 q2 q3 q4 HRE))
    go_ret
    obtain ⟨q1, q2, q3, q4⟩ := HQ.out
    obtain ⟨p2, p3, p4, p5, p9⟩ := HP.out
    refine ⟨_, rfl, q1, ?_, ins_right HN.out.2.2.1 p3 p4 p5, q3, q4, q2, fun z hz => ?_⟩
    rotate_left
    · have hz2 := Tn.bal_bys _ z hz
      simp only [Tn.bys, List.mem_append] at hz2 ⊢
      rcases hz2 with ((h | h) | h) | h
      · exact .inl (.inl (.inl (.inl h)))
      · exact .inl (.inl (.inl (.inr h)))
      · exact .inl (.inl (.inr h))
      · rcases p9 z h with h | h
        · exact .inl (.inr h)
        · exact .inr h
    rw [Tn.bal_flat]
    simp only [Tn.flat]
    rw [p2, insL_right HN.out.2.2.2.1 (by rw [← HC.out]; exact h3)]
  · have hcl := clone_any val B w hv hB hvl
    have hst : ∀ w1 (v' : Bs), v'.ok w1 → v'.l = val.l → Below w.heap.size w w1 → w1.cell? ⟨b, 1, none⟩ = some (.slice x.A x.l.length x.c) ∧ w1.frozen? ⟨b, 1, none⟩ = false ∧ Calls Try.prog 32 #[.pointer (some ⟨b, 0, none⟩)] (w1.setCell ⟨b, 1, none⟩ (.slice v'.A v'.l.length v'.c)) (Balanced (w1.setCell ⟨b, 1, none⟩ (.slice v'.A v'.l.length v'.c)) b k v' l r) := by
      intro w1 v' hv1 hv2 hb
      have h1 := h.below hb
      have hbn := (List.nodup_cons.1 hnd).1
      have hNb : ∀ z ∈ [b], NoBytes w1 z := by intro z hz cs fr hz2; simp at hz; subst hz; rw [h1.1] at hz2; cases hz2
      have hf2 : Fr w1 (w1.setCell ⟨b, 1, none⟩ (.slice v'.A v'.l.length v'.c)) [b] := (Fr.refl w1 [b]).setCell (by simp) _
      refine ⟨cell_of_row w1 b 1 _ _ _ h1.1, frozen_of_row w1 b 1 _ _ h1.1, balanced_any ⟨⟨((Tn.node b k x l r).num : Int), ((Tn.node b k x l r).ht : Int), ?_⟩, h1.2.1.fr hf2 hNb, hv1.fr hf2 hNb, h1.2.2.2.1.fr hf2 hNb (fun z hz hm => by simp at hm; subst hm; exact hbn (List.mem_append_left _ hz)), h1.2.2.2.2.fr hf2 hNb (fun z hz hm => by simp at hm; subst hm; exact hbn (List.mem_append_right _ hz))⟩ hnd (by simp only [Tn.num] at hn ⊢; omega)⟩
      have := heap_setCell_same w1 b 1 _ _ (.slice v'.A v'.l.length v'.c) h1.1
      simpa [nodeC] using this
    have HCL := Lib.hid hcl
    have HST := Lib.hid hst
    have HC := Lib.hid hc
    have h4 : ¬ c < 0 := by omega
    have h5 : ¬ 0 < c := by omega
    have H3 := Lib.hid h3
    clear h hnd hbal hri hn hndl hndr hrl hrr hnl hnr hcmp hk hv hB hkl hvl ihl ihr hc hcl hst h3
    go_enter Try.func25, Try.ntmps25
    go_wp2_with (first
      | (go_at_call 26; (with_reducible refine HCM.out.mono ?_); rintro e w1 ⟨rfl, rfl⟩; clear HCM)
      | (go_at_call 29; (with_reducible refine HCL.out.mono ?_); rintro e w1 ⟨v', rfl, p1, p2, p3, p4⟩; obtain ⟨g1, g2, hre⟩ := HST.out w1 v' p2 p1 p4; have HRE := Lib.hid hre; have HP := Lib.hid (And.intro p1 (And.intro p2 p4)); have HPb := Lib.hid p3; clear p1 p2 p3 p4 hre HCL)
      | (go_at_call 32; (with_reducible refine HRE.out.mono ?_); rintro e w2 ⟨rfl, q1, q2⟩; have HQ := Lib.hid (And.intro q1 q2); clear q1 q2 HRE))
    go_ret
    obtain ⟨q1, q2⟩ := HQ.out
    obtain ⟨p1, p2, p4⟩ := HP.out
    obtain ⟨n1, n2, n3, n4, n5⟩ := HN.out
    obtain ⟨m1, m2, m3⟩ := ins_left (l' := l) (x := v') (b := b) (k := k) (r := r) (l := l) n3 n3.1 (Nat.le_refl _) (Nat.le_succ _)
    refine ⟨_, rfl, q1, ?_, ⟨m1, m2, m3⟩, (Tn.bal_blks (.node b k v' l r)).nodup_iff.2 n2, fun z hz => .inl ((Tn.bal_blks (.node b k v' l r)).mem_iff.1 hz), ?_, fun z hz => ?_⟩
    · rw [Tn.bal_flat]
      simp only [Tn.flat]
      rw [insL_same n4 (by rw [← HC.out]; exact H3.out), p1]
    · refine (Fr.of_below p4 _).more (((Fr.refl w1 (Tn.node b k v' l r).blks).setCell (by simp [Tn.blks]) _).trans q2) (fun z hz => .inl hz)
    · have hz2 := Tn.bal_bys _ z hz
      simp only [Tn.bys, List.mem_append] at hz2 ⊢
      rcases hz2 with ((h | h) | h) | h
      · exact .inl (.inl (.inl (.inl h)))
      · exact .inr (blk_new HPb.out z h)
      · exact .inl (.inl (.inr h))
      · exact .inl (.inr h)
/-- with. -/
theorem with_any (t : Tn) : ∀ (w : World) (key val : Bs) (B : Nat), Rd w B key.A (u8s key.l) → Rd w B val.A (u8s val.l) → B ≤ w.heap.size → key.l.length ≤ 1000000 → val.l.length ≤ 1000000 → t.At w → t.blks.Nodup → t.Bal → Rises t.flat → t.num ≤ 999999 →
      Calls Try.prog 25 #[.pointer t.adr, .slice key.A key.l.length key.c, .slice val.A val.l.length val.c] w (WithPost w t key.l val.l) := by
  induction t with
  | nil => intro w key val B h1 h2 h3 h4 h5 _ _ _ _ _; exact with_nil w key val B h1 h2 h3 h4 h5
  | node b k x l r ihl ihr => intro w key val B h1 h2 h3 h4 h5 h6 h7 h8 h9 h10; exact with_node b k x l r ihl ihr w key val B h1 h2 h3 h4 h5 h6 h7 h8 h9 h10
end Go.Proofs.Ytklhfegdjadgdaa
