/- Two trees, of one of which it is known where its bytes lie. -/
import Derived.Test.YtklhfegdjadgdaaTrePH
namespace Go.Proofs.Ytklhfegdjadgdaa
open Go.RowKit Go.Maps

def TwoZ (w : World) (lo pa pb : Nat) (Z : Nat → Prop) (LA LB : List Pr) : Prop :=
  ∃ ta tb : Tn, TreeAt w pa ta ∧ TreeAt w pb tb ∧ ta.flat = LA ∧ tb.flat = LB ∧ (∀ z ∈ pa :: ta.blks, z ∉ pb :: tb.blks) ∧ (∀ z ∈ pa :: ta.blks, lo ≤ z) ∧ (∀ z ∈ pb :: tb.blks, lo ≤ z) ∧ ∀ z ∈ tb.bys, Z z
section
variable {w w' : World} {lo pa pb : Nat} {Z : Nat → Prop} {LA LB : List Pr}
theorem TwoZ.left (h : TwoZ w lo pa pb Z LA LB) : TreeW w lo pa LA := by
  obtain ⟨ta, tb, h1, h2, h3, h4, h5, h6, h7, _⟩ := h
  exact ⟨ta, h1, h3, h6 pa (List.mem_cons_self ..), fun z hz => h6 z (List.mem_cons_of_mem _ hz)⟩
theorem TwoZ.right (h : TwoZ w lo pa pb Z LA LB) : TreeZ w lo pb Z LB := by
  obtain ⟨ta, tb, h1, h2, h3, h4, h5, h6, h7, h8⟩ := h
  exact ⟨tb, h2, h4, h7 pb (List.mem_cons_self ..), fun z hz => h7 z (List.mem_cons_of_mem _ hz), h8⟩
theorem TwoZ.below (h : TwoZ w lo pa pb Z LA LB) (hb : Below w.heap.size w w') : TwoZ w' lo pa pb Z LA LB := by
  obtain ⟨ta, tb, h1, h2, h3⟩ := h
  exact ⟨ta, tb, h1.below hb, h2.below hb, h3⟩
theorem TwoZ.new {w0 w : World} {lo pa pb : Nat} {Z : Nat → Prop} {LA LB : List Pr} (ha : TreeW w0 lo pa LA) (hb : Below w0.heap.size w0 w) (hlo : lo ≤ w0.heap.size) (h : TreeZ w w0.heap.size pb Z LB) : TwoZ w lo pa pb Z LA LB := by
  obtain ⟨ta, h1, h2, h3, h4⟩ := ha
  obtain ⟨tb, g1, g2, g3, g4, g5⟩ := h
  have hge : ∀ z ∈ pb :: tb.blks, w0.heap.size ≤ z := by
    intro z hz
    rcases List.mem_cons.1 hz with rfl | hz
    · exact g3
    · exact g4 z hz
  refine ⟨ta, tb, h1.below hb, g1, h2, g2, fun z hz hm => ?_, fun z hz => ?_, fun z hz => Nat.le_trans hlo (hge z hz), g5⟩
  · have := h1.old z hz
    have := hge z hm
    omega
  · rcases List.mem_cons.1 hz with rfl | hz
    · exact h3
    · exact h4 z hz
theorem TwoZ.turn {ta tb ta' : Tn} (h1 : TreeAt w pa ta) (h2 : TreeAt w pb tb) (h5 : ∀ z ∈ pa :: ta.blks, z ∉ pb :: tb.blks) (h6 : ∀ z ∈ pa :: ta.blks, lo ≤ z) (h7 : ∀ z ∈ pb :: tb.blks, lo ≤ z) (hlo : lo ≤ w.heap.size)
    (h1' : TreeAt w' pa ta') (hsub : ∀ z ∈ ta'.blks, z ∈ ta.blks ∨ w.heap.size ≤ z) (hf : Fr w w' (pa :: ta.blks)) (hby : ∀ z ∈ tb.bys, Z z) : TwoZ w' lo pa pb Z ta'.flat tb.flat ∧ Below lo w w' ∧ Stp w w' := by
  refine ⟨⟨ta', tb, h1', h2.fr hf h1.noBytes (fun z hz hm => h5 z hm hz), rfl, rfl, fun z hz hm => ?_, fun z hz => ?_, h7, hby⟩, hf.below hlo h6, _, hf, h1.tb⟩
  · rcases List.mem_cons.1 hz with rfl | hz
    · exact h5 _ (List.mem_cons_self ..) hm
    · rcases hsub z hz with h | h
      · exact h5 z (List.mem_cons_of_mem _ h) hm
      · have := h2.old z hm; omega
  · rcases List.mem_cons.1 hz with rfl | hz
    · exact h6 _ (List.mem_cons_self ..)
    · rcases hsub z hz with h | h
      · exact h6 z (List.mem_cons_of_mem _ h)
      · omega
end
set_option maxRecDepth 100000 in
set_option maxHeartbeats 1000000 in
theorem twoZ_del {w : World} {lo pa pb : Nat} {Z : Nat → Prop} {LA LB : List Pr} (h : TwoZ w lo pa pb Z LA LB) (key : Bs) (B : Nat) (hk : Rd w B key.A (u8s key.l)) (hlo : lo ≤ w.heap.size) (hn : LA.length ≤ 1000000) :
    Calls Try.prog 16 #[.pointer (some ⟨pa, 0, none⟩), .slice key.A key.l.length key.c] w fun e w' => e = .returned (.bool (decide ((delL key.l LA).length < LA.length))) ∧ TwoZ w' lo pa pb Z (delL key.l LA) LB ∧ Below lo w w' ∧ Stp w w' := by
  have hl1 := tlen_any h.left
  obtain ⟨ta, tb, h1, h2, rfl, rfl, h5, h6, h7, h8⟩ := h
  have hw := without_any ta w key B hk h1.nodes h1.nodup h1.bal h1.ris (by rw [← Tn.flat_len]; exact hn)
  obtain ⟨c0, f0⟩ := h1.root
  have HW := Lib.hid hw
  have HL := Lib.hid hl1
  have HT := Lib.hid (And.intro h1 (And.intro h2 (And.intro h5 (And.intro h6 (And.intro h7 (And.intro hlo h8))))))
  have HR := Lib.hid (rises_del (k := key.l) h1.ris)
  clear h1 h2 h5 h6 h7 h8 hw hl1 hk hlo hn
  go_enter Try.func16, Try.ntmps16
  go_upto_region 3 with (first
    | (go_at_call 7; (with_reducible refine HL.out.mono ?_); rintro e w1 ⟨rfl, rfl⟩; clear HL)
    | (go_at_call 28; (with_reducible refine HW.out.mono ?_); rintro e w1 ⟨t', rfl, p1, p2, ⟨p3, _, _⟩, p6, p7, p8, _⟩; obtain ⟨g1, g2, q1, q2⟩ := HT.out.1.setF p1 p6 p3 (by rw [p2]; exact HR.out) (fun z hz => .inl (p7 z hz)) p8; have HQ := Lib.hid (And.intro q1 (And.intro q2 (And.intro p7 p2))); clear p1 p2 p3 p6 p7 p8 q1 q2 HW))
  have hq := TwoZ.turn HT.out.1 HT.out.2.1 HT.out.2.2.1 HT.out.2.2.2.1 HT.out.2.2.2.2.1 HT.out.2.2.2.2.2.1 HQ.out.1 (fun z hz => .inl (HQ.out.2.2.1 z hz)) HQ.out.2.1 HT.out.2.2.2.2.2.2
  rw [HQ.out.2.2.2] at hq
  have hl2 := tlen_any hq.1.left
  have HL2 := Lib.hid hl2
  have HQ2 := Lib.hid hq
  clear hq hl2
  go_wp2_with (first
    | (go_at_call 7; (with_reducible refine HL2.out.mono ?_); rintro e w2 ⟨rfl, rfl⟩; clear HL2))
  go_ret
  exact ⟨by rfl, HQ2.out.1, HQ2.out.2⟩
theorem del_head {L : List Pr} (hr : Rises L) (k : Nat) (h : k < L.length) : delL L[k].1 (L.drop k) = L.drop (k + 1) := by
  rw [List.drop_eq_getElem_cons h]
  have hr2 : Rises ([] ++ (L[k].1, L[k].2) :: L.drop (k + 1)) := by
    have : ([] : List Pr) ++ (L[k].1, L[k].2) :: L.drop (k + 1) = L.drop k := by rw [List.drop_eq_getElem_cons h]; rfl
    rw [this]
    exact List.Pairwise.drop hr
  exact delL_same (l := []) hr2 (cmp_refl _)
theorem rng_great {L : List Pr} (h : L.length ≤ 1000) (m : Int) (hm : 1000 ≤ m) : rngL [] [] m L = L := by
  rw [rng_most _ _ _ _ h, rng_all h]
  exact List.take_of_length_le (by omega)
theorem spo_one {w : World} {base : Nat} (k x : Bs) (hB : base ≤ w.heap.size) (hk : Byt w base k) (hx : Byt w base x) : Spo (w.alloc (.cells #[.slice k.A k.l.length k.c, .slice x.A x.l.length x.c] 42)) base (some ⟨w.heap.size, 0, none⟩) 1 [(k, x)] := by
  have hb : Below w.heap.size w (w.alloc (.cells #[.slice k.A k.l.length k.c, .slice x.A x.l.length x.c] 42)) := (Below.refl _ _).alloc (Nat.le_refl _) _
  refine ⟨?_, fun p hp => ?_⟩
  · exact ⟨rfl, .inr ⟨w.heap.size, 1, _, rfl, hB, heap_alloc_new w _, Nat.le_refl _, by simp [maxLen], rfl, rfl⟩⟩
  · simp only [List.mem_singleton] at hp
    subst hp
    exact ⟨hk.below hb, hx.below hb⟩
end Go.Proofs.Ytklhfegdjadgdaa
