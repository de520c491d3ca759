/- Two trees side by side: what is done with one leaves the other. -/
import Derived.Test.YtklhfegdjadgdaaTreM
import Derived.Test.YtklhfegdjadgdaaTreQ
namespace Go.Proofs.Ytklhfegdjadgdaa
open Go.RowKit Go.Maps

theorem TreeAt.setF {w w1 : World} {p : Nat} {t t' : Tn} (h : TreeAt w p t) (h1 : t'.At w1) (hnd : t'.blks.Nodup) (hbal : t'.Bal) (hri : Rises t'.flat) (hsub : ∀ z ∈ t'.blks, z ∈ t.blks ∨ w.heap.size ≤ z) (hf : Fr w w1 t.blks) :
    w1.cell? ⟨p, 0, none⟩ = some (.pointer t.adr) ∧ w1.frozen? ⟨p, 0, none⟩ = false ∧ TreeAt (w1.setCell ⟨p, 0, none⟩ (.pointer t'.adr)) p t' ∧ Fr w (w1.setCell ⟨p, 0, none⟩ (.pointer t'.adr)) (p :: t.blks) := by
  obtain ⟨q1, q2, q3, _, _⟩ := h.set (lo := 0) ⟨by omega, fun _ _ => by omega⟩ (by omega) h1 hnd hbal hri hsub hf
  exact ⟨q1, q2, q3, (hf.mono (fun z hz => List.mem_cons_of_mem _ hz)).setCell (List.mem_cons_self ..) _⟩
theorem TreeAt.noBytes {w : World} {p : Nat} {t : Tn} (h : TreeAt w p t) : ∀ z ∈ p :: t.blks, NoBytes w z := by
  intro z hz
  rcases List.mem_cons.1 hz with rfl | hz
  · intro cs fr hg
    rw [h.blk] at hg
    cases hg
  · exact (h.nodes.lt z hz).2
theorem TreeAt.old {w : World} {p : Nat} {t : Tn} (h : TreeAt w p t) : ∀ z ∈ p :: t.blks, z < w.heap.size := by
  intro z hz
  rcases List.mem_cons.1 hz with rfl | hz
  · exact heap_lt h.blk
  · exact (h.nodes.lt z hz).1
theorem TreeAt.fr {w w' : World} {p : Nat} {t : Tn} {S : List Nat} (h : TreeAt w p t) (hf : Fr w w' S) (hS : ∀ s ∈ S, NoBytes w s) (hb : ∀ z ∈ p :: t.blks, z ∉ S) : TreeAt w' p t :=
  ⟨(hf.block p (heap_lt h.blk) (hb p (List.mem_cons_self ..))).trans h.blk, h.nodes.fr hf hS (fun z hz => hb z (List.mem_cons_of_mem _ hz)), h.nodup, h.bal, h.ris⟩
/-- Blocks of trees. -/
def TB (w : World) (S : List Nat) : Prop := ∀ z ∈ S, ∃ cs ty fr, w.heap[z]? = some (.cells cs ty fr) ∧ (ty = 39 ∨ ty = 64)
theorem Tn.At.tb {w : World} {t : Tn} (h : t.At w) : TB w t.blks := by
  induction t with
  | nil => intro z hz; cases hz
  | node b k x l r hl hr =>
    obtain ⟨h1, _, _, h2, h3⟩ := h
    intro z hz
    simp only [Tn.blks, List.mem_cons, List.mem_append] at hz
    rcases hz with rfl | hz | hz
    · exact ⟨_, _, _, h1, .inr rfl⟩
    · exact hl h2 z hz
    · exact hr h3 z hz
theorem TreeAt.tb {w : World} {p : Nat} {t : Tn} (h : TreeAt w p t) : TB w (p :: t.blks) := by
  intro z hz
  rcases List.mem_cons.1 hz with rfl | hz
  · exact ⟨_, _, _, h.blk, .inl rfl⟩
  · exact h.nodes.tb z hz
/-- What a call of a tree may have turned: trees' blocks alone. -/
def Stp (w w' : World) : Prop := ∃ S, Fr w w' S ∧ TB w S
theorem Stp.of_below {w w' : World} (h : Below w.heap.size w w') : Stp w w' := ⟨[], Fr.of_below h _, fun z hz => by cases hz⟩
theorem Stp.block {w w' : World} (h : Stp w w') {z : Nat} {cs : Array Value} {ty : TypeId} {fr : Nat × Nat} (hg : w.heap[z]? = some (.cells cs ty fr)) (h1 : ty ≠ 39) (h2 : ty ≠ 64) : w'.heap[z]? = some (.cells cs ty fr) := by
  obtain ⟨S, hf, ht⟩ := h
  refine (hf.block z (heap_lt hg) fun hm => ?_).trans hg
  obtain ⟨cs', ty', fr', hg', h3⟩ := ht z hm
  rw [hg] at hg'
  cases hg'
  rcases h3 with h3 | h3
  · exact h1 h3
  · exact h2 h3
theorem Stp.noBytes {w : World} {S : List Nat} (h : TB w S) : ∀ z ∈ S, NoBytes w z := by
  intro z hz cs fr hg
  obtain ⟨cs', ty, fr', hg', h3⟩ := h z hz
  rw [hg] at hg'
  cases hg'
  rcases h3 with h3 | h3 <;> cases h3
theorem Stp.prs {w w' : World} (h : Stp w w') {base : Nat} {v : Value} {P : List (Bs × Bs)} (hp : Prs w base v P) : Prs w' base v P := by
  obtain ⟨S, hf, ht⟩ := h
  have hN := Stp.noBytes ht
  refine ⟨rowFrS hp.row hf fun s hs hm => ?_, fun p hpm => ?_⟩
  · obtain ⟨cs', ty, fr', hg', h3⟩ := ht s hm
    rcases hp.row.2 with ⟨hv, _⟩ | ⟨g, cap, cur, hv, _, hgg, _⟩
    · rw [hv] at hs; simp [Value.ownBlock] at hs
    · rw [hv] at hs
      simp [Value.ownBlock] at hs
      subst hs
      rw [hgg] at hg'
      cases hg'
      rcases h3 with h3 | h3 <;> cases h3
  · obtain ⟨q1, q2, q3, q4⟩ := hp.key p hpm
    exact ⟨q1.fr hf hN, q2, q3.fr hf hN, q4⟩
/-- Two trees. -/
def Two (w : World) (lo pa pb : Nat) (LA LB : List Pr) : Prop :=
  ∃ ta tb : Tn, TreeAt w pa ta ∧ TreeAt w pb tb ∧ ta.flat = LA ∧ tb.flat = LB ∧ (∀ z ∈ pa :: ta.blks, z ∉ pb :: tb.blks) ∧ (∀ z ∈ pa :: ta.blks, lo ≤ z) ∧ ∀ z ∈ pb :: tb.blks, lo ≤ z
section
variable {w w' : World} {lo pa pb : Nat} {LA LB : List Pr}
theorem Two.swap (h : Two w lo pa pb LA LB) : Two w lo pb pa LB LA := by
  obtain ⟨ta, tb, h1, h2, h3, h4, h5, h6, h7⟩ := h
  exact ⟨tb, ta, h2, h1, h4, h3, fun z hz hm => h5 z hm hz, h7, h6⟩
theorem Two.left (h : Two w lo pa pb LA LB) : TreeW w lo pa LA := by
  obtain ⟨ta, tb, h1, h2, h3, h4, h5, h6, h7⟩ := h
  exact ⟨ta, h1, h3, h6 pa (List.mem_cons_self ..), fun z hz => h6 z (List.mem_cons_of_mem _ hz)⟩
theorem Two.right (h : Two w lo pa pb LA LB) : TreeW w lo pb LB := h.swap.left
theorem Two.below (h : Two w lo pa pb LA LB) (hb : Below w.heap.size w w') : Two w' lo pa pb LA LB := by
  obtain ⟨ta, tb, h1, h2, h3⟩ := h
  exact ⟨ta, tb, h1.below hb, h2.below hb, h3⟩
/-- A tree that was just made, beside an elder one. -/
theorem Two.new {w0 w : World} {lo pa pb : Nat} {LA LB : List Pr} (ha : TreeW w0 lo pa LA) (hb : Below w0.heap.size w0 w) (hlo : lo ≤ w0.heap.size) (h : TreeW w w0.heap.size pb LB) : Two w lo pa pb LA LB := by
  obtain ⟨ta, h1, h2, h3, h4⟩ := ha
  obtain ⟨tb, g1, g2, g3, g4⟩ := h
  have hge : ∀ z ∈ pb :: tb.blks, w0.heap.size ≤ z := by
    intro z hz
    rcases List.mem_cons.1 hz with rfl | hz
    · exact g3
    · exact g4 z hz
  refine ⟨ta, tb, h1.below hb, g1, h2, g2, fun z hz hm => ?_, fun z hz => ?_, fun z hz => Nat.le_trans hlo (hge z hz)⟩
  · have := h1.old z hz
    have := hge z hm
    omega
  · rcases List.mem_cons.1 hz with rfl | hz
    · exact h3
    · exact h4 z hz
/-- One is turned. -/
theorem Two.turn {ta tb ta' : Tn} (h1 : TreeAt w pa ta) (h2 : TreeAt w pb tb) (h5 : ∀ z ∈ pa :: ta.blks, z ∉ pb :: tb.blks) (h6 : ∀ z ∈ pa :: ta.blks, lo ≤ z) (h7 : ∀ z ∈ pb :: tb.blks, lo ≤ z) (hlo : lo ≤ w.heap.size)
    (h1' : TreeAt w' pa ta') (hsub : ∀ z ∈ ta'.blks, z ∈ ta.blks ∨ w.heap.size ≤ z) (hf : Fr w w' (pa :: ta.blks)) : Two w' lo pa pb ta'.flat tb.flat ∧ Below lo w w' ∧ Stp w w' := by
  refine ⟨⟨ta', tb, h1', h2.fr hf h1.noBytes (fun z hz hm => h5 z hm hz), rfl, rfl, fun z hz hm => ?_, fun z hz => ?_, h7⟩, hf.below hlo h6, _, hf, h1.tb⟩
  · rcases List.mem_cons.1 hz with rfl | hz
    · exact h5 _ (List.mem_cons_self ..) hm
    · rcases hsub z hz with h | h
      · exact h5 z (List.mem_cons_of_mem _ h) hm
      · have := h2.old z hm; omega
  · rcases List.mem_cons.1 hz with rfl | hz
    · exact h6 _ (List.mem_cons_self ..)
    · rcases hsub z hz with h | h
      · exact h6 z (List.mem_cons_of_mem _ h)
      · omega
end
set_option maxRecDepth 100000 in
set_option maxHeartbeats 1000000 in
theorem two_put {w : World} {lo pa pb : Nat} {LA LB : List Pr} (h : Two w lo pa pb LA LB) (key val : Bs) (B : Nat) (hk : Rd w B key.A (u8s key.l)) (hv : Rd w B val.A (u8s val.l)) (hB : B ≤ w.heap.size) (hkl : key.l.length ≤ 1000000) (hvl : val.l.length ≤ 1000000) (hlo : lo ≤ w.heap.size) (hn : LA.length ≤ 999999) :
    Calls Try.prog 10 #[.pointer (some ⟨pa, 0, none⟩), .slice key.A key.l.length key.c, .slice val.A val.l.length val.c] w fun e w' => e = .returned (.bool (decide (LA.length < (insL key.l val.l LA).length))) ∧ Two w' lo pa pb (insL key.l val.l LA) LB ∧ Below lo w w' ∧ Stp w w' := by
  have hl1 := tlen_any h.left
  obtain ⟨ta, tb, h1, h2, rfl, rfl, h5, h6, h7⟩ := h
  have hw := with_any ta w key val B hk hv hB hkl hvl h1.nodes h1.nodup h1.bal h1.ris (by rw [← Tn.flat_len]; exact hn)
  obtain ⟨c0, f0⟩ := h1.root
  have HW := Lib.hid hw
  have HL := Lib.hid hl1
  have HT := Lib.hid (And.intro h1 (And.intro h2 (And.intro h5 (And.intro h6 (And.intro h7 hlo)))))
  have HR := Lib.hid (rises_ins (k := key.l) (v := val.l) h1.ris)
  clear h1 h2 h5 h6 h7 hw hl1 hk hv hB hkl hvl hlo hn
  go_enter Try.func10, Try.ntmps10
  go_upto_region 3 with (first
    | (go_at_call 7; (with_reducible refine HL.out.mono ?_); rintro e w1 ⟨rfl, rfl⟩; clear HL)
    | (go_at_call 25; (with_reducible refine HW.out.mono ?_); rintro e w1 ⟨t', rfl, p1, p2, ⟨p3, _, _⟩, p6, p7, p8, _⟩; obtain ⟨g1, g2, q1, q2⟩ := HT.out.1.setF p1 p6 p3 (by rw [p2]; exact HR.out) p7 p8; have HQ := Lib.hid (And.intro q1 (And.intro q2 (And.intro p7 p2))); clear p1 p2 p3 p6 p7 p8 q1 q2 HW))
  have hq := Two.turn HT.out.1 HT.out.2.1 HT.out.2.2.1 HT.out.2.2.2.1 HT.out.2.2.2.2.1 HT.out.2.2.2.2.2 HQ.out.1 HQ.out.2.2.1 HQ.out.2.1
  rw [HQ.out.2.2.2] at hq
  have hl2 := tlen_any hq.1.left
  have HL2 := Lib.hid hl2
  have HQ2 := Lib.hid hq
  clear hq hl2
  go_wp2_with (first
    | (go_at_call 7; (with_reducible refine HL2.out.mono ?_); rintro e w2 ⟨rfl, rfl⟩; clear HL2))
  go_ret
  exact ⟨by rfl, HQ2.out.1, HQ2.out.2⟩
set_option maxRecDepth 100000 in
set_option maxHeartbeats 1000000 in
theorem two_del {w : World} {lo pa pb : Nat} {LA LB : List Pr} (h : Two w lo pa pb LA LB) (key : Bs) (B : Nat) (hk : Rd w B key.A (u8s key.l)) (hlo : lo ≤ w.heap.size) (hn : LA.length ≤ 1000000) :
    Calls Try.prog 16 #[.pointer (some ⟨pa, 0, none⟩), .slice key.A key.l.length key.c] w fun e w' => e = .returned (.bool (decide ((delL key.l LA).length < LA.length))) ∧ Two w' lo pa pb (delL key.l LA) LB ∧ Below lo w w' ∧ Stp w w' := by
  have hl1 := tlen_any h.left
  obtain ⟨ta, tb, h1, h2, rfl, rfl, h5, h6, h7⟩ := h
  have hw := without_any ta w key B hk h1.nodes h1.nodup h1.bal h1.ris (by rw [← Tn.flat_len]; exact hn)
  obtain ⟨c0, f0⟩ := h1.root
  have HW := Lib.hid hw
  have HL := Lib.hid hl1
  have HT := Lib.hid (And.intro h1 (And.intro h2 (And.intro h5 (And.intro h6 (And.intro h7 hlo)))))
  have HR := Lib.hid (rises_del (k := key.l) h1.ris)
  clear h1 h2 h5 h6 h7 hw hl1 hk hlo hn
  go_enter Try.func16, Try.ntmps16
  go_upto_region 3 with (first
    | (go_at_call 7; (with_reducible refine HL.out.mono ?_); rintro e w1 ⟨rfl, rfl⟩; clear HL)
    | (go_at_call 28; (with_reducible refine HW.out.mono ?_); rintro e w1 ⟨t', rfl, p1, p2, ⟨p3, _, _⟩, p6, p7, p8, _⟩; obtain ⟨g1, g2, q1, q2⟩ := HT.out.1.setF p1 p6 p3 (by rw [p2]; exact HR.out) (fun z hz => .inl (p7 z hz)) p8; have HQ := Lib.hid (And.intro q1 (And.intro q2 (And.intro p7 p2))); clear p1 p2 p3 p6 p7 p8 q1 q2 HW))
  have hq := Two.turn HT.out.1 HT.out.2.1 HT.out.2.2.1 HT.out.2.2.2.1 HT.out.2.2.2.2.1 HT.out.2.2.2.2.2 HQ.out.1 (fun z hz => .inl (HQ.out.2.2.1 z hz)) HQ.out.2.1
  rw [HQ.out.2.2.2] at hq
  have hl2 := tlen_any hq.1.left
  have HL2 := Lib.hid hl2
  have HQ2 := Lib.hid hq
  clear hq hl2
  go_wp2_with (first
    | (go_at_call 7; (with_reducible refine HL2.out.mono ?_); rintro e w2 ⟨rfl, rfl⟩; clear HL2))
  go_ret
  exact ⟨by rfl, HQ2.out.1, HQ2.out.2⟩
end Go.Proofs.Ytklhfegdjadgdaa
