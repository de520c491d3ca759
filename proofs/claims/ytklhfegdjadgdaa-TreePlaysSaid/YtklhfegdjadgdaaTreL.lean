/- A tree: New, Len, Depth, Put, Delete, Rank, Get. -/
import Derived.Test.YtklhfegdjadgdaaTreK
namespace Go.Proofs.Ytklhfegdjadgdaa
open Go.RowKit Go.Maps

/-- A tree in memory. -/
structure TreeAt (w : World) (p : Nat) (t : Tn) : Prop where
  blk : w.heap[p]? = some (.cells #[.pointer t.adr] 39 (0, 0))
  nodes : t.At w
  nodup : t.blks.Nodup
  bal : t.Bal
  ris : Rises t.flat
/-- A tree of these pairs whose blocks were made from some block on. -/
def TreeW (w : World) (lo p : Nat) (L : List Pr) : Prop := ∃ t, TreeAt w p t ∧ t.flat = L ∧ lo ≤ p ∧ ∀ b ∈ t.blks, lo ≤ b
theorem TreeAt.below {w w' : World} {p : Nat} {t : Tn} (h : TreeAt w p t) (hb : Below w.heap.size w w') : TreeAt w' p t :=
  ⟨(hb.block p (heap_lt h.blk)).trans h.blk, h.nodes.below hb, h.nodup, h.bal, h.ris⟩
theorem TreeW.below {w w' : World} {lo p : Nat} {L : List Pr} (h : TreeW w lo p L) (hb : Below w.heap.size w w') : TreeW w' lo p L := by
  obtain ⟨t, h1, h2⟩ := h
  exact ⟨t, h1.below hb, h2⟩
theorem TreeW.ris {w : World} {lo p : Nat} {L : List Pr} (h : TreeW w lo p L) : Rises L := by
  obtain ⟨t, h1, rfl, _⟩ := h; exact h1.ris
theorem TreeW.lt {w : World} {lo p : Nat} {L : List Pr} (h : TreeW w lo p L) : lo ≤ p ∧ p < w.heap.size := by
  obtain ⟨t, h1, _, h3, _⟩ := h; exact ⟨h3, heap_lt h1.blk⟩
theorem TreeAt.root {w : World} {p : Nat} {t : Tn} (h : TreeAt w p t) : w.cell? ⟨p, 0, none⟩ = some (.pointer t.adr) ∧ w.frozen? ⟨p, 0, none⟩ = false :=
  ⟨cell_of_row w p 0 _ _ _ h.blk, frozen_of_row w p 0 _ _ h.blk⟩
theorem TreeAt.apart {w : World} {p : Nat} {t : Tn} (h : TreeAt w p t) : p ∉ t.blks := by
  have : ∀ s : Tn, s.At w → p ∉ s.blks := by
    intro s
    induction s with
    | nil => intro _ hm; cases hm
    | node b k x l r hl hr =>
      intro hs hm
      simp only [Tn.blks, List.mem_cons, List.mem_append] at hm
      rcases hm with rfl | hm | hm
      · have := h.blk
        rw [hs.1] at this
        cases this
      · exact hl hs.2.2.2.1 hm
      · exact hr hs.2.2.2.2 hm
  exact this t h.nodes
/-- The root is set anew. -/
theorem TreeAt.set {w w1 : World} {p lo : Nat} {t t' : Tn} (h : TreeAt w p t) (hlo : lo ≤ p ∧ ∀ b ∈ t.blks, lo ≤ b) (hlow : lo ≤ w.heap.size) (h1 : t'.At w1) (hnd : t'.blks.Nodup) (hbal : t'.Bal) (hri : Rises t'.flat) (hsub : ∀ z ∈ t'.blks, z ∈ t.blks ∨ w.heap.size ≤ z) (hf : Fr w w1 t.blks) :
    w1.cell? ⟨p, 0, none⟩ = some (.pointer t.adr) ∧ w1.frozen? ⟨p, 0, none⟩ = false ∧ TreeAt (w1.setCell ⟨p, 0, none⟩ (.pointer t'.adr)) p t' ∧ (∀ b ∈ t'.blks, lo ≤ b) ∧ Below lo w (w1.setCell ⟨p, 0, none⟩ (.pointer t'.adr)) := by
  have hg1 : w1.heap[p]? = some (.cells #[.pointer t.adr] 39 (0, 0)) := (hf.block p (heap_lt h.blk) h.apart).trans h.blk
  have hf2 : Fr w1 (w1.setCell ⟨p, 0, none⟩ (.pointer t'.adr)) [p] := (Fr.refl w1 [p]).setCell (by simp) _
  have hN : ∀ z ∈ [p], NoBytes w1 z := by intro z hz cs fr hz2; simp at hz; subst hz; rw [hg1] at hz2; cases hz2
  have hp' : ∀ z ∈ t'.blks, z ∉ [p] := fun z hz hm => by
    simp at hm
    subst hm
    rcases hsub z hz with h2 | h2
    · exact h.apart h2
    · have := heap_lt h.blk; omega
  refine ⟨cell_of_row w1 p 0 _ _ _ hg1, frozen_of_row w1 p 0 _ _ hg1, ⟨?_, h1.fr hf2 hN hp', hnd, hbal, hri⟩, fun b hb => ?_, (hf.below hlow hlo.2).trans (hf2.below (Nat.le_trans hlow hf.size) (by simp; exact hlo.1))⟩
  · have := heap_setCell_same w1 p 0 _ _ (.pointer t'.adr) hg1
    simpa using this
  · rcases hsub b hb with h2 | h2
    · exact hlo.2 b h2
    · exact Nat.le_trans hlow h2
set_option maxRecDepth 100000 in
theorem tnew_any (w : World) (lo : Nat) (hlo : lo ≤ w.heap.size) : Calls Try.prog 4 #[] w fun e w' => e = .returned (.pointer (some ⟨w.heap.size, 0, none⟩)) ∧ TreeW w' lo w.heap.size [] ∧ Below w.heap.size w w' := by
  go_enter Try.func4, Try.ntmps4
  go_wp2
  go_ret
  exact ⟨rfl, ⟨.nil, ⟨heap_alloc_new w _, trivial, List.nodup_nil, trivial, List.Pairwise.nil⟩, rfl, hlo, by simp [Tn.blks]⟩, (Below.refl _ _).alloc (Nat.le_refl _) _⟩
set_option maxRecDepth 100000 in
theorem tlen_any {w : World} {lo p : Nat} {L : List Pr} (h : TreeW w lo p L) : Calls Try.prog 7 #[.pointer (some ⟨p, 0, none⟩)] w fun e w' => e = .returned (.int .i64 (L.length : Int)) ∧ w = w' := by
  obtain ⟨t, h1, rfl, _⟩ := h
  have hp := pairs_any t w h1.nodes
  rw [← Tn.flat_len] at hp
  have HP := Lib.hid hp
  obtain ⟨c0, _⟩ := h1.root
  clear h1 hp
  go_enter Try.func7, Try.ntmps7
  go_wp2_with (go_at_call 23; (with_reducible refine HP.out.mono ?_); rintro e w1 ⟨rfl, rfl⟩)
  go_ret
  exact ⟨rfl, rfl⟩
set_option maxRecDepth 100000 in
theorem tdepth_any {w : World} {lo p : Nat} {L : List Pr} (h : TreeW w lo p L) : Calls Try.prog 12 #[.pointer (some ⟨p, 0, none⟩)] w fun e w' => ∃ d : Nat, e = .returned (.int .i64 (d : Int)) ∧ d ≤ 2 * bits L.length ∧ (d = 0 ↔ L.length = 0) ∧ d ≤ L.length ∧ w = w' := by
  obtain ⟨t, h1, rfl, _⟩ := h
  have hp := height_any t w h1.nodes
  have hfl := Tn.flat_deep h1.bal
  have hz := t.ht_pos_num
  have hle := t.ht_le_num
  rw [← Tn.flat_len] at hfl hz hle
  have HP := Lib.hid hp
  have HF := Lib.hid (And.intro hfl (And.intro hz hle))
  obtain ⟨c0, _⟩ := h1.root
  clear h1 hp hfl hz hle
  go_enter Try.func12, Try.ntmps12
  go_wp2_with (go_at_call 27; (with_reducible refine HP.out.mono ?_); rintro e w1 ⟨rfl, rfl⟩)
  go_ret
  exact ⟨_, rfl, HF.out.1, HF.out.2.1.symm, HF.out.2.2, rfl⟩
set_option maxRecDepth 100000 in
set_option maxHeartbeats 1000000 in
theorem tput_any {w : World} {lo p : Nat} {L : List Pr} (h : TreeW w lo p L) (key val : Bs) (B : Nat) (hk : Rd w B key.A (u8s key.l)) (hv : Rd w B val.A (u8s val.l)) (hB : B ≤ w.heap.size) (hkl : key.l.length ≤ 1000000) (hvl : val.l.length ≤ 1000000) (hlo : lo ≤ w.heap.size) (hn : L.length ≤ 999999) :
    Calls Try.prog 10 #[.pointer (some ⟨p, 0, none⟩), .slice key.A key.l.length key.c, .slice val.A val.l.length val.c] w fun e w' => e = .returned (.bool (decide (L.length < (insL key.l val.l L).length))) ∧ TreeW w' lo p (insL key.l val.l L) ∧ Below lo w w' := by
  have hl1 := tlen_any h
  obtain ⟨t, h1, rfl, h3, h4⟩ := h
  have hw := with_any t w key val B hk hv hB hkl hvl h1.nodes h1.nodup h1.bal h1.ris (by rw [← Tn.flat_len]; exact hn)
  obtain ⟨c0, f0⟩ := h1.root
  have HW := Lib.hid hw
  have HL := Lib.hid hl1
  have HT := Lib.hid (And.intro h1 (And.intro (And.intro h3 h4) hlo))
  have HR := Lib.hid (rises_ins (k := key.l) (v := val.l) h1.ris)
  clear h1 h3 h4 hw hl1 hk hv hB hkl hvl hlo hn
  go_enter Try.func10, Try.ntmps10
  go_upto_region 3 with (first
    | (go_at_call 7; (with_reducible refine HL.out.mono ?_); rintro e w1 ⟨rfl, rfl⟩; clear HL)
    | (go_at_call 25; (with_reducible refine HW.out.mono ?_); rintro e w1 ⟨t', rfl, p1, p2, ⟨p3, _, _⟩, p6, p7, p8, _⟩; obtain ⟨g1, g2, q1, q2, q3⟩ := HT.out.1.set HT.out.2.1 HT.out.2.2 p1 p6 p3 (by rw [p2]; exact HR.out) p7 p8; have HQ := Lib.hid (And.intro q1 (And.intro q2 (And.intro q3 p2))); clear p1 p2 p3 p6 p7 p8 q1 q2 q3 HW))
  have hq : TreeW (w1.setCell ⟨p, 0, none⟩ (.pointer t'.adr)) lo p (insL key.l val.l t.flat) := ⟨t', HQ.out.1, HQ.out.2.2.2, HT.out.2.1.1, HQ.out.2.1⟩
  have hl2 := tlen_any hq
  have HL2 := Lib.hid hl2
  have HQ2 := Lib.hid hq
  clear hq hl2
  go_wp2_with (first
    | (go_at_call 7; (with_reducible refine HL2.out.mono ?_); rintro e w2 ⟨rfl, rfl⟩; clear HL2))
  go_ret
  exact ⟨by rfl, HQ2.out, HQ.out.2.2.1⟩
set_option maxRecDepth 100000 in
set_option maxHeartbeats 1000000 in
theorem tdel_any {w : World} {lo p : Nat} {L : List Pr} (h : TreeW w lo p L) (key : Bs) (B : Nat) (hk : Rd w B key.A (u8s key.l)) (hlo : lo ≤ w.heap.size) (hn : L.length ≤ 1000000) :
    Calls Try.prog 16 #[.pointer (some ⟨p, 0, none⟩), .slice key.A key.l.length key.c] w fun e w' => e = .returned (.bool (decide ((delL key.l L).length < L.length))) ∧ TreeW w' lo p (delL key.l L) ∧ Below lo w w' := by
  have hl1 := tlen_any h
  obtain ⟨t, h1, rfl, h3, h4⟩ := h
  have hw := without_any t w key B hk h1.nodes h1.nodup h1.bal h1.ris (by rw [← Tn.flat_len]; exact hn)
  obtain ⟨c0, f0⟩ := h1.root
  have HW := Lib.hid hw
  have HL := Lib.hid hl1
  have HT := Lib.hid (And.intro h1 (And.intro (And.intro h3 h4) hlo))
  have HR := Lib.hid (rises_del (k := key.l) h1.ris)
  clear h1 h3 h4 hw hl1 hk hlo hn
  go_enter Try.func16, Try.ntmps16
  go_upto_region 3 with (first
    | (go_at_call 7; (with_reducible refine HL.out.mono ?_); rintro e w1 ⟨rfl, rfl⟩; clear HL)
    | (go_at_call 28; (with_reducible refine HW.out.mono ?_); rintro e w1 ⟨t', rfl, p1, p2, ⟨p3, _, _⟩, p6, p7, p8, _⟩; obtain ⟨g1, g2, q1, q2, q3⟩ := HT.out.1.set HT.out.2.1 HT.out.2.2 p1 p6 p3 (by rw [p2]; exact HR.out) (fun z hz => .inl (p7 z hz)) p8; have HQ := Lib.hid (And.intro q1 (And.intro q2 (And.intro q3 p2))); clear p1 p2 p3 p6 p7 p8 q1 q2 q3 HW))
  have hq : TreeW (w1.setCell ⟨p, 0, none⟩ (.pointer t'.adr)) lo p (delL key.l t.flat) := ⟨t', HQ.out.1, HQ.out.2.2.2, HT.out.2.1.1, HQ.out.2.1⟩
  have hl2 := tlen_any hq
  have HL2 := Lib.hid hl2
  have HQ2 := Lib.hid hq
  clear hq hl2
  go_wp2_with (first
    | (go_at_call 7; (with_reducible refine HL2.out.mono ?_); rintro e w2 ⟨rfl, rfl⟩; clear HL2))
  go_ret
  exact ⟨by rfl, HQ2.out, HQ.out.2.2.1⟩
/-- How many keys are less. -/
def rankL (key : List UInt8) (L : List Pr) : Nat := (L.filter fun p => decide (cmpB p.1 key < 0)).length
theorem rankL_all {key : List UInt8} {L : List Pr} (h : ∀ p ∈ L, cmpB p.1 key < 0) : rankL key L = L.length := by
  unfold rankL
  rw [List.filter_eq_self.2 (fun p hp => decide_eq_true (h p hp))]
theorem rankL_no {key : List UInt8} {L : List Pr} (h : ∀ p ∈ L, ¬ cmpB p.1 key < 0) : rankL key L = 0 := by
  unfold rankL
  rw [List.filter_eq_nil_iff.2 (fun p hp => by simpa using h p hp)]
  rfl
theorem rankL_right {key a x : List UInt8} {l r : List Pr} (hr : Rises (l ++ (a, x) :: r)) (h : cmpB a key < 0) : rankL key (l ++ (a, x) :: r) = l.length + 1 + rankL key r := by
  obtain ⟨_, _, h3, _, _⟩ := rises_mid hr
  have h1 := rankL_all (key := key) (L := l) fun p hp => cmp_trans (h3 p hp) h
  unfold rankL at h1 ⊢
  rw [List.filter_append, List.filter_cons, if_pos (by simpa using h), List.length_append, h1]
  simp only [List.length_cons]
  omega
theorem rankL_left {key a x : List UInt8} {l r : List Pr} (hr : Rises (l ++ (a, x) :: r)) (h : ¬ cmpB a key < 0) : rankL key (l ++ (a, x) :: r) = rankL key l := by
  obtain ⟨_, _, _, h4, _⟩ := rises_mid hr
  have h1 := rankL_no (key := key) (L := (a, x) :: r) fun p hp => by
    rcases List.mem_cons.1 hp with rfl | hp
    · exact h
    · intro h5; exact h (cmp_trans (h4 p hp) h5)
  unfold rankL at h1 ⊢
  rw [List.filter_append, List.length_append, h1]
  rfl
theorem rankL_le (key : List UInt8) (L : List Pr) : rankL key L ≤ L.length := List.length_filter_le _ _
/-- The depth that stands at a pointer. -/
def measP (w : World) : Value → Nat
  | .pointer (some a) => match w.cell? ⟨a.block, 5, none⟩ with
    | some (.int _ n) => n.toNat
    | _ => 0
  | _ => 0
theorem measP_at {w : World} {t : Tn} (h : t.At w) : measP w (.pointer t.adr) = t.ht := by
  cases t with
  | nil => rfl
  | node b k x l r =>
    have c5 : w.cell? ⟨b, 5, none⟩ = some (.int .i64 ((Tn.node b k x l r).ht : Int)) := cell_of_row w b 5 _ _ _ h.1
    show (match w.cell? ⟨b, 5, none⟩ with | some (.int _ n) => n.toNat | _ => 0) = _
    rw [c5]
    simp
set_option maxRecDepth 100000 in
set_option maxHeartbeats 1000000 in
theorem trank_any {w : World} {lo p : Nat} {L : List Pr} (h : TreeW w lo p L) (key : Bs) (B : Nat) (hk : Rd w B key.A (u8s key.l)) (hn : L.length ≤ 1000000) :
    Calls Try.prog 11 #[.pointer (some ⟨p, 0, none⟩), .slice key.A key.l.length key.c] w fun e w' => e = .returned (.int .i64 (rankL key.l L : Int)) ∧ w = w' := by
  obtain ⟨t, h1, rfl, _, _⟩ := h
  obtain ⟨c0, _⟩ := h1.root
  have HT := Lib.hid (And.intro h1 (And.intro hk hn))
  clear h1 hk hn
  go_enter Try.func11, Try.ntmps11
  go_wp2_with (fail)
  go_loop [5, 6] (fun c n => ∃ (s : Tn) (k : Nat), s.At w ∧ Rises s.flat ∧ n = .pointer s.adr ∧ c = .int .i64 (k : Int) ∧ k + rankL key.l s.flat = rankL key.l t.flat ∧ k + s.num ≤ 1000000) (fun _ n => measP w n)
  case atStart => exact ⟨t, 0, HT.out.1.nodes, HT.out.1.ris, rfl, rfl, by omega, by rw [← Tn.flat_len]; have := HT.out.2.2; omega⟩
  case round =>
    obtain ⟨s, k, hs, hr, rfl, rfl, hsum, hk⟩ := hrel
    cases s with
    | nil =>
      have hk0 : k = rankL key.l t.flat := by have : rankL key.l Tn.nil.flat = 0 := rfl; omega
      have HK := Lib.hid hk0
      clear hs hr hsum hk hk0
      rw [show Tn.nil.adr = none from rfl]
      go_wp2_with (fail)
      go_ret
      exact ⟨by rw [← HK.out] <;> rfl, rfl⟩
    | node b kk x l r =>
      obtain ⟨d0, d1, d2, d3⟩ := node_cells hs
      have hcmp := compare_any kk.A key.A kk.l key.l kk.c key.c w.heap.size B w hs.2.1.1.1 HT.out.2.1
      have hpl := pairs_any l w hs.2.2.2.1
      have hms := measP_at hs
      have hml := measP_at hs.2.2.2.1
      have hmr := measP_at hs.2.2.2.2
      obtain ⟨c, hc⟩ : ∃ c, c = cmpB kk.l key.l := ⟨_, rfl⟩
      rw [← hc] at hcmp
      have HCM := Lib.hid hcmp
      have HPL := Lib.hid hpl
      have HS := Lib.hid (And.intro hs (And.intro hr (And.intro hsum (And.intro hk (And.intro hms (And.intro hml hmr))))))
      have HC := Lib.hid hc
      have hkI : (k : Int) + (l.num : Int) + 1 ≤ 1000000 := by simp only [Tn.num] at hk; omega
      have hkJ : (0 : Int) ≤ (l.num : Int) := by omega
      clear hs hr hsum hk hms hml hmr hc hcmp hpl
      rw [show (Tn.node b kk x l r).adr = some ⟨b, 0, none⟩ from rfl]
      by_cases h3 : c < 0
      · go_wp2_with (first
          | (go_at_call 26; (with_reducible refine HCM.out.mono ?_); rintro e w1 ⟨rfl, rfl⟩; clear HCM)
          | (go_at_call 23; (with_reducible refine HPL.out.mono ?_); rintro e w1 ⟨rfl, rfl⟩; clear HPL))
        obtain ⟨hs, hr, hsum, hk, hms, hml, hmr⟩ := HS.out
        have hrk := rankL_right (key := key.l) hr (by rw [← HC.out]; exact h3)
        go_round
        case rel => exact ⟨r, k + (l.num + 1), hs.2.2.2.2, (rises_mid hr).2.1, rfl, (by go_num), (by have h9 : rankL key.l (Tn.node b kk x l r).flat = l.flat.length + 1 + rankL key.l r.flat := hrk; rw [Tn.flat_len] at h9; omega), (by simp only [Tn.num] at hk; omega)⟩
        case measure =>
          have e1 : measP w (.pointer (some ⟨b, 0, none⟩)) = (Tn.node b kk x l r).ht := hms
          simp only [Tn.ht] at e1
          simp
          omega
      · clear hkI hkJ d1 d3 HPL
        go_wp2_with (first
          | (go_at_call 26; (with_reducible refine HCM.out.mono ?_); rintro e w1 ⟨rfl, rfl⟩; clear HCM))
        obtain ⟨hs, hr, hsum, hk, hms, hml, hmr⟩ := HS.out
        have hrk := rankL_left (key := key.l) hr (by rw [← HC.out]; omega)
        go_round
        case rel => exact ⟨l, k, hs.2.2.2.1, (rises_mid hr).1, rfl, rfl, (by have h9 : rankL key.l (Tn.node b kk x l r).flat = rankL key.l l.flat := hrk; omega), (by simp only [Tn.num] at hk; omega)⟩
        case measure =>
          have e1 : measP w (.pointer (some ⟨b, 0, none⟩)) = (Tn.node b kk x l r).ht := hms
          simp only [Tn.ht] at e1
          simp
          omega
end Go.Proofs.Ytklhfegdjadgdaa
