/- play: two copies of bytes, in any order; a tree whose bytes lie in known blocks. -/
import Derived.Test.YtklhfegdjadgdaaTrePC
import Derived.Test.YtklhfegdjadgdaaTreX
import Derived.Test.YtklhfegdjadgdaaTreT
namespace Go.Proofs.Ytklhfegdjadgdaa
open Go.RowKit Go.Maps

/-- append of bytes onto an empty row. -/
theorem app_bytes (w : World) (base : Nat) (v : Value) (hown : OwnB w base 5 v []) (A : Option Addr) (k : List UInt8) (c B : Nat) (hr : Rd w B A (u8s k)) (hk : k.length ≤ 1000) (hB : base ≤ w.heap.size) :
    ∃ v' w', (Builtin.append_ #[27, 27] 27 #[v, .slice A k.length c]).run Try.prog w = .ok v' w' ∧ OwnB w' base 5 v' k ∧ w.grownBy w' v.ownBlock ∧ (v'.ownBlock = v.ownBlock ∨ v'.ownBlock = some w.heap.size) := by
  obtain ⟨i0, hi, hz0, hz1, hz2⟩ := info_parts infoU8
  obtain ⟨v', w', h1, h2, h3, h4⟩ := run_appB (P := Try.prog) w base 27 27 5 i0 _ Try.underlying27 hi hz0 hz1 hz2 rfl v [] hown B A k.length c k rfl hr (by simp; omega) hB
  exact ⟨v', w', h1, by simpa using h2, h3, h4⟩
theorem OwnB.kept' {w w' : World} {base : Nat} {e : TypeId} {v : Value} {l : List UInt8} {row : Option Nat} (h : OwnB w base e v l) (hg : w.grownBy w' row) (hne : v.ownBlock = none ∨ v.ownBlock ≠ row) : OwnB w' base e v l := World.ownsRow.kept h hg hne
/-- What two copies leave. -/
def Cop (w w' : World) (v : Value) (l : List UInt8) : Prop := ∃ r : Bs, v = .slice r.A r.l.length r.c ∧ r.l = l ∧ r.ok w' ∧ ∀ a, r.A = some a → w.heap.size ≤ a.block
theorem cop_of {w w' : World} {v : Value} {l : List UInt8} (h : OwnB w' w.heap.size 5 v l) (hl : l.length ≤ 1000) : Cop w w' v l := by
  obtain ⟨r, h1, h2, h3⟩ := ownB_data h (by omega)
  obtain ⟨A', c', h4, _, _, _, h5⟩ := h.shape
  refine ⟨r, h2, h1, h3, fun a ha => h5 a ?_⟩
  rw [h2] at h4
  injection h4 with h6
  rw [← h6, ha]
abbrev emptyRow : Obj := .cells #[] 5
section
variable (w : World) (n : Nat) (hnw : n = w.heap.size) (A1 A2 : Option Addr) (x y : List UInt8) (c1 c2 B : Nat) (h1 : Rd w B A1 (u8s x)) (h2 : Rd w B A2 (u8s y)) (hB : B ≤ w.heap.size) (hx : x.length ≤ 1000) (hy : y.length ≤ 1000)
include hnw h1 h2 hB hx hy
theorem cop_one : ∃ v1 X1 v2 X2, (Builtin.append_ #[27, 27] 27 #[.slice (some ⟨n, 0, none⟩) 0 0, .slice A1 x.length c1]).run Try.prog (w.alloc emptyRow) = .ok v1 X1 ∧ (Builtin.append_ #[27, 27] 27 #[.slice (some ⟨X1.heap.size, 0, none⟩) 0 0, .slice A2 y.length c2]).run Try.prog (X1.alloc emptyRow) = .ok v2 X2 ∧ Cop w X2 v1 x ∧ Cop w X2 v2 y ∧ Below w.heap.size w X2 ∧ Below w.heap.size w X1 := by
  subst hnw
  have hb : Below w.heap.size w (w.alloc emptyRow) := (Below.refl _ _).alloc (Nat.le_refl _) _
  obtain ⟨v1, X1, r1, o1, g1, e1⟩ := app_bytes (w.alloc emptyRow) w.heap.size _ (OwnB.lit0 w (Nat.le_refl _)) A1 x c1 B (h1.below hb hB) hx (by simp)
  have hb1 : Below w.heap.size w X1 := hb.trans (grown_below (g := w.heap.size) g1 (Nat.le_refl _) (by simp))
  obtain ⟨v2, X2, r2, o2, g2, e2⟩ := app_bytes (X1.alloc emptyRow) w.heap.size _ (OwnB.lit0 X1 hb1.size) A2 y c2 B (h2.below (hb1.alloc hb1.size _) hB) hy (by have := hb1.size; simp; omega)
  have hb2 : Below w.heap.size w X2 := (hb1.alloc hb1.size _).trans (grown_below (g := X1.heap.size) g2 hb1.size (by have := hb1.size; simp; omega))
  refine ⟨v1, X1, v2, X2, r1, r2, cop_of ((o1.alloc _).kept' g2 (.inr fun e => ?_)) hx, cop_of o2 hy, hb2, hb1⟩
  have h9 := (World.ownsRow.lt o1 X1.heap.size e).2
  omega
theorem cop_two : ∃ v1 X1 v2 X2, (Builtin.append_ #[27, 27] 27 #[.slice (some ⟨n, 0, none⟩) 0 0, .slice A1 x.length c1]).run Try.prog ((w.alloc emptyRow).alloc emptyRow) = .ok v1 X1 ∧ (Builtin.append_ #[27, 27] 27 #[.slice (some ⟨n + 1, 0, none⟩) 0 0, .slice A2 y.length c2]).run Try.prog X1 = .ok v2 X2 ∧ Cop w X2 v1 x ∧ Cop w X2 v2 y ∧ Below w.heap.size w X2 ∧ Below w.heap.size w X1 := by
  subst hnw
  have hb : Below w.heap.size w ((w.alloc emptyRow).alloc emptyRow) := ((Below.refl _ _).alloc (Nat.le_refl _) _).alloc (by simp) _
  have hl1 : OwnB ((w.alloc emptyRow).alloc emptyRow) w.heap.size 5 (.slice (some ⟨w.heap.size, 0, none⟩) 0 0) [] := (OwnB.lit0 w (Nat.le_refl _)).alloc _
  have hl2 : OwnB ((w.alloc emptyRow).alloc emptyRow) w.heap.size 5 (.slice (some ⟨w.heap.size + 1, 0, none⟩) 0 0) [] := by
    have := OwnB.lit0 (base := w.heap.size) (e := 5) (w.alloc emptyRow) (by simp)
    rw [alloc1_size] at this
    exact this
  obtain ⟨v1, X1, r1, o1, g1, e1⟩ := app_bytes _ w.heap.size _ hl1 A1 x c1 B (h1.below hb hB) hx (by simp; omega)
  have hb1 : Below w.heap.size w X1 := hb.trans (grown_below (g := w.heap.size) g1 (Nat.le_refl _) (by simp; omega))
  have hl2' := hl2.kept' g1 (.inr (by simp [Value.ownBlock]))
  obtain ⟨v2, X2, r2, o2, g2, e2⟩ := app_bytes X1 w.heap.size _ hl2' A2 y c2 B (h2.below hb1 hB) hy hb1.size
  have hb2 : Below w.heap.size w X2 := hb1.trans (grown_below (g := w.heap.size + 1) g2 (by omega) hb1.size)
  refine ⟨v1, X1, v2, X2, r1, r2, cop_of (o1.kept' g2 (.inr fun e => ?_)) hx, cop_of o2 hy, hb2, hb1⟩
  have e' : v1.ownBlock = some (w.heap.size + 1) := e
  rcases e1 with h | h
  · have h9 := Option.some.inj (h.symm.trans e')
    have h8 : w.heap.size = w.heap.size + 1 := h9
    omega
  · have h9 := Option.some.inj (h.symm.trans e')
    simp at h9
theorem cop_three : ∃ v1 X1 v2 X2, (Builtin.append_ #[27, 27] 27 #[.slice (some ⟨n + 1, 0, none⟩) 0 0, .slice A2 y.length c2]).run Try.prog ((w.alloc emptyRow).alloc emptyRow) = .ok v2 X1 ∧ (Builtin.append_ #[27, 27] 27 #[.slice (some ⟨n, 0, none⟩) 0 0, .slice A1 x.length c1]).run Try.prog X1 = .ok v1 X2 ∧ Cop w X2 v1 x ∧ Cop w X2 v2 y ∧ Below w.heap.size w X2 ∧ Below w.heap.size w X1 := by
  subst hnw
  have hb : Below w.heap.size w ((w.alloc emptyRow).alloc emptyRow) := ((Below.refl _ _).alloc (Nat.le_refl _) _).alloc (by simp) _
  have hl1 : OwnB ((w.alloc emptyRow).alloc emptyRow) w.heap.size 5 (.slice (some ⟨w.heap.size, 0, none⟩) 0 0) [] := (OwnB.lit0 w (Nat.le_refl _)).alloc _
  have hl2 : OwnB ((w.alloc emptyRow).alloc emptyRow) w.heap.size 5 (.slice (some ⟨w.heap.size + 1, 0, none⟩) 0 0) [] := by
    have := OwnB.lit0 (base := w.heap.size) (e := 5) (w.alloc emptyRow) (by simp)
    rw [alloc1_size] at this
    exact this
  obtain ⟨v2, X1, r2, o2, g2, e2⟩ := app_bytes _ w.heap.size _ hl2 A2 y c2 B (h2.below hb hB) hy (by simp; omega)
  have hb1 : Below w.heap.size w X1 := hb.trans (grown_below (g := w.heap.size + 1) g2 (by omega) (by simp; omega))
  have hl1' := hl1.kept' g2 (.inr (by simp [Value.ownBlock]))
  obtain ⟨v1, X2, r1, o1, g1, e1⟩ := app_bytes X1 w.heap.size _ hl1' A1 x c1 B (h1.below hb1 hB) hx hb1.size
  have hb2 : Below w.heap.size w X2 := hb1.trans (grown_below (g := w.heap.size) g1 (Nat.le_refl _) hb1.size)
  refine ⟨v1, X1, v2, X2, r2, r1, cop_of o1 hx, cop_of (o2.kept' g1 (.inr fun e => ?_)) hy, hb2, hb1⟩
  have e' : v2.ownBlock = some w.heap.size := e
  rcases e2 with h | h
  · have h9 := Option.some.inj (h.symm.trans e')
    have h8 : w.heap.size + 1 = w.heap.size := h9
    omega
  · have h9 := Option.some.inj (h.symm.trans e')
    simp at h9
    omega
end
/-- A tree whose bytes lie in blocks of Z. -/
def TreeZ (w : World) (lo p : Nat) (Z : Nat → Prop) (L : List Pr) : Prop := ∃ t, TreeAt w p t ∧ t.flat = L ∧ lo ≤ p ∧ (∀ b ∈ t.blks, lo ≤ b) ∧ ∀ z ∈ t.bys, Z z
section
variable {w w' : World} {lo p : Nat} {Z : Nat → Prop} {L : List Pr}
theorem TreeZ.tree (h : TreeZ w lo p Z L) : TreeW w lo p L := by
  obtain ⟨t, h1, h2, h3, h4, _⟩ := h
  exact ⟨t, h1, h2, h3, h4⟩
theorem TreeZ.below (h : TreeZ w lo p Z L) (hb : Below w.heap.size w w') : TreeZ w' lo p Z L := by
  obtain ⟨t, h1, h2⟩ := h
  exact ⟨t, h1.below hb, h2⟩
theorem Tn.At.bys_lt {t : Tn} (h : t.At w) : ∀ z ∈ t.bys, z < w.heap.size := by
  induction t with
  | nil => intro z hz; cases hz
  | node b k x l r hl hr =>
    obtain ⟨h1, h2, h3, h4, h5⟩ := h
    have hq : ∀ q : Bs, q.ok w → ∀ z ∈ q.blk, z < w.heap.size := by
      intro q hq z hz
      unfold Bs.blk at hz
      cases hA : q.A with
      | none => rw [hA] at hz; simp at hz
      | some a =>
        rw [hA] at hz
        simp at hz
        subst hz
        obtain ⟨cs, hg⟩ := hq.1.2 a hA
        exact heap_lt hg
    intro z hz
    simp only [Tn.bys, List.mem_append] at hz
    rcases hz with ((h | h) | h) | h
    · exact hq k h2 z h
    · exact hq x h3 z h
    · exact hl h4 z h
    · exact hr h5 z h
theorem TreeZ.of (h : TreeW w lo p L) (hZ : ∀ z, z < w.heap.size → Z z) : TreeZ w lo p Z L := by
  obtain ⟨t, h1, h2, h3, h4⟩ := h
  exact ⟨t, h1, h2, h3, h4, fun z hz => hZ z (h1.nodes.bys_lt z hz)⟩
/-- A byte elsewhere is written. -/
theorem Tn.At.byte {t : Tn} (h : t.At w) {b i : Nat} {m : Value} {cs : Array Value} (hg : w.heap[b]? = some (.cells cs 5 (0, 0))) (hb : b ∉ t.bys) : t.At (w.setCell ⟨b, i, none⟩ m) := by
  have hf : Fr w (w.setCell ⟨b, i, none⟩ m) [b] := (Fr.refl w [b]).setCell (by simp) _
  have hq : ∀ q : Bs, q.ok w → b ∉ q.blk → q.ok (w.setCell ⟨b, i, none⟩ m) := by
    intro q hq hn
    refine ⟨⟨fun hne => ?_, fun a ha => ?_⟩, hq.2⟩
    · obtain ⟨b2, o, e, hlt, hc⟩ := hq.1.1 hne
      have : b2 ∉ [b] := by simp; rintro rfl; exact hn (by unfold Bs.blk; rw [e]; simp)
      exact ⟨b2, o, e, Nat.lt_of_lt_of_le hlt hf.size, fun j u hu => (World.cell?_of_block (hf.block b2 hlt this)).trans (hc j u hu)⟩
    · obtain ⟨cs2, hg2⟩ := hq.1.2 a ha
      have : a.block ∉ [b] := by simp; intro e; exact hn (by unfold Bs.blk; rw [ha]; simp [e])
      exact ⟨cs2, (hf.block _ (heap_lt hg2) this).trans hg2⟩
  induction t with
  | nil => trivial
  | node b2 k x l r hl hr =>
    obtain ⟨h1, h2, h3, h4, h5⟩ := h
    simp only [Tn.bys, List.mem_append, not_or] at hb
    obtain ⟨⟨⟨q1, q2⟩, q3⟩, q4⟩ := hb
    refine ⟨(hf.block b2 (heap_lt h1) ?_).trans h1, hq k h2 q1, hq x h3 q2, hl h4 q3, hr h5 q4⟩
    simp
    rintro rfl
    rw [h1] at hg
    cases hg
theorem TreeZ.byte (h : TreeZ w lo p Z L) {b i : Nat} {m : Value} {cs : Array Value} (hg : w.heap[b]? = some (.cells cs 5 (0, 0))) (hb : ¬ Z b) : TreeZ (w.setCell ⟨b, i, none⟩ m) lo p Z L := by
  obtain ⟨t, h1, h2, h3, h4, h5⟩ := h
  have hf : Fr w (w.setCell ⟨b, i, none⟩ m) [b] := (Fr.refl w [b]).setCell (by simp) _
  refine ⟨t, ⟨(hf.block p (heap_lt h1.blk) ?_).trans h1.blk, h1.nodes.byte hg (fun hm => hb (h5 b hm)), h1.nodup, h1.bal, h1.ris⟩, h2, h3, h4, h5⟩
  simp
  rintro rfl
  have := h1.blk
  rw [hg] at this
  cases this
end
set_option maxRecDepth 100000 in
set_option maxHeartbeats 1000000 in
theorem zput_any {w : World} {lo p : Nat} {Z : Nat → Prop} {L : List Pr} (h : TreeZ w lo p Z L) (hZ : ∀ z, w.heap.size ≤ z → Z z) (key val : Bs) (B : Nat) (hk : Rd w B key.A (u8s key.l)) (hv : Rd w B val.A (u8s val.l)) (hB : B ≤ w.heap.size) (hkl : key.l.length ≤ 1000000) (hvl : val.l.length ≤ 1000000) (hlo : lo ≤ w.heap.size) (hn : L.length ≤ 999999) :
    Calls Try.prog 10 #[.pointer (some ⟨p, 0, none⟩), .slice key.A key.l.length key.c, .slice val.A val.l.length val.c] w fun e w' => e = .returned (.bool (decide (L.length < (insL key.l val.l L).length))) ∧ TreeZ w' lo p Z (insL key.l val.l L) ∧ Below lo w w' ∧ Stp w w' := by
  have hl1 := tlen_any h.tree
  obtain ⟨t, h1, rfl, h3, h4, h5⟩ := h
  have hw := with_any t w key val B hk hv hB hkl hvl h1.nodes h1.nodup h1.bal h1.ris (by rw [← Tn.flat_len]; exact hn)
  obtain ⟨c0, f0⟩ := h1.root
  have HW := Lib.hid hw
  have HL := Lib.hid hl1
  have HT := Lib.hid (And.intro h1 (And.intro h3 (And.intro h4 (And.intro h5 (And.intro hlo hZ)))))
  have HR := Lib.hid (rises_ins (k := key.l) (v := val.l) h1.ris)
  clear h1 h3 h4 h5 hw hl1 hk hv hB hkl hvl hlo hn hZ
  go_enter Try.func10, Try.ntmps10
  go_upto_region 3 with (first
    | (go_at_call 7; (with_reducible refine HL.out.mono ?_); rintro e w1 ⟨rfl, rfl⟩; clear HL)
    | (go_at_call 25; (with_reducible refine HW.out.mono ?_); rintro e w1 ⟨t', rfl, p1, p2, ⟨p3, _, _⟩, p6, p7, p8, p9⟩; obtain ⟨g1, g2, q1, q2⟩ := HT.out.1.setF p1 p6 p3 (by rw [p2]; exact HR.out) p7 p8; have HQ := Lib.hid (And.intro q1 (And.intro q2 (And.intro p7 (And.intro p2 p9)))); clear p1 p2 p3 p6 p7 p8 p9 q1 q2 HW))
  obtain ⟨h1, h3, h4, h5, hlo, hZ⟩ := HT.out
  obtain ⟨q1, q2, p7, p2, p9⟩ := HQ.out
  have hq : TreeZ (w1.setCell ⟨p, 0, none⟩ (.pointer t'.adr)) lo p Z (insL key.l val.l t.flat) ∧ Below lo w (w1.setCell ⟨p, 0, none⟩ (.pointer t'.adr)) ∧ Stp w (w1.setCell ⟨p, 0, none⟩ (.pointer t'.adr)) :=
    ⟨⟨t', q1, p2, h3, fun b hb => (p7 b hb).elim (h4 b) (fun h => Nat.le_trans hlo h), fun z hz => (p9 z hz).elim (h5 z) (hZ z)⟩, q2.below hlo (fun z hz => by rcases List.mem_cons.1 hz with rfl | hz; exact h3; exact h4 z hz), _, q2, h1.tb⟩
  have hl2 := tlen_any hq.1.tree
  have HL2 := Lib.hid hl2
  have HQ2 := Lib.hid hq
  clear hq hl2 h1 h3 h4 h5 hlo hZ q1 q2 p7 p2 p9
  go_wp2_with (first
    | (go_at_call 7; (with_reducible refine HL2.out.mono ?_); rintro e w2 ⟨rfl, rfl⟩; clear HL2))
  go_ret
  exact ⟨by rfl, HQ2.out.1, HQ2.out.2⟩
set_option maxRecDepth 100000 in
set_option maxHeartbeats 1000000 in
theorem zdel_any {w : World} {lo p : Nat} {Z : Nat → Prop} {L : List Pr} (h : TreeZ w lo p Z L) (key : Bs) (B : Nat) (hk : Rd w B key.A (u8s key.l)) (hlo : lo ≤ w.heap.size) (hn : L.length ≤ 1000000) :
    Calls Try.prog 16 #[.pointer (some ⟨p, 0, none⟩), .slice key.A key.l.length key.c] w fun e w' => e = .returned (.bool (decide ((delL key.l L).length < L.length))) ∧ TreeZ w' lo p Z (delL key.l L) ∧ Below lo w w' ∧ Stp w w' := by
  have hl1 := tlen_any h.tree
  obtain ⟨t, h1, rfl, h3, h4, h5⟩ := h
  have hw := without_any t w key B hk h1.nodes h1.nodup h1.bal h1.ris (by rw [← Tn.flat_len]; exact hn)
  obtain ⟨c0, f0⟩ := h1.root
  have HW := Lib.hid hw
  have HL := Lib.hid hl1
  have HT := Lib.hid (And.intro h1 (And.intro h3 (And.intro h4 (And.intro h5 hlo))))
  have HR := Lib.hid (rises_del (k := key.l) h1.ris)
  clear h1 h3 h4 h5 hw hl1 hk hlo hn
  go_enter Try.func16, Try.ntmps16
  go_upto_region 3 with (first
    | (go_at_call 7; (with_reducible refine HL.out.mono ?_); rintro e w1 ⟨rfl, rfl⟩; clear HL)
    | (go_at_call 28; (with_reducible refine HW.out.mono ?_); rintro e w1 ⟨t', rfl, p1, p2, ⟨p3, _, _⟩, p6, p7, p8, p9⟩; obtain ⟨g1, g2, q1, q2⟩ := HT.out.1.setF p1 p6 p3 (by rw [p2]; exact HR.out) (fun z hz => .inl (p7 z hz)) p8; have HQ := Lib.hid (And.intro q1 (And.intro q2 (And.intro p7 (And.intro p2 p9)))); clear p1 p2 p3 p6 p7 p8 p9 q1 q2 HW))
  obtain ⟨h1, h3, h4, h5, hlo⟩ := HT.out
  obtain ⟨q1, q2, p7, p2, p9⟩ := HQ.out
  have hq : TreeZ (w1.setCell ⟨p, 0, none⟩ (.pointer t'.adr)) lo p Z (delL key.l t.flat) ∧ Below lo w (w1.setCell ⟨p, 0, none⟩ (.pointer t'.adr)) ∧ Stp w (w1.setCell ⟨p, 0, none⟩ (.pointer t'.adr)) :=
    ⟨⟨t', q1, p2, h3, fun b hb => h4 b (p7 b hb), fun z hz => h5 z (p9 z hz)⟩, q2.below hlo (fun z hz => by rcases List.mem_cons.1 hz with rfl | hz; exact h3; exact h4 z hz), _, q2, h1.tb⟩
  have hl2 := tlen_any hq.1.tree
  have HL2 := Lib.hid hl2
  have HQ2 := Lib.hid hq
  clear hq hl2 h1 h3 h4 h5 hlo q1 q2 p7 p2 p9
  go_wp2_with (first
    | (go_at_call 7; (with_reducible refine HL2.out.mono ?_); rintro e w2 ⟨rfl, rfl⟩; clear HL2))
  go_ret
  exact ⟨by rfl, HQ2.out.1, HQ2.out.2⟩
end Go.Proofs.Ytklhfegdjadgdaa
