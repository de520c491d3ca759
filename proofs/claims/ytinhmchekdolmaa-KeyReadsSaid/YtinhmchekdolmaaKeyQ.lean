/- The document's own answers for package key: Ref, part, Cmp, Same. -/
import Derived.Test.YtinhmchekdolmaaProg
import Derived.Test.YtinhmchekdolmaaKeyG
import Derived.Test.YtinhmchekdolmaaKeyM
import Derived.WalkKit
import Derived.WalkSpells
import Derived.WalkLawsBesides
import Derived.Deep.QuietTactic
import Derived.Deep.RegionHeld3
import Derived.Lib.Strings
import Derived.BigQuiet
import Derived.KernelRfl
import Derived.Lib.Hide
namespace Go.Proofs.Ytinhmchekdolmaa
open Go.RowKit

/-- A part with nothing in it that its kind doesn't use. -/
def norm (q : KPart) : KPart := if q.text then ⟨true, q.s, 0⟩ else ⟨false, ⟨#[]⟩, q.n⟩
theorem partC_norm (p q : KPart) : partC (norm p) (norm q) = partC p q := by
  unfold norm partC
  rcases hp : p.text <;> rcases hq : q.text <;> simp
theorem keyC_norm : ∀ a b : List KPart, keyC (a.map norm) (b.map norm) = keyC a b
  | [], [] => rfl
  | [], _ :: _ => rfl
  | _ :: _, [] => rfl
  | p :: a, q :: b => by
    simp only [List.map_cons, keyC]
    rw [partC_norm, keyC_norm a b]

theorem rd2 (w : World) (o : Obj) (cs : Array Value) (t : TypeId) : Rd ((w.alloc o).alloc (.cells cs t)) (w.heap.size + 1 + 1) (some ⟨w.heap.size + 1, 0, none⟩) cs.toList := by
  have h := Rd.new (w.alloc o) cs t (0, 0)
  simpa using h

theorem infoRef : (Try.prog.info? 57).map (fun i => (i.zero, i.size, i.bytes)) = some (some (.agg #[.bool false, .string ⟨#[]⟩, .int .i64 0]), 3, 32) := by kernel_rfl

set_option maxRecDepth 100000 in
set_option maxHeartbeats 1000000 in
theorem ref_any (A : Option Addr) (ks : List KPart) (n c B : Nat) (w : World) (hn : n = ks.length) (hr : Rd w B A (pcs ks)) (hB : B ≤ w.heap.size) (hl : ks.length ≤ 4398046511104) :
    Calls Try.prog 15 #[.slice A n c] w fun e w' => ∃ v, e = .returned v ∧ OwnP w' w.heap.size 57 v (ks.map norm) ∧ Below w.heap.size w w' := by
  subst hn
  obtain ⟨i0, hi, hz0, hz1, hz2⟩ := info_parts infoRef
  go_enter Try.func15, Try.ntmps15
  go_wp2
  go_loopw [3, 8] (fun v i wr => ∃ k : Nat, k ≤ ks.length ∧ i = .int .i64 (k : Int) ∧ OwnP wr w.heap.size 57 v ((ks.take k).map norm) ∧ Below w.heap.size w wr) (fun _ i _ => ks.length - (intOf i).toNat)
  case atStart => exact ⟨0, by omega, rfl, World.ownsRow_nil _ _ _ _, Below.refl _ _⟩
  case round =>
    obtain ⟨k, hk, rfl, hown, hbk⟩ := hrel
    have hsz := hbk.size
    rcases Nat.lt_or_ge k ks.length with h8 | h8
    · obtain ⟨q, hq⟩ : ∃ q, q = ks[k] := ⟨_, rfl⟩
      have hsn : (ks.take (k + 1)).map norm = (ks.take k).map norm ++ [norm q] := by rw [hq, kTake _ _ h8, List.map_append]; rfl
      have hrw := hr.below hbk hB
      obtain ⟨pb, po, rfl, hpB, c0, c1, c2⟩ := hrw.part h8
      rw [← hq] at c0 c1 c2
      have l0 := World.block_lt_of_cell? wr _ c0
      simp only at l0
      have hlk : ((ks.take k).map norm).length + 1 ≤ 4398046511104 := by rw [List.length_map, List.length_take]; omega
      obtain ⟨xs, hxs⟩ : ∃ xs, xs = (ks.take k).map norm := ⟨_, rfl⟩
      rw [← hxs] at hown hlk hsn
      have HS := Lib.hid hsn
      clear hsn hq hxs
      obtain ⟨tx, s, z⟩ := q
      simp only at c0 c1 c2
      cases tx
      · have hnq : Hid (norm ⟨false, s, z⟩ = ⟨false, ⟨#[]⟩, z⟩) := rfl
        go_wp2_with (at_builtin; refine wpList_appR _ rfl (.tmp 31) (.tmp 33) _ rfl w.heap.size 57 i0 _ 3 32 Try.underlying32 hi hz0 hz1 hz2 rfl (by omega) u3 xs.length (pcs xs) rfl (World.ownsRow.alloc (World.ownsRow.alloc hown _) _) (wr.heap.size + 1 + 1) (some ⟨wr.heap.size + 1, 0, none⟩) 1 1 (pcs [⟨false, ⟨#[]⟩, z⟩]) rfl rfl (rd2 wr _ _ _) (pcs_one _) (by omega) (by omega) (by simp; omega) ?_; intro v1 w1 hown1 hg1 hat1)
        go_roundw
        case rel =>
          have hb1 : Below w.heap.size wr w1 := (((Below.refl _ _).alloc hsz _).alloc (by simp; omega) _).grown hg1 (by simp; omega) (fun k hk => (World.ownsRow.lt hown k hk).1)
          exact ⟨k + 1, by omega, by go_num, by rw [HS.out, hnq.out]; unfold OwnP; rw [List.length_append, pcs_append]; exact hown1, hbk.trans hb1⟩
        case measure => simp [intOf]; omega
      · have hnq : Hid (norm ⟨true, s, z⟩ = ⟨true, s, 0⟩) := rfl
        go_wp2_with (at_builtin; refine wpList_appR _ rfl (.tmp 31) (.tmp 33) _ rfl w.heap.size 57 i0 _ 3 32 Try.underlying32 hi hz0 hz1 hz2 rfl (by omega) u3 xs.length (pcs xs) rfl (World.ownsRow.alloc (World.ownsRow.alloc hown _) _) (wr.heap.size + 1 + 1) (some ⟨wr.heap.size + 1, 0, none⟩) 1 1 (pcs [⟨true, s, 0⟩]) rfl rfl (rd2 wr _ _ _) (pcs_one _) (by omega) (by omega) (by simp; omega) ?_; intro v1 w1 hown1 hg1 hat1)
        go_roundw
        case rel =>
          have hb1 : Below w.heap.size wr w1 := (((Below.refl _ _).alloc hsz _).alloc (by simp; omega) _).grown hg1 (by simp; omega) (fun k hk => (World.ownsRow.lt hown k hk).1)
          exact ⟨k + 1, by omega, by go_num, by rw [HS.out, hnq.out]; unfold OwnP; rw [List.length_append, pcs_append]; exact hown1, hbk.trans hb1⟩
        case measure => simp [intOf]; omega
    · obtain rfl : k = ks.length := by omega
      go_wp2
      go_ret
      exact ⟨_, rfl, by rw [List.take_length] at hown; exact hown, hbk⟩

/-- The document's order of two parts is key.Cmp's. -/
theorem cbl (a b : List UInt8) : Op.bytesLess a b = decide (Lib.compareBytes a b < 0) := by
  induction a generalizing b with
  | nil => cases b <;> simp [Lib.compareBytes, Op.bytesLess]
  | cons x a ih =>
    cases b with
    | nil => simp [Lib.compareBytes, Op.bytesLess]
    | cons y b =>
      unfold Lib.compareBytes Op.bytesLess
      rcases Nat.lt_trichotomy x.toNat y.toNat with h | h | h
      · have h1 : x < y := by rw [u8lt]; exact h
        simp [h1]
      · obtain rfl : x = y := UInt8.toNat_inj.1 h
        have h1 : ¬ x < x := UInt8.lt_irrefl x
        simp [ih]
      · have h1 : ¬ x < y := by rw [u8lt]; omega
        have h2 : y < x := by rw [u8lt]; exact h
        have h3 : ¬ x = y := by rintro rfl; omega
        simp [h1, h2, h3]

set_option maxRecDepth 100000 in
set_option maxHeartbeats 1000000 in
theorem refPart_any (p q : KPart) (w : World) : Calls Try.prog 35 #[.agg p.cells, .agg q.cells] w fun e w' => e = .returned (.int .i64 (partC p q)) ∧ Below w.heap.size w w' := by
  obtain ⟨tp, sp, np⟩ := p
  obtain ⟨tq, sq, nq⟩ := q
  simp only [KPart.cells]
  cases tp <;> cases tq
  · rcases Int.lt_trichotomy np nq with h | h | h
    · have hi : Hid (partC ⟨false, sp, np⟩ ⟨false, sq, nq⟩ = -1) := by show partC ⟨false, sp, np⟩ ⟨false, sq, nq⟩ = -1; simp [partC, intC, h]
      go_enter Try.func35, Try.ntmps35
      go_wp2
      go_ret
      exact ⟨by rw [hi.out]; rfl, ((Below.refl _ _).alloc (Nat.le_refl _) _).alloc (by simp) _⟩
    · subst h
      have hi : Hid (partC ⟨false, sp, np⟩ ⟨false, sq, np⟩ = 0) := by show partC ⟨false, sp, np⟩ ⟨false, sq, np⟩ = 0; simp [partC, intC]
      go_enter Try.func35, Try.ntmps35
      go_wp2
      go_ret
      exact ⟨by rw [hi.out]; rfl, ((Below.refl _ _).alloc (Nat.le_refl _) _).alloc (by simp) _⟩
    · have h2 : ¬ np < nq := by omega
      have hi : Hid (partC ⟨false, sp, np⟩ ⟨false, sq, nq⟩ = 1) := by show partC ⟨false, sp, np⟩ ⟨false, sq, nq⟩ = 1; simp [partC, intC, h, h2]
      go_enter Try.func35, Try.ntmps35
      go_wp2
      go_ret
      exact ⟨by rw [hi.out]; rfl, ((Below.refl _ _).alloc (Nat.le_refl _) _).alloc (by simp) _⟩
  · go_enter Try.func35, Try.ntmps35
    go_wp2
    go_ret
    exact ⟨rfl, ((Below.refl _ _).alloc (Nat.le_refl _) _).alloc (by simp) _⟩
  · go_enter Try.func35, Try.ntmps35
    go_wp2
    go_ret
    exact ⟨rfl, ((Below.refl _ _).alloc (Nat.le_refl _) _).alloc (by simp) _⟩
  · have c1 := cbl sp.data.toList sq.data.toList
    have c2 := cbl sq.data.toList sp.data.toList
    rw [cb_swap sp.data.toList sq.data.toList] at c2
    rw [← Lib.toList_data, ← Lib.toList_data] at c1 c2
    have hp : partC ⟨true, sp, np⟩ ⟨true, sq, nq⟩ = Lib.compareBytes sp.data.toList sq.data.toList := rfl
    rw [← Lib.toList_data, ← Lib.toList_data] at hp
    rcases cb_range sp.toList sq.toList with h | h | h
    · rw [h] at c1 c2 hp
      have d1 : Op.bytesLess sp.toList sq.toList = true := by rw [c1]; rfl
      have hi := Lib.hid hp
      clear c1 c2 hp h
      go_enter Try.func35, Try.ntmps35
      go_wp2
      go_ret
      exact ⟨by rw [hi.out]; rfl, ((Below.refl _ _).alloc (Nat.le_refl _) _).alloc (by simp) _⟩
    · rw [h] at c1 c2 hp
      have d1 : Op.bytesLess sp.toList sq.toList = false := by rw [c1]; rfl
      have d2 : Op.bytesLess sq.toList sp.toList = false := by rw [c2]; rfl
      have d3 : (sp.toList == sq.toList) = true := by simpa using bl_total _ _ d1 d2
      have hi := Lib.hid hp
      clear c1 c2 hp h
      go_enter Try.func35, Try.ntmps35
      go_wp2
      go_ret
      exact ⟨by rw [hi.out]; rfl, ((Below.refl _ _).alloc (Nat.le_refl _) _).alloc (by simp) _⟩
    · rw [h] at c1 c2 hp
      have d1 : Op.bytesLess sp.toList sq.toList = false := by rw [c1]; rfl
      have d2 : Op.bytesLess sq.toList sp.toList = true := by rw [c2]; rfl
      have d3 : (sp.toList == sq.toList) = false := by
        rw [beq_eq_false_iff_ne]
        intro e
        rw [e, bl_irr] at d2
        cases d2
      have hi := Lib.hid hp
      clear c1 c2 hp h
      go_enter Try.func35, Try.ntmps35
      go_wp2
      go_ret
      exact ⟨by rw [hi.out]; rfl, ((Below.refl _ _).alloc (Nat.le_refl _) _).alloc (by simp) _⟩
end Go.Proofs.Ytinhmchekdolmaa
