/- JoBD, what this seat can fill of it. -/
import Derived.Test.YtmldiojlglpoiaaJoBC
import Derived.Test.YtmldiojlglpoiaaJnK
import Derived.Test.YtmldiojlglpoiaaOrdM
namespace Go.Proofs.Ytmldiojlglpoiaa
/- append of a copy of edges and one more, in each order. -/
open Go.RowKit Go.Maps

section
variable {W W' : World} {B c : Nat} {A : Option Addr} {P : List Ed} {x : Ed} {g b : Nat}
/-- append of records onto an empty row. -/
theorem app_eds (hW : Below W.heap.size W W') (hown : W'.ownsRow W.heap.size 48 3 (.slice (some ⟨g, 0, none⟩) 0 0) 0 []) (hr : Rd W B A (edsC P)) (hB : B ≤ W.heap.size) (hn : P.length ≤ 1000) :
    ∃ A5 c5 w5, (Builtin.append_ #[22, 22] 22 #[.slice (some ⟨g, 0, none⟩) 0 0, .slice A P.length c]).run Try.prog W' = .ok (.slice A5 P.length c5) w5 ∧ w5.ownsRow W.heap.size 48 3 (.slice A5 P.length c5) P.length (edsC P) ∧ W'.grownBy w5 (some g) := by
  obtain ⟨i, hi, hz0, hz1, hz2⟩ := info_parts infoEdge
  obtain ⟨v', w', hrun, h1, h2, h3⟩ := run_appR (P := Try.prog) W' W.heap.size 22 22 48 i _ 3 32 Try.underlying22 hi hz0 hz1 hz2 rfl (by omega) _ 0 [] hown W'.heap.size A P.length c (edsC P) (edsC_len P) ((hr.below hW hB).more (Nat.le_trans hB hW.size)) (edsC_one P) (by omega) (by omega) hW.size
  rw [Nat.zero_add, List.nil_append] at h1
  obtain ⟨A', c', rfl, _, _, _⟩ := own_shape h1
  exact ⟨A', c', w', hrun, h1, h2⟩
/-- append of one record onto those. -/
theorem app_oneE (hW : Below W.heap.size W W') (hown : W'.ownsRow W.heap.size 48 3 (.slice A P.length c) P.length (edsC P)) (hx : Rd W' W'.heap.size (some ⟨b, 0, none⟩) (edsC [x])) (hn : P.length ≤ 1000) :
    ∃ A6 c6 w6, (Builtin.append_ #[22, 22] 22 #[.slice A P.length c, .slice (some ⟨b, 0, none⟩) 1 1]).run Try.prog W' = .ok (.slice A6 (P.length + 1) c6) w6 ∧ w6.ownsRow W.heap.size 48 3 (.slice A6 (P.length + 1) c6) (P.length + 1) (edsC (P ++ [x])) ∧ Below W.heap.size W w6 := by
  obtain ⟨i, hi, hz0, hz1, hz2⟩ := info_parts infoEdge
  obtain ⟨v', w', hrun, h1, h2, h3⟩ := run_appR (P := Try.prog) W' W.heap.size 22 22 48 i _ 3 32 Try.underlying22 hi hz0 hz1 hz2 rfl (by omega) _ P.length (edsC P) hown W'.heap.size (some ⟨b, 0, none⟩) 1 1 (edsC [x]) rfl hx (edsC_one [x]) (by omega) (by omega) hW.size
  obtain ⟨A', c', rfl, _, _, _⟩ := own_shape h1
  rw [← edsC_app] at h1
  exact ⟨A', c', w', hrun, h1, hW.trans (grown_below' h2 (fun z hz => (World.ownsRow.lt hown z hz).1) hW.size)⟩
theorem rd_ed_new (w : World) (x : Ed) : Rd (w.alloc (.cells #[.int .i64 x.f, .string ⟨x.lab.toArray⟩, .int .i64 x.t] 48)) (w.alloc (.cells #[.int .i64 x.f, .string ⟨x.lab.toArray⟩, .int .i64 x.t] 48)).heap.size (some ⟨w.heap.size, 0, none⟩) (edsC [x]) := by
  rw [alloc1_size]
  exact Rd.new w #[.int .i64 x.f, .string ⟨x.lab.toArray⟩, .int .i64 x.t] 48 (0, 0)
theorem rd_keptE {w w' : World} {r : Option Nat} {b : Nat} {xs : List Value} (h : Rd w w.heap.size (some ⟨b, 0, none⟩) xs) (hg : w.grownBy w' r) (hr : r ≠ some b) : Rd w' w'.heap.size (some ⟨b, 0, none⟩) xs := by
  intro hn
  obtain ⟨b', o, e, hb, hc⟩ := h hn
  cases e
  exact ⟨b, 0, rfl, Nat.lt_of_lt_of_le hb hg.size, fun j u hu => (World.cell?_of_block (hg.block b hb (fun e => hr e.symm))).trans (hc j u hu)⟩
/-- What both appends leave. -/
def BothE (W : World) (A : Option Addr) (c : Nat) (P : List Ed) (x : Ed) (g _ : Nat) (W1 : World) (mid : World → World) (bm : World → Nat) : Prop :=
  ∃ A5 c5 w5 A6 c6 w6, (Builtin.append_ #[22, 22] 22 #[.slice (some ⟨g, 0, none⟩) 0 0, .slice A P.length c]).run Try.prog W1 = .ok (.slice A5 P.length c5) w5 ∧ (Builtin.append_ #[22, 22] 22 #[.slice A5 P.length c5, .slice (some ⟨bm w5, 0, none⟩) 1 1]).run Try.prog (mid w5) = .ok (.slice A6 (P.length + 1) c6) w6 ∧ w6.ownsRow W.heap.size 48 3 (.slice A6 (P.length + 1) c6) (P.length + 1) (edsC (P ++ [x])) ∧ Below W.heap.size W w6 ∧ Below W.heap.size W w5
abbrev edO (x : Ed) : Obj := .cells #[.int .i64 x.f, .string ⟨x.lab.toArray⟩, .int .i64 x.t] 48
abbrev nlE : Obj := .cells #[] 48
/-- The empty row, the copy, the new one, the append. -/
theorem ordE1 (hr : Rd W B A (edsC P)) (hB : B ≤ W.heap.size) (hn : P.length ≤ 1000) (x : Ed) : BothE W A c P x W.heap.size 0 (W.alloc nlE) (fun w => w.alloc (edO x)) (fun w => w.heap.size) := by
  have hb1 : Below W.heap.size W (W.alloc nlE) := (Below.refl _ _).alloc (Nat.le_refl _) _
  obtain ⟨A5, c5, w5, hrun, hown, hg⟩ := app_eds (A := A) (c := c) hb1 (own_lit0 W (Nat.le_refl _)) hr hB hn
  have hb5 : Below W.heap.size W w5 := hb1.trans (grown_below' hg (fun k hk => by cases hk; exact Nat.le_refl _) hb1.size)
  obtain ⟨A6, c6, w6, hrun6, hown6, hb6⟩ := app_oneE (b := w5.heap.size) (x := x) (hb5.alloc hb5.size (edO x)) (World.ownsRow.alloc hown _) (rd_ed_new w5 x) hn
  exact ⟨A5, c5, w5, A6, c6, w6, hrun, hrun6, hown6, hb6, hb5⟩
/-- The empty row, the new one, the copy, the append. -/
theorem ordE2 (hr : Rd W B A (edsC P)) (hB : B ≤ W.heap.size) (hn : P.length ≤ 1000) (x : Ed) : BothE W A c P x W.heap.size 0 ((W.alloc nlE).alloc (edO x)) (fun w => w) (fun _ => (W.alloc nlE).heap.size) := by
  have hb1 : Below W.heap.size W ((W.alloc nlE).alloc (edO x)) := ((Below.refl _ _).alloc (Nat.le_refl _) _).alloc (by simp) _
  obtain ⟨A5, c5, w5, hrun, hown, hg⟩ := app_eds (A := A) (c := c) hb1 (World.ownsRow.alloc (own_lit0 W (Nat.le_refl _)) _) hr hB hn
  have hb5 : Below W.heap.size W w5 := hb1.trans (grown_below' hg (fun k hk => by cases hk; exact Nat.le_refl _) hb1.size)
  obtain ⟨A6, c6, w6, hrun6, hown6, hb6⟩ := app_oneE (b := (W.alloc nlE).heap.size) (x := x) hb5 hown (rd_keptE (rd_ed_new (W.alloc nlE) x) hg (by simp)) hn
  exact ⟨A5, c5, w5, A6, c6, w6, hrun, hrun6, hown6, hb6, hb5⟩
/-- The new one, the empty row, the copy, the append. -/
theorem ordE3 (hr : Rd W B A (edsC P)) (hB : B ≤ W.heap.size) (hn : P.length ≤ 1000) (x : Ed) : BothE W A c P x (W.alloc (edO x)).heap.size 0 ((W.alloc (edO x)).alloc nlE) (fun w => w) (fun _ => W.heap.size) := by
  have hb0 : Below W.heap.size W (W.alloc (edO x)) := (Below.refl _ _).alloc (Nat.le_refl _) _
  have hb1 : Below W.heap.size W ((W.alloc (edO x)).alloc nlE) := hb0.alloc (by simp) _
  have hrd := rd_ed_new W x
  have hrd1 : Rd ((W.alloc (edO x)).alloc nlE) ((W.alloc (edO x)).alloc nlE).heap.size (some ⟨W.heap.size, 0, none⟩) (edsC [x]) := (hrd.alloc (Nat.le_refl _) _).more (by simp)
  obtain ⟨A5, c5, w5, hrun, hown, hg⟩ := app_eds (A := A) (c := c) hb1 (own_lit0 (W.alloc (edO x)) (by simp)) hr hB hn
  have hb5 : Below W.heap.size W w5 := hb1.trans (grown_below' hg (fun k hk => by cases hk; simp) hb1.size)
  obtain ⟨A6, c6, w6, hrun6, hown6, hb6⟩ := app_oneE (b := W.heap.size) (x := x) hb5 hown (rd_keptE hrd1 hg (by simp)) hn
  exact ⟨A5, c5, w5, A6, c6, w6, hrun, hrun6, hown6, hb6, hb5⟩
/-- The same, of a world behind a draw, as a walk spells it. -/
theorem ordE1d (hr : Rd W B A (edsC P)) (hB : B ≤ W.heap.size) (hn : P.length ≤ 1000) (x : Ed) :
    ∃ A5 c5 w5 A6 c6 w6, (Builtin.append_ #[22, 22] 22 #[.slice (some ⟨W.heap.size, 0, none⟩) 0 0, .slice A P.length c]).run Try.prog (W.alloc (.cells #[] 48)).drew = .ok (.slice A5 P.length c5) w5 ∧ (Builtin.append_ #[22, 22] 22 #[.slice A5 P.length c5, .slice (some ⟨w5.heap.size, 0, none⟩) 1 1]).run Try.prog (w5.alloc (.cells #[.int .i64 x.f, .string ⟨x.lab.toArray⟩, .int .i64 x.t] 48)) = .ok (.slice A6 (P.length + 1) c6) w6 ∧ w6.ownsRow W.heap.size 48 3 (.slice A6 (P.length + 1) c6) (P.length + 1) (edsC (P ++ [x])) ∧ Below W.heap.size W w6 ∧ Below W.heap.size W w5 := by
  obtain ⟨A5, c5, w5, A6, c6, w6, h1, h2, h3, h4, h5⟩ := ordE1 (W := W.drew) (A := A) (c := c) hr hB hn x
  exact ⟨A5, c5, w5, A6, c6, w6, h1, h2, h3, ⟨h4.os, h4.tape, h4.output, h4.size, h4.block⟩, ⟨h5.os, h5.tape, h5.output, h5.size, h5.block⟩⟩
theorem ordE2d (hr : Rd W B A (edsC P)) (hB : B ≤ W.heap.size) (hn : P.length ≤ 1000) (x : Ed) :
    ∃ A5 c5 w5 A6 c6 w6, (Builtin.append_ #[22, 22] 22 #[.slice (some ⟨W.heap.size, 0, none⟩) 0 0, .slice A P.length c]).run Try.prog ((W.alloc (.cells #[] 48)).alloc (.cells #[.int .i64 x.f, .string ⟨x.lab.toArray⟩, .int .i64 x.t] 48)).drew = .ok (.slice A5 P.length c5) w5 ∧ (Builtin.append_ #[22, 22] 22 #[.slice A5 P.length c5, .slice (some ⟨W.heap.size + 1, 0, none⟩) 1 1]).run Try.prog w5 = .ok (.slice A6 (P.length + 1) c6) w6 ∧ w6.ownsRow W.heap.size 48 3 (.slice A6 (P.length + 1) c6) (P.length + 1) (edsC (P ++ [x])) ∧ Below W.heap.size W w6 ∧ Below W.heap.size W w5 := by
  obtain ⟨A5, c5, w5, A6, c6, w6, h1, h2, h3, h4, h5⟩ := ordE2 (W := W.drew) (A := A) (c := c) hr hB hn x
  have e : (W.drew.alloc nlE).heap.size = W.heap.size + 1 := alloc1_size W.drew nlE
  rw [e] at h2
  exact ⟨A5, c5, w5, A6, c6, w6, h1, h2, h3, ⟨h4.os, h4.tape, h4.output, h4.size, h4.block⟩, ⟨h5.os, h5.tape, h5.output, h5.size, h5.block⟩⟩
theorem ordE3d (hr : Rd W B A (edsC P)) (hB : B ≤ W.heap.size) (hn : P.length ≤ 1000) (x : Ed) :
    ∃ A5 c5 w5 A6 c6 w6, (Builtin.append_ #[22, 22] 22 #[.slice (some ⟨W.heap.size + 1, 0, none⟩) 0 0, .slice A P.length c]).run Try.prog ((W.alloc (.cells #[.int .i64 x.f, .string ⟨x.lab.toArray⟩, .int .i64 x.t] 48)).alloc (.cells #[] 48)).drew = .ok (.slice A5 P.length c5) w5 ∧ (Builtin.append_ #[22, 22] 22 #[.slice A5 P.length c5, .slice (some ⟨W.heap.size, 0, none⟩) 1 1]).run Try.prog w5 = .ok (.slice A6 (P.length + 1) c6) w6 ∧ w6.ownsRow W.heap.size 48 3 (.slice A6 (P.length + 1) c6) (P.length + 1) (edsC (P ++ [x])) ∧ Below W.heap.size W w6 ∧ Below W.heap.size W w5 := by
  obtain ⟨A5, c5, w5, A6, c6, w6, h1, h2, h3, h4, h5⟩ := ordE3 (W := W.drew) (A := A) (c := c) hr hB hn x
  have e : (W.drew.alloc (edO x)).heap.size = W.heap.size + 1 := alloc1_size W.drew (edO x)
  rw [e] at h1
  exact ⟨A5, c5, w5, A6, c6, w6, h1, h2, h3, ⟨h4.os, h4.tape, h4.output, h4.size, h4.block⟩, ⟨h5.os, h5.tape, h5.output, h5.size, h5.block⟩⟩
end
end Go.Proofs.Ytmldiojlglpoiaa
