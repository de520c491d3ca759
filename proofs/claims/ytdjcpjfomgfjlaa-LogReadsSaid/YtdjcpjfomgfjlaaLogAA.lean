/- The document's log: append of a copy of records and one more, in each order. -/
import Derived.Test.YtdjcpjfomgfjlaaLogZ
import Derived.Test.YtdjcpjfomgfjlaaOrdM
namespace Go.Proofs.Ytdjcpjfomgfjlaa
open Go.RowKit Go.Maps

theorem infoRec4 : (Try.prog.info? 97).map (fun i => (i.zero, i.size, i.bytes)) = some (some (.agg #[.int .i64 0, .string .empty]), 2, 24) := by kernel_rfl
theorem recS_append (r r' : List Rec) : recS (r ++ r') = recS r ++ recS r' := by simp [recS]
theorem recS_one (r : List Rec) : ∀ u ∈ recS r, u.oneCell' = true := by
  intro u hu
  obtain ⟨x, _, hx⟩ := List.mem_flatMap.1 hu
  simp at hx
  rcases hx with rfl | rfl <;> rfl
section
variable {W W' w5 : World} {B n c : Nat} {A : Option Addr} {P : List Rec} {x : Rec} {g b : Nat}
/-- append of records onto an empty row. -/
theorem app_recs (hW : Below W.heap.size W W') (hown : W'.ownsRow W.heap.size 97 2 (.slice (some ⟨g, 0, none⟩) 0 0) 0 []) (hr : Rd W B A (recS P)) (hB : B ≤ W.heap.size) (hn : P.length ≤ 100000) :
    ∃ A5 c5 w5, (Builtin.append_ #[40, 40] 40 #[.slice (some ⟨g, 0, none⟩) 0 0, .slice A P.length c]).run Try.prog W' = .ok (.slice A5 P.length c5) w5 ∧ w5.ownsRow W.heap.size 97 2 (.slice A5 P.length c5) P.length (recS P) ∧ W'.grownBy w5 (some g) := by
  obtain ⟨i, hi, hz0, hz1, hz2⟩ := info_parts infoRec4
  obtain ⟨v', w', hrun, h1, h2, h3⟩ := run_appR (P := Try.prog) W' W.heap.size 40 40 97 i _ 2 24 Try.underlying40 hi hz0 hz1 hz2 rfl (by omega) _ 0 [] hown W'.heap.size A P.length c (recS P) (recS_len P) ((hr.below hW hB).more (Nat.le_trans hB hW.size)) (recS_one P) (by omega) (by omega) hW.size
  rw [Nat.zero_add, List.nil_append] at h1
  obtain ⟨A', c', rfl, _, _, _⟩ := own_shape h1
  exact ⟨A', c', w', hrun, h1, h2⟩
/-- append of one record onto those. -/
theorem app_one (hW : Below W.heap.size W W') (hown : W'.ownsRow W.heap.size 97 2 (.slice A P.length c) P.length (recS P)) (hx : Rd W' W'.heap.size (some ⟨b, 0, none⟩) (recS [x])) (hn : P.length ≤ 100000) :
    ∃ A6 c6 w6, (Builtin.append_ #[40, 40] 40 #[.slice A P.length c, .slice (some ⟨b, 0, none⟩) 1 1]).run Try.prog W' = .ok (.slice A6 (P.length + 1) c6) w6 ∧ w6.ownsRow W.heap.size 97 2 (.slice A6 (P.length + 1) c6) (P.length + 1) (recS (P ++ [x])) ∧ Below W.heap.size W w6 := by
  obtain ⟨i, hi, hz0, hz1, hz2⟩ := info_parts infoRec4
  obtain ⟨v', w', hrun, h1, h2, h3⟩ := run_appR (P := Try.prog) W' W.heap.size 40 40 97 i _ 2 24 Try.underlying40 hi hz0 hz1 hz2 rfl (by omega) _ P.length (recS P) hown W'.heap.size (some ⟨b, 0, none⟩) 1 1 (recS [x]) rfl hx (recS_one [x]) (by omega) (by omega) hW.size
  obtain ⟨A', c', rfl, _, _, _⟩ := own_shape h1
  rw [← recS_append] at h1
  exact ⟨A', c', w', hrun, h1, hW.trans (grown_below' h2 (fun z hz => (World.ownsRow.lt hown z hz).1) hW.size)⟩
theorem rd_recs_new (w : World) (x : Rec) : Rd (w.alloc (.cells #[.int .i64 (x.1 : Int), .string ⟨x.2.toArray⟩] 97)) (w.alloc (.cells #[.int .i64 (x.1 : Int), .string ⟨x.2.toArray⟩] 97)).heap.size (some ⟨w.heap.size, 0, none⟩) (recS [x]) := by
  rw [alloc1_size]
  exact Rd.new w #[.int .i64 (x.1 : Int), .string ⟨x.2.toArray⟩] 97 (0, 0)
theorem rd_kept {w w' : World} {r : Option Nat} {b : Nat} {xs : List Value} (h : Rd w w.heap.size (some ⟨b, 0, none⟩) xs) (hg : w.grownBy w' r) (hr : r ≠ some b) : Rd w' w'.heap.size (some ⟨b, 0, none⟩) xs := by
  intro hn
  obtain ⟨b', o, e, hb, hc⟩ := h hn
  cases e
  exact ⟨b, 0, rfl, Nat.lt_of_lt_of_le hb hg.size, fun j u hu => (World.cell?_of_block (hg.block b hb (fun e => hr e.symm))).trans (hc j u hu)⟩
/-- What both appends leave. -/
def Both2 (W : World) (A : Option Addr) (c : Nat) (P : List Rec) (x : Rec) (g b : Nat) (W1 : World) (mid : World → World) (bm : World → Nat) : Prop :=
  ∃ A5 c5 w5 A6 c6 w6, (Builtin.append_ #[40, 40] 40 #[.slice (some ⟨g, 0, none⟩) 0 0, .slice A P.length c]).run Try.prog W1 = .ok (.slice A5 P.length c5) w5 ∧ (Builtin.append_ #[40, 40] 40 #[.slice A5 P.length c5, .slice (some ⟨bm w5, 0, none⟩) 1 1]).run Try.prog (mid w5) = .ok (.slice A6 (P.length + 1) c6) w6 ∧ w6.ownsRow W.heap.size 97 2 (.slice A6 (P.length + 1) c6) (P.length + 1) (recS (P ++ [x])) ∧ Below W.heap.size W w6 ∧ Below W.heap.size W w5
abbrev rcO (x : Rec) : Obj := .cells #[.int .i64 (x.1 : Int), .string ⟨x.2.toArray⟩] 97
abbrev nlO : Obj := .cells #[] 97
/-- The empty row, the copy, the new one, the append. -/
theorem order1 (hr : Rd W B A (recS P)) (hB : B ≤ W.heap.size) (hn : P.length ≤ 100000) (x : Rec) : Both2 W A c P x W.heap.size 0 (W.alloc nlO) (fun w => w.alloc (rcO x)) (fun w => w.heap.size) := by
  have hb1 : Below W.heap.size W (W.alloc nlO) := (Below.refl _ _).alloc (Nat.le_refl _) _
  obtain ⟨A5, c5, w5, hrun, hown, hg⟩ := app_recs (A := A) (c := c) hb1 (own_lit0 W (Nat.le_refl _)) hr hB hn
  have hb5 : Below W.heap.size W w5 := hb1.trans (grown_below' hg (fun k hk => by cases hk; exact Nat.le_refl _) hb1.size)
  obtain ⟨A6, c6, w6, hrun6, hown6, hb6⟩ := app_one (b := w5.heap.size) (x := x) (hb5.alloc hb5.size (rcO x)) (World.ownsRow.alloc hown _) (rd_recs_new w5 x) hn
  exact ⟨A5, c5, w5, A6, c6, w6, hrun, hrun6, hown6, hb6, hb5⟩
/-- The empty row, the new one, the copy, the append. -/
theorem order2 (hr : Rd W B A (recS P)) (hB : B ≤ W.heap.size) (hn : P.length ≤ 100000) (x : Rec) : Both2 W A c P x W.heap.size 0 ((W.alloc nlO).alloc (rcO x)) (fun w => w) (fun _ => (W.alloc nlO).heap.size) := by
  have hb1 : Below W.heap.size W ((W.alloc nlO).alloc (rcO x)) := ((Below.refl _ _).alloc (Nat.le_refl _) _).alloc (by simp) _
  obtain ⟨A5, c5, w5, hrun, hown, hg⟩ := app_recs (A := A) (c := c) hb1 (World.ownsRow.alloc (own_lit0 W (Nat.le_refl _)) _) hr hB hn
  have hb5 : Below W.heap.size W w5 := hb1.trans (grown_below' hg (fun k hk => by cases hk; exact Nat.le_refl _) hb1.size)
  obtain ⟨A6, c6, w6, hrun6, hown6, hb6⟩ := app_one (b := (W.alloc nlO).heap.size) (x := x) hb5 hown (rd_kept (rd_recs_new (W.alloc nlO) x) hg (by simp)) hn
  exact ⟨A5, c5, w5, A6, c6, w6, hrun, hrun6, hown6, hb6, hb5⟩
/-- The new one, the empty row, the copy, the append. -/
theorem order3 (hr : Rd W B A (recS P)) (hB : B ≤ W.heap.size) (hn : P.length ≤ 100000) (x : Rec) : Both2 W A c P x (W.alloc (rcO x)).heap.size 0 ((W.alloc (rcO x)).alloc nlO) (fun w => w) (fun _ => W.heap.size) := by
  have hb0 : Below W.heap.size W (W.alloc (rcO x)) := (Below.refl _ _).alloc (Nat.le_refl _) _
  have hb1 : Below W.heap.size W ((W.alloc (rcO x)).alloc nlO) := hb0.alloc (by simp) _
  have hrd := rd_recs_new W x
  have hrd1 : Rd ((W.alloc (rcO x)).alloc nlO) ((W.alloc (rcO x)).alloc nlO).heap.size (some ⟨W.heap.size, 0, none⟩) (recS [x]) := (hrd.alloc (Nat.le_refl _) _).more (by simp)
  obtain ⟨A5, c5, w5, hrun, hown, hg⟩ := app_recs (A := A) (c := c) hb1 (own_lit0 (W.alloc (rcO x)) (by simp)) hr hB hn
  have hb5 : Below W.heap.size W w5 := hb1.trans (grown_below' hg (fun k hk => by cases hk; simp) hb1.size)
  obtain ⟨A6, c6, w6, hrun6, hown6, hb6⟩ := app_one (b := W.heap.size) (x := x) hb5 hown (rd_kept hrd1 hg (by simp)) hn
  exact ⟨A5, c5, w5, A6, c6, w6, hrun, hrun6, hown6, hb6, hb5⟩
/-- The same, of a world behind a draw, as a walk spells it. -/
theorem order1d (hr : Rd W B A (recS P)) (hB : B ≤ W.heap.size) (hn : P.length ≤ 100000) (s : Nat) (d : List UInt8) :
    ∃ A5 c5 w5 A6 c6 w6, (Builtin.append_ #[40, 40] 40 #[.slice (some ⟨W.heap.size, 0, none⟩) 0 0, .slice A P.length c]).run Try.prog (W.alloc (.cells #[] 97)).drew = .ok (.slice A5 P.length c5) w5 ∧ (Builtin.append_ #[40, 40] 40 #[.slice A5 P.length c5, .slice (some ⟨w5.heap.size, 0, none⟩) 1 1]).run Try.prog (w5.alloc (.cells #[.int .i64 (s : Int), .string ⟨d.toArray⟩] 97)) = .ok (.slice A6 (P.length + 1) c6) w6 ∧ w6.ownsRow W.heap.size 97 2 (.slice A6 (P.length + 1) c6) (P.length + 1) (recS (P ++ [(s, d)])) ∧ Below W.heap.size W w6 ∧ Below W.heap.size W w5 := by
  obtain ⟨A5, c5, w5, A6, c6, w6, h1, h2, h3, h4, h5⟩ := order1 (W := W.drew) (A := A) (c := c) hr hB hn (s, d)
  exact ⟨A5, c5, w5, A6, c6, w6, h1, h2, h3, ⟨h4.os, h4.tape, h4.output, h4.size, h4.block⟩, ⟨h5.os, h5.tape, h5.output, h5.size, h5.block⟩⟩
theorem order2d (hr : Rd W B A (recS P)) (hB : B ≤ W.heap.size) (hn : P.length ≤ 100000) (s : Nat) (d : List UInt8) :
    ∃ A5 c5 w5 A6 c6 w6, (Builtin.append_ #[40, 40] 40 #[.slice (some ⟨W.heap.size, 0, none⟩) 0 0, .slice A P.length c]).run Try.prog ((W.alloc (.cells #[] 97)).alloc (.cells #[.int .i64 (s : Int), .string ⟨d.toArray⟩] 97)).drew = .ok (.slice A5 P.length c5) w5 ∧ (Builtin.append_ #[40, 40] 40 #[.slice A5 P.length c5, .slice (some ⟨W.heap.size + 1, 0, none⟩) 1 1]).run Try.prog w5 = .ok (.slice A6 (P.length + 1) c6) w6 ∧ w6.ownsRow W.heap.size 97 2 (.slice A6 (P.length + 1) c6) (P.length + 1) (recS (P ++ [(s, d)])) ∧ Below W.heap.size W w6 ∧ Below W.heap.size W w5 := by
  obtain ⟨A5, c5, w5, A6, c6, w6, h1, h2, h3, h4, h5⟩ := order2 (W := W.drew) (A := A) (c := c) hr hB hn (s, d)
  have e : (W.drew.alloc nlO).heap.size = W.heap.size + 1 := alloc1_size W.drew nlO
  rw [e] at h2
  exact ⟨A5, c5, w5, A6, c6, w6, h1, h2, h3, ⟨h4.os, h4.tape, h4.output, h4.size, h4.block⟩, ⟨h5.os, h5.tape, h5.output, h5.size, h5.block⟩⟩
theorem order3d (hr : Rd W B A (recS P)) (hB : B ≤ W.heap.size) (hn : P.length ≤ 100000) (s : Nat) (d : List UInt8) :
    ∃ A5 c5 w5 A6 c6 w6, (Builtin.append_ #[40, 40] 40 #[.slice (some ⟨W.heap.size + 1, 0, none⟩) 0 0, .slice A P.length c]).run Try.prog ((W.alloc (.cells #[.int .i64 (s : Int), .string ⟨d.toArray⟩] 97)).alloc (.cells #[] 97)).drew = .ok (.slice A5 P.length c5) w5 ∧ (Builtin.append_ #[40, 40] 40 #[.slice A5 P.length c5, .slice (some ⟨W.heap.size, 0, none⟩) 1 1]).run Try.prog w5 = .ok (.slice A6 (P.length + 1) c6) w6 ∧ w6.ownsRow W.heap.size 97 2 (.slice A6 (P.length + 1) c6) (P.length + 1) (recS (P ++ [(s, d)])) ∧ Below W.heap.size W w6 ∧ Below W.heap.size W w5 := by
  obtain ⟨A5, c5, w5, A6, c6, w6, h1, h2, h3, h4, h5⟩ := order3 (W := W.drew) (A := A) (c := c) hr hB hn (s, d)
  have e : (W.drew.alloc (rcO (s, d))).heap.size = W.heap.size + 1 := alloc1_size W.drew (rcO (s, d))
  rw [e] at h1
  exact ⟨A5, c5, w5, A6, c6, w6, h1, h2, h3, ⟨h4.os, h4.tape, h4.output, h4.size, h4.block⟩, ⟨h5.os, h5.tape, h5.output, h5.size, h5.block⟩⟩
end
end Go.Proofs.Ytdjcpjfomgfjlaa
