/- Joined: SpGI SpGJ. -/
import Derived.Test.YtgjjdmkoamjdpaaSpGE
import Derived.Test.YtgjjdmkoamjdpaaJoAD
import Derived.Test.YtgjjdmkoamjdpaaJnD
import Derived.Test.YtgjjdmkoamjdpaaSpGF0
/- append of a copy of a row of numbers and one more, in each order. -/
namespace Go.Proofs.Ytgjjdmkoamjdpaa
open Go.RowKit Go.Maps

theorem intsV_app (a b : Tu) : intsV (a ++ b) = intsV a ++ intsV b := List.map_append
section
variable {W W' : World} {B c : Nat} {A : Option Addr} {P : Tu} {x : Int} {g b : Nat}
/-- append of records onto an empty row. -/
theorem app_intW (hW : Below W.heap.size W W') (hown : W'.ownsRow W.heap.size 3 1 (.slice (some ⟨g, 0, none⟩) 0 0) 0 []) (hr : Rd W B A (intsV P)) (hB : B ≤ W.heap.size) (hn : P.length ≤ 1000) :
    ∃ A5 c5 w5, (Builtin.append_ #[25, 25] 25 #[.slice (some ⟨g, 0, none⟩) 0 0, .slice A P.length c]).run Try.prog W' = .ok (.slice A5 P.length c5) w5 ∧ w5.ownsRow W.heap.size 3 1 (.slice A5 P.length c5) P.length (intsV P) ∧ W'.grownBy w5 (some g) := by
  obtain ⟨i, hi, hz0, hz1, hz2⟩ := info_parts infoInt
  obtain ⟨v', w', hrun, h1, h2, h3⟩ := run_appR (P := Try.prog) W' W.heap.size 25 25 3 i _ 1 8 Try.underlying25 hi hz0 hz1 hz2 rfl (by omega) _ 0 [] hown W'.heap.size A P.length c (intsV P) (by rw [intsV_len, Nat.mul_one]) ((hr.below hW hB).more (Nat.le_trans hB hW.size)) (intsV_one P) (by omega) (by omega) hW.size
  rw [Nat.zero_add, List.nil_append] at h1
  obtain ⟨A', c', rfl, _, _, _⟩ := own_shape h1
  exact ⟨A', c', w', hrun, h1, h2⟩
/-- append of one record onto those. -/
theorem app_oneI13 (hW : Below W.heap.size W W') (hown : W'.ownsRow W.heap.size 3 1 (.slice A P.length c) P.length (intsV P)) (hx : Rd W' W'.heap.size (some ⟨b, 0, none⟩) (intsV [x])) (hn : P.length ≤ 1000) :
    ∃ A6 c6 w6, (Builtin.append_ #[25, 25] 25 #[.slice A P.length c, .slice (some ⟨b, 0, none⟩) 1 1]).run Try.prog W' = .ok (.slice A6 (P.length + 1) c6) w6 ∧ w6.ownsRow W.heap.size 3 1 (.slice A6 (P.length + 1) c6) (P.length + 1) (intsV (P ++ [x])) ∧ Below W.heap.size W w6 := by
  obtain ⟨i, hi, hz0, hz1, hz2⟩ := info_parts infoInt
  obtain ⟨v', w', hrun, h1, h2, h3⟩ := run_appR (P := Try.prog) W' W.heap.size 25 25 3 i _ 1 8 Try.underlying25 hi hz0 hz1 hz2 rfl (by omega) _ P.length (intsV P) hown W'.heap.size (some ⟨b, 0, none⟩) 1 1 (intsV [x]) rfl hx (intsV_one [x]) (by omega) (by omega) hW.size
  obtain ⟨A', c', rfl, _, _, _⟩ := own_shape h1
  rw [← intsV_app] at h1
  exact ⟨A', c', w', hrun, h1, hW.trans (grown_below' h2 (fun z hz => (World.ownsRow.lt hown z hz).1) hW.size)⟩
theorem rd_int13 (w : World) (x : Int) : Rd (w.alloc (.cells #[.int .i64 x] 3)) (w.alloc (.cells #[.int .i64 x] 3)).heap.size (some ⟨w.heap.size, 0, none⟩) (intsV [x]) := by
  rw [alloc1_size]
  exact Rd.new w #[.int .i64 x] 3 (0, 0)
theorem rd_keptI13 {w w' : World} {r : Option Nat} {b : Nat} {xs : List Value} (h : Rd w w.heap.size (some ⟨b, 0, none⟩) xs) (hg : w.grownBy w' r) (hr : r ≠ some b) : Rd w' w'.heap.size (some ⟨b, 0, none⟩) xs := by
  intro hn
  obtain ⟨b', o, e, hb, hc⟩ := h hn
  cases e
  exact ⟨b, 0, rfl, Nat.lt_of_lt_of_le hb hg.size, fun j u hu => (World.cell?_of_block (hg.block b hb (fun e => hr e.symm))).trans (hc j u hu)⟩
/-- What both appends leave. -/
def BothI13 (W : World) (A : Option Addr) (c : Nat) (P : Tu) (x : Int) (g _ : Nat) (W1 : World) (mid : World → World) (bm : World → Nat) : Prop :=
  ∃ A5 c5 w5 A6 c6 w6, (Builtin.append_ #[25, 25] 25 #[.slice (some ⟨g, 0, none⟩) 0 0, .slice A P.length c]).run Try.prog W1 = .ok (.slice A5 P.length c5) w5 ∧ (Builtin.append_ #[25, 25] 25 #[.slice A5 P.length c5, .slice (some ⟨bm w5, 0, none⟩) 1 1]).run Try.prog (mid w5) = .ok (.slice A6 (P.length + 1) c6) w6 ∧ w6.ownsRow W.heap.size 3 1 (.slice A6 (P.length + 1) c6) (P.length + 1) (intsV (P ++ [x])) ∧ Below W.heap.size W w6 ∧ Below W.heap.size W w5
abbrev itO13 (x : Int) : Obj := .cells #[.int .i64 x] 3
abbrev nlI13 : Obj := .cells #[] 3
/-- The empty row, the copy, the new one, the append. -/
theorem ordI13_1 (hr : Rd W B A (intsV P)) (hB : B ≤ W.heap.size) (hn : P.length ≤ 1000) (x : Int) : BothI13 W A c P x W.heap.size 0 (W.alloc nlI13) (fun w => w.alloc (itO13 x)) (fun w => w.heap.size) := by
  have hb1 : Below W.heap.size W (W.alloc nlI13) := (Below.refl _ _).alloc (Nat.le_refl _) _
  obtain ⟨A5, c5, w5, hrun, hown, hg⟩ := app_intW (A := A) (c := c) hb1 (own_lit0 W (Nat.le_refl _)) hr hB hn
  have hb5 : Below W.heap.size W w5 := hb1.trans (grown_below' hg (fun k hk => by cases hk; exact Nat.le_refl _) hb1.size)
  obtain ⟨A6, c6, w6, hrun6, hown6, hb6⟩ := app_oneI13 (b := w5.heap.size) (x := x) (hb5.alloc hb5.size (itO13 x)) (World.ownsRow.alloc hown _) (rd_int13 w5 x) hn
  exact ⟨A5, c5, w5, A6, c6, w6, hrun, hrun6, hown6, hb6, hb5⟩
/-- The empty row, the new one, the copy, the append. -/
theorem ordI13_2 (hr : Rd W B A (intsV P)) (hB : B ≤ W.heap.size) (hn : P.length ≤ 1000) (x : Int) : BothI13 W A c P x W.heap.size 0 ((W.alloc nlI13).alloc (itO13 x)) (fun w => w) (fun _ => (W.alloc nlI13).heap.size) := by
  have hb1 : Below W.heap.size W ((W.alloc nlI13).alloc (itO13 x)) := ((Below.refl _ _).alloc (Nat.le_refl _) _).alloc (by simp) _
  obtain ⟨A5, c5, w5, hrun, hown, hg⟩ := app_intW (A := A) (c := c) hb1 (World.ownsRow.alloc (own_lit0 W (Nat.le_refl _)) _) hr hB hn
  have hb5 : Below W.heap.size W w5 := hb1.trans (grown_below' hg (fun k hk => by cases hk; exact Nat.le_refl _) hb1.size)
  obtain ⟨A6, c6, w6, hrun6, hown6, hb6⟩ := app_oneI13 (b := (W.alloc nlI13).heap.size) (x := x) hb5 hown (rd_keptI13 (rd_int13 (W.alloc nlI13) x) hg (by simp)) hn
  exact ⟨A5, c5, w5, A6, c6, w6, hrun, hrun6, hown6, hb6, hb5⟩
/-- The new one, the empty row, the copy, the append. -/
theorem ordI13_3 (hr : Rd W B A (intsV P)) (hB : B ≤ W.heap.size) (hn : P.length ≤ 1000) (x : Int) : BothI13 W A c P x (W.alloc (itO13 x)).heap.size 0 ((W.alloc (itO13 x)).alloc nlI13) (fun w => w) (fun _ => W.heap.size) := by
  have hb0 : Below W.heap.size W (W.alloc (itO13 x)) := (Below.refl _ _).alloc (Nat.le_refl _) _
  have hb1 : Below W.heap.size W ((W.alloc (itO13 x)).alloc nlI13) := hb0.alloc (by simp) _
  have hrd := rd_int13 W x
  have hrd1 : Rd ((W.alloc (itO13 x)).alloc nlI13) ((W.alloc (itO13 x)).alloc nlI13).heap.size (some ⟨W.heap.size, 0, none⟩) (intsV [x]) := (hrd.alloc (Nat.le_refl _) _).more (by simp)
  obtain ⟨A5, c5, w5, hrun, hown, hg⟩ := app_intW (A := A) (c := c) hb1 (own_lit0 (W.alloc (itO13 x)) (by simp)) hr hB hn
  have hb5 : Below W.heap.size W w5 := hb1.trans (grown_below' hg (fun k hk => by cases hk; simp) hb1.size)
  obtain ⟨A6, c6, w6, hrun6, hown6, hb6⟩ := app_oneI13 (b := W.heap.size) (x := x) hb5 hown (rd_keptI13 hrd1 hg (by simp)) hn
  exact ⟨A5, c5, w5, A6, c6, w6, hrun, hrun6, hown6, hb6, hb5⟩
/-- The same, of a world behind a draw, as a walk spells it. -/
theorem ordI13_1d (hr : Rd W B A (intsV P)) (hB : B ≤ W.heap.size) (hn : P.length ≤ 1000) (x : Int) :
    ∃ A5 c5 w5 A6 c6 w6, (Builtin.append_ #[25, 25] 25 #[.slice (some ⟨W.heap.size, 0, none⟩) 0 0, .slice A P.length c]).run Try.prog (W.alloc (.cells #[] 3)).drew = .ok (.slice A5 P.length c5) w5 ∧ (Builtin.append_ #[25, 25] 25 #[.slice A5 P.length c5, .slice (some ⟨w5.heap.size, 0, none⟩) 1 1]).run Try.prog (w5.alloc (.cells #[.int .i64 x] 3)) = .ok (.slice A6 (P.length + 1) c6) w6 ∧ w6.ownsRow W.heap.size 3 1 (.slice A6 (P.length + 1) c6) (P.length + 1) (intsV (P ++ [x])) ∧ Below W.heap.size W w6 ∧ Below W.heap.size W w5 := by
  obtain ⟨A5, c5, w5, A6, c6, w6, h1, h2, h3, h4, h5⟩ := ordI13_1 (W := W.drew) (A := A) (c := c) hr hB hn x
  exact ⟨A5, c5, w5, A6, c6, w6, h1, h2, h3, ⟨h4.os, h4.tape, h4.output, h4.size, h4.block⟩, ⟨h5.os, h5.tape, h5.output, h5.size, h5.block⟩⟩
theorem ordI13_2d (hr : Rd W B A (intsV P)) (hB : B ≤ W.heap.size) (hn : P.length ≤ 1000) (x : Int) :
    ∃ A5 c5 w5 A6 c6 w6, (Builtin.append_ #[25, 25] 25 #[.slice (some ⟨W.heap.size, 0, none⟩) 0 0, .slice A P.length c]).run Try.prog ((W.alloc (.cells #[] 3)).alloc (.cells #[.int .i64 x] 3)).drew = .ok (.slice A5 P.length c5) w5 ∧ (Builtin.append_ #[25, 25] 25 #[.slice A5 P.length c5, .slice (some ⟨W.heap.size + 1, 0, none⟩) 1 1]).run Try.prog w5 = .ok (.slice A6 (P.length + 1) c6) w6 ∧ w6.ownsRow W.heap.size 3 1 (.slice A6 (P.length + 1) c6) (P.length + 1) (intsV (P ++ [x])) ∧ Below W.heap.size W w6 ∧ Below W.heap.size W w5 := by
  obtain ⟨A5, c5, w5, A6, c6, w6, h1, h2, h3, h4, h5⟩ := ordI13_2 (W := W.drew) (A := A) (c := c) hr hB hn x
  have e : (W.drew.alloc nlI13).heap.size = W.heap.size + 1 := alloc1_size W.drew nlI13
  rw [e] at h2
  exact ⟨A5, c5, w5, A6, c6, w6, h1, h2, h3, ⟨h4.os, h4.tape, h4.output, h4.size, h4.block⟩, ⟨h5.os, h5.tape, h5.output, h5.size, h5.block⟩⟩
theorem ordI13_3d (hr : Rd W B A (intsV P)) (hB : B ≤ W.heap.size) (hn : P.length ≤ 1000) (x : Int) :
    ∃ A5 c5 w5 A6 c6 w6, (Builtin.append_ #[25, 25] 25 #[.slice (some ⟨W.heap.size + 1, 0, none⟩) 0 0, .slice A P.length c]).run Try.prog ((W.alloc (.cells #[.int .i64 x] 3)).alloc (.cells #[] 3)).drew = .ok (.slice A5 P.length c5) w5 ∧ (Builtin.append_ #[25, 25] 25 #[.slice A5 P.length c5, .slice (some ⟨W.heap.size, 0, none⟩) 1 1]).run Try.prog w5 = .ok (.slice A6 (P.length + 1) c6) w6 ∧ w6.ownsRow W.heap.size 3 1 (.slice A6 (P.length + 1) c6) (P.length + 1) (intsV (P ++ [x])) ∧ Below W.heap.size W w6 ∧ Below W.heap.size W w5 := by
  obtain ⟨A5, c5, w5, A6, c6, w6, h1, h2, h3, h4, h5⟩ := ordI13_3 (W := W.drew) (A := A) (c := c) hr hB hn x
  have e : (W.drew.alloc (itO13 x)).heap.size = W.heap.size + 1 := alloc1_size W.drew (itO13 x)
  rw [e] at h1
  exact ⟨A5, c5, w5, A6, c6, w6, h1, h2, h3, ⟨h4.os, h4.tape, h4.output, h4.size, h4.block⟩, ⟨h5.os, h5.tape, h5.output, h5.size, h5.block⟩⟩
end
end Go.Proofs.Ytgjjdmkoamjdpaa
/- The rows of the document's Way: those of the layer ahead and who was seen (RtAt13), the next layer's (NxAt). -/
namespace Go.Proofs.Ytgjjdmkoamjdpaa
open Go.RowKit Go.Maps Go.Sort

/-- One more was seen. -/
theorem RtAt13.seen {lo : Nat} {w4 wz : World} {v : Value} {us : List TV} {D : TV} (h : RtAt13 lo w4 wz v us D) (x : Int) (hd : D.l.length ≤ 5000) (hz : lo ≤ wz.heap.size) :
    ∃ D' w2, (Builtin.append_ #[25, 25] 25 #[.slice D.A D.l.length D.c, .slice (some ⟨wz.heap.size, 0, none⟩) 1 1]).run Try.prog (wz.alloc (.cells #[.int .i64 x] 3)) = .ok (.slice D'.A D'.l.length D'.c) w2 ∧ D'.l = D.l ++ [x] ∧ RtAt13 lo w4 w2 v us D' ∧ wz.heap.size ≤ w2.heap.size := by
  obtain ⟨D', w2, g1, g2, g3, g4, g5, g6⟩ := run_appN wz lo D [x] h.d hz (by simp; omega)
  have ha2 : Below wz.heap.size wz (wz.alloc (.cells (intsV [x]).toArray 3)) := (Below.refl _ _).alloc (Nat.le_refl _) _
  have f2 : Fr wz w2 D.val.ownBlock.toList := (Fr.of_below ha2 _).trans g4
  refine ⟨D', w2, g1, g2, ⟨g3, rowFrS h.o f2 fun s hs hm => own_apart h.d h.o (by decide) s hm hs, fun t ht => ⟨(h.u t ht).1.fr f2 (h.u t ht).2, fun a ha hm => ?_⟩, h.b.trans g6⟩, g6.size⟩
  rcases g5 with e | e
  · rw [e] at hm; exact (h.u t ht).2 a ha hm
  · have := blk_none e hm
    have := ((h.u t ht).1.lo a ha).2
    omega
structure NxAt (w0 wz : World) (v : Value) (ns : List TV) : Prop where
  b : Below w0.heap.size w0 wz
  o : RowM wz w0.heap.size v ns
  m : ∀ t ∈ ns, OwnI wz w0.heap.size t
theorem NxAt.start (w0 : World) : NxAt w0 w0 (.slice none 0 0) [] := ⟨Below.refl _ _, RowM.nil _ _, fun _ h => nomatch h⟩
theorem NxAt.below {w0 wz w' : World} {v : Value} {ns : List TV} (h : NxAt w0 wz v ns) (hb : Below wz.heap.size wz w') : NxAt w0 w' v ns :=
  ⟨h.b.trans (lower' hb h.b.size), h.o.below hb, fun t ht => (h.m t ht).below hb⟩
theorem NxAt.push {w0 wz : World} {v : Value} {ns : List TV} (h : NxAt w0 wz v ns) {R : TV} (hr : OwnI wz w0.heap.size R) (hl : ns.length ≤ 5000) :
    ∃ A5 c5 w5, (Builtin.append_ #[38, 38] 38 #[v, .slice (some ⟨wz.heap.size, 0, none⟩) 1 1]).run Try.prog (wz.alloc (.cells #[.slice R.A R.l.length R.c] 25)) = .ok (.slice A5 (ns.length + 1) c5) w5 ∧ NxAt w0 w5 (.slice A5 (ns.length + 1) c5) (ns ++ [R]) := by
  obtain ⟨A5, c5, w5, h1, h2, h3, h4⟩ := h.o.push R hl h.b.size
  have hk : ∀ t : TV, OwnI wz w0.heap.size t → OwnI w5 w0.heap.size t := fun t ht => rowFrS ht h4 fun s hs hm => own_apart ht h.o (by decide) s hs hm
  refine ⟨A5, c5, w5, h1, ⟨h.b.trans h3, h2, fun t ht => ?_⟩⟩
  rcases List.mem_append.1 ht with h5 | h5
  · exact hk t (h.m t h5)
  · rw [List.mem_singleton.1 h5]; exact hk R hr
theorem NxAt.turn {w0 wz : World} {v : Value} {ns : List TV} (h : NxAt w0 wz v ns) {j : Nat} (hj : j < ns.length) {R : TV} (hr : OwnI wz w0.heap.size R) :
    ∃ g c, v = .slice (some ⟨g, 0, none⟩) ns.length c ∧ wz.cell? ⟨g, j, none⟩ = some (.slice ns[j].A ns[j].l.length ns[j].c) ∧ wz.frozen? ⟨g, j, none⟩ = false ∧ NxAt w0 (wz.setCell ⟨g, j, none⟩ (.slice R.A R.l.length R.c)) v (ns.set j R) := by
  obtain ⟨g, c, hv, hg1, hg2, _, _⟩ := own_form h.o (by omega)
  have ho := h.o
  unfold RowM at ho
  rw [hv] at ho
  have hc := World.ownsRow.cellAt ho j (by omega)
  have hf := World.ownsRow.frozenAt ho j
  obtain ⟨h1, h2⟩ := World.ownsRow.stored ho j (.slice R.A R.l.length R.c)
  have f2 : Fr wz (wz.setCell ⟨g, j, none⟩ (.slice R.A R.l.length R.c)) [g] := Fr.of_grown h2
  have hk : ∀ t : TV, OwnI wz w0.heap.size t → OwnI (wz.setCell ⟨g, j, none⟩ (.slice R.A R.l.length R.c)) w0.heap.size t := fun t ht => rowFrS ht f2 fun s hs hm => by
    have := own_apart ht ho (by decide) s hs
    rw [List.mem_singleton.1 hm] at this
    exact this (by simp [Value.ownBlock])
  refine ⟨g, c, hv, ?_, hf, ⟨h.b.trans (f2.below h.b.size fun s hs => by rw [List.mem_singleton.1 hs]; exact hg1), ?_, fun t ht => ?_⟩⟩
  · rw [hc]; simp [vals, TV.val, hj]
  · unfold RowM
    rw [hv, List.length_set, show vals (ns.set j R) = (vals ns).set j (.slice R.A R.l.length R.c) from List.map_set]
    exact h1
  · rcases List.mem_or_eq_of_mem_set ht with h5 | h5
    · exact hk t (h.m t h5)
    · rw [h5]; exact hk R hr
theorem NxAt.ways {lo : Nat} {w4 w0 wz : World} {vu v : Value} {us ns : List TV} {D : TV} (h : RtAt13 lo w4 w0 vu us D) (k : NxAt w0 wz v ns) (hz : lo ≤ w0.heap.size) : RtAt13 lo w4 wz v ns D :=
  ⟨h.d.below k.b, own_mono k.o hz, fun t ht => ⟨own_mono (k.m t ht) hz, fun a ha hm => by
    obtain ⟨a', ha', e⟩ := (blk_at D _).1 hm
    have h1 := (h.d.lo a' ha').2
    have h2 := ((k.m t ht).lo a ha).1
    omega⟩, h.b.trans (lower' k.b hz)⟩
end Go.Proofs.Ytgjjdmkoamjdpaa
