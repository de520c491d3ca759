/- Rows of rows of numbers. -/
import Derived.Test.YtmldiojlglpoiaaSpO
namespace Go.Proofs.Ytmldiojlglpoiaa
open Go.RowKit Go.Maps Go.Sort

theorem infoRow : (Try.prog.info? 31).map (fun i => (i.zero, i.size, i.bytes)) = some (some (.slice none 0 0), 1, 24) := by kernel_rfl
/-- A row of rows of numbers, all of the call's own. -/
structure Nest (w : World) (lo g : Nat) (us : List TV) : Prop where
  row : w.ownsRow lo 31 1 (.slice (some ⟨g, 0, none⟩) us.length us.length) us.length (vals us)
  tup : ∀ t ∈ us, OwnI w lo t
  off : us.Pairwise Off
theorem Nest.kept {w w' : World} {lo g : Nat} {us : List TV} (h : Nest w lo g us) (hb : Below w.heap.size w w') : Nest w' lo g us := ⟨own_below h.row hb (Nat.le_refl _), fun t ht => (h.tup t ht).below hb, h.off⟩
theorem Nest.cell {w : World} {lo g : Nat} {us : List TV} (h : Nest w lo g us) {i : Nat} (hi : i < us.length) : w.cell? ⟨g, i, none⟩ = some (.slice us[i].A us[i].l.length us[i].c) ∧ w.frozen? ⟨g, i, none⟩ = false := by
  refine ⟨?_, World.ownsRow.frozenAt h.row i⟩
  rw [World.ownsRow.cellAt h.row i (by omega)]
  simp [vals, TV.val, hi]
theorem Nest.lt {w : World} {lo g : Nat} {us : List TV} (h : Nest w lo g us) : lo ≤ g ∧ g < w.heap.size := World.ownsRow.lt h.row g (by simp [Value.ownBlock])
theorem Nest.ok {w : World} {lo g : Nat} {us : List TV} (h : Nest w lo g us) (hl : ∀ t ∈ us, t.l.length ≤ 5000) (hs : us.length ≤ 5000) : LV.Ok w ⟨some ⟨g, 0, none⟩, us, us.length⟩ := by
  obtain ⟨A, c, e, _, _, hrd⟩ := own_shape h.row
  injection e with e1 e2 e3
  subst e1 e3
  exact ⟨hrd, fun t ht => (h.tup t ht).ok (hl t ht), Nat.le_refl _, hs⟩
theorem row_neq {w : World} {base size n b : Nat} {e t : TypeId} {v : Value} {xs : List Value} {cs : Array Value} {fr : Nat × Nat} (h : w.ownsRow base e size v n xs) (hb : w.heap[b]? = some (.cells cs t fr)) (hne : e ≠ t) : b ∉ v.ownBlock.toList := by
  intro hs
  rcases h.2 with ⟨hv, _⟩ | ⟨g, cap, cur, hv, _, hg, _⟩
  · rw [hv] at hs; simp [Value.ownBlock] at hs
  · rw [hv] at hs
    simp [Value.ownBlock] at hs
    subst hs
    rw [hg] at hb
    injection hb with hb
    injection hb with _ h2
    exact hne h2
theorem blk_at (t : TV) (b : Nat) : b ∈ t.val.ownBlock.toList ↔ ∃ a, t.A = some a ∧ a.block = b := by
  unfold TV.val
  rcases t.A with _ | a
  · simp [Value.ownBlock]
  · simp only [Value.ownBlock, Option.toList, List.mem_singleton, Option.some.injEq]
    exact ⟨fun h => ⟨a, rfl, h.symm⟩, fun ⟨a', e, h⟩ => by rw [e, h]⟩
/-- A row in it is put anew: it has grown in its own block, or has a new one. -/
theorem Nest.put {w w1 : World} {lo g : Nat} {us : List TV} {u : TV} {i : Nat} (h : Nest w lo g us) (hi : i < us.length) (hou : OwnI w1 lo u) (hf : Fr w w1 us[i].val.ownBlock.toList) (hat : ∀ b ∈ u.val.ownBlock.toList, b ∈ us[i].val.ownBlock.toList ∨ w.heap.size ≤ b) :
    (w1.cell? ⟨g, i, none⟩ = some (.slice us[i].A us[i].l.length us[i].c) ∧ w1.frozen? ⟨g, i, none⟩ = false) ∧ Nest (w1.setCell ⟨g, i, none⟩ (.slice u.A u.l.length u.c)) lo g (us.set i u) ∧ Fr w (w1.setCell ⟨g, i, none⟩ (.slice u.A u.l.length u.c)) (g :: us[i].val.ownBlock.toList) := by
  have hti := h.tup _ (List.getElem_mem hi)
  have hrow1 := rowFrS h.row hf fun s hs hms => own_apart hti h.row (by decide) s hms hs
  have h1j : ∀ j (hj : j < us.length), j ≠ i → OwnI w1 lo us[j] := fun j hj hne => (h.tup _ (List.getElem_mem hj)).fr hf fun a ha hms => by
    obtain ⟨a', ha', hb'⟩ := (blk_at us[i] a.block).1 hms
    exact off_get h.off hi hj (Ne.symm hne) a' a ha' ha hb'
  obtain ⟨hst, hgr⟩ := World.ownsRow.stored hrow1 i u.val
  have hf2 := Fr.of_grown hgr
  have hapart : ∀ t : TV, OwnI w1 lo t → ∀ a, t.A = some a → a.block ∉ [g] := fun t ht a ha hms =>
    own_apart ht hrow1 (by decide) a.block ((blk_at t a.block).2 ⟨a, ha, rfl⟩) (by rw [List.mem_singleton.1 hms]; simp [Value.ownBlock])
  refine ⟨⟨?_, World.ownsRow.frozenAt hrow1 i⟩, ⟨?_, fun t ht => ?_, off_set h.off hi fun j hj hne => ?_⟩, (hf.mono (fun x hx => List.mem_cons_of_mem _ hx)).trans (hf2.mono (fun x hx => by rw [List.mem_singleton.1 hx]; exact List.mem_cons_self ..))⟩
  · rw [World.ownsRow.cellAt hrow1 i (by omega)]
    simp [vals, TV.val, hi]
  · rw [List.length_set, vals_set]
    exact hst
  · rcases mem_set_ix hi ht with rfl | ⟨j, hj, hne, rfl⟩
    · exact hou.fr hf2 (hapart _ hou)
    · exact (h1j j hj hne).fr hf2 (hapart _ (h1j j hj hne))
  · intro a b ha hb e
    rcases hat a.block ((blk_at u a.block).2 ⟨a, ha, rfl⟩) with e1 | e1
    · obtain ⟨a', ha', hb'⟩ := (blk_at us[i] a.block).1 e1
      exact off_get h.off hi hj (Ne.symm hne) a' b ha' hb (by rw [hb', e])
    · have h3 := ((h.tup _ (List.getElem_mem hj)).lo b hb).2
      omega
/-- What a put leaves alone. -/
theorem Nest.frame {w w' : World} {lo g g2 : Nat} {us vs : List TV} {i : Nat} (h : Nest w lo g us) (k : Nest w lo g2 vs) (hi : i < us.length) (hne : g2 ≠ g) (hoff : ∀ t ∈ us, ∀ u ∈ vs, Off t u) (hf : Fr w w' (g :: us[i].val.ownBlock.toList)) : Nest w' lo g2 vs := by
  have hti := h.tup _ (List.getElem_mem hi)
  refine ⟨rowFrS k.row hf fun s hs hm => ?_, fun t ht => (k.tup t ht).fr hf fun a ha hm => ?_, k.off⟩
  · simp [Value.ownBlock] at hs
    subst hs
    rcases List.mem_cons.1 hm with e | hm
    · exact hne e
    · exact own_apart hti k.row (by decide) s hm (by simp [Value.ownBlock])
  · rcases List.mem_cons.1 hm with e | hm
    · exact own_apart (k.tup t ht) h.row (by decide) a.block ((blk_at t a.block).2 ⟨a, ha, rfl⟩) (by rw [e]; simp [Value.ownBlock])
    · obtain ⟨a', ha', hb'⟩ := (blk_at us[i] a.block).1 hm
      exact hoff _ (List.getElem_mem hi) t ht a' a ha' ha hb'
theorem Nest.low {w w' : World} {lo g : Nat} {us : List TV} {i : Nat} (h : Nest w lo g us) (hi : i < us.length) (hlo : lo ≤ w.heap.size) (hf : Fr w w' (g :: us[i].val.ownBlock.toList)) : Below lo w w' :=
  hf.below hlo fun s hs => by
    rcases List.mem_cons.1 hs with e | hs
    · rw [e]; exact h.lt.1
    · obtain ⟨a, ha, hb⟩ := (blk_at us[i] s).1 hs
      rw [← hb]
      exact ((h.tup _ (List.getElem_mem hi)).lo a ha).1
/-- A box of another type stays. -/
theorem Nest.box {w w' : World} {lo g b : Nat} {us : List TV} {i : Nat} {cs : Array Value} {t : TypeId} {fr : Nat × Nat} (h : Nest w lo g us) (hi : i < us.length) (hb : w.heap[b]? = some (.cells cs t fr)) (h1 : 31 ≠ t) (h2 : 3 ≠ t) (hf : Fr w w' (g :: us[i].val.ownBlock.toList)) : w'.heap[b]? = some (.cells cs t fr) := by
  refine (hf.block b (heap_lt hb) fun hm => ?_).trans hb
  rcases List.mem_cons.1 hm with e | hm
  · exact row_neq h.row hb h1 (by rw [e]; simp [Value.ownBlock])
  · exact row_neq (h.tup _ (List.getElem_mem hi)) hb h2 hm
/-- Two of them, apart. -/
structure Two2 (w : World) (lo og ig : Nat) (os is : List TV) : Prop where
  o : Nest w lo og os
  i : Nest w lo ig is
  ne : og ≠ ig
  off : ∀ t ∈ os, ∀ u ∈ is, Off t u
theorem Two2.symm {w : World} {lo og ig : Nat} {os is : List TV} (h : Two2 w lo og ig os is) : Two2 w lo ig og is os := ⟨h.i, h.o, h.ne.symm, fun t ht u hu => (h.off u hu t ht).symm⟩
theorem Two2.kept {w w' : World} {lo og ig : Nat} {os is : List TV} (h : Two2 w lo og ig os is) (hb : Below w.heap.size w w') : Two2 w' lo og ig os is := ⟨h.o.kept hb, h.i.kept hb, h.ne, h.off⟩
theorem Two2.put {w w1 : World} {lo og ig : Nat} {os is : List TV} {u : TV} {i : Nat} (h : Two2 w lo og ig os is) (hi : i < os.length) (hlo : lo ≤ w.heap.size) (hou : OwnI w1 lo u) (hf : Fr w w1 os[i].val.ownBlock.toList) (hat : ∀ b ∈ u.val.ownBlock.toList, b ∈ os[i].val.ownBlock.toList ∨ w.heap.size ≤ b) :
    (w1.cell? ⟨og, i, none⟩ = some (.slice os[i].A os[i].l.length os[i].c) ∧ w1.frozen? ⟨og, i, none⟩ = false) ∧ Two2 (w1.setCell ⟨og, i, none⟩ (.slice u.A u.l.length u.c)) lo og ig (os.set i u) is ∧ Below lo w (w1.setCell ⟨og, i, none⟩ (.slice u.A u.l.length u.c)) ∧ (∀ {b : Nat} {cs : Array Value} {t : TypeId} {fr : Nat × Nat}, w.heap[b]? = some (.cells cs t fr) → 31 ≠ t → 3 ≠ t → (w1.setCell ⟨og, i, none⟩ (.slice u.A u.l.length u.c)).heap[b]? = some (.cells cs t fr)) := by
  obtain ⟨h1, h2, h3⟩ := h.o.put hi hou hf hat
  refine ⟨h1, ⟨h2, h.o.frame h.i hi h.ne.symm h.off h3, h.ne, fun t ht v hv => ?_⟩, h.o.low hi hlo h3, fun hb e1 e2 => h.o.box hi hb e1 e2 h3⟩
  rcases mem_set_ix hi ht with rfl | ⟨j, hj, _, rfl⟩
  · intro a b ha hb e
    rcases hat a.block ((blk_at t a.block).2 ⟨a, ha, rfl⟩) with e1 | e1
    · obtain ⟨a', ha', hb'⟩ := (blk_at os[i] a.block).1 e1
      exact h.off _ (List.getElem_mem hi) v hv a' b ha' hb (by rw [hb', e])
    · have h3 := ((h.i.tup v hv).lo b hb).2
      omega
  · exact h.off _ (List.getElem_mem hj) v hv
/-- A number more at the end of a row. -/
theorem Two2.app {w : World} {lo og ig : Nat} {os is : List TV} {i : Nat} (h : Two2 w lo og ig os is) (hi : i < os.length) (hlo : lo ≤ w.heap.size) (x : Int) (hl : os[i].l.length ≤ 5000) :
    ∃ u : TV, ∃ w1, (Builtin.append_ #[31, 31] 31 #[.slice os[i].A os[i].l.length os[i].c, .slice (some ⟨w.heap.size, 0, none⟩) 1 1]).run Try.prog (w.alloc (.cells #[.int .i64 x] 3)) = .ok (.slice u.A u.l.length u.c) w1 ∧ u.l = os[i].l ++ [x] ∧
      (w1.cell? ⟨og, i, none⟩ = some (.slice os[i].A os[i].l.length os[i].c) ∧ w1.frozen? ⟨og, i, none⟩ = false) ∧ Two2 (w1.setCell ⟨og, i, none⟩ (.slice u.A u.l.length u.c)) lo og ig (os.set i u) is ∧ Below lo w (w1.setCell ⟨og, i, none⟩ (.slice u.A u.l.length u.c)) ∧ (∀ {b : Nat} {cs : Array Value} {t : TypeId} {fr : Nat × Nat}, w.heap[b]? = some (.cells cs t fr) → 31 ≠ t → 3 ≠ t → (w1.setCell ⟨og, i, none⟩ (.slice u.A u.l.length u.c)).heap[b]? = some (.cells cs t fr)) ∧ Below w.heap.size w (w.alloc (.cells #[.int .i64 x] 3)) ∧ (∀ {b : Nat} {cs : Array Value} {t : TypeId} {fr : Nat × Nat}, w.heap[b]? = some (.cells cs t fr) → 3 ≠ t → w1.heap[b]? = some (.cells cs t fr)) := by
  have hti := h.o.tup _ (List.getElem_mem hi)
  obtain ⟨u, w1, hrun, hul, hou, hfr, hat, _⟩ := run_appN w lo os[i] [x] hti hlo (by simp; omega)
  have hb1 : Below w.heap.size w (w.alloc (.cells #[.int .i64 x] 3)) := (Below.refl _ _).alloc (Nat.le_refl _) _
  have hf : Fr w w1 os[i].val.ownBlock.toList := (Fr.of_below hb1 _).trans hfr
  have hat' : ∀ b ∈ u.val.ownBlock.toList, b ∈ os[i].val.ownBlock.toList ∨ w.heap.size ≤ b := fun b hb => by
    rcases hat with e | e
    · rw [e] at hb; exact .inl hb
    · rw [e] at hb
      simp at hb
      exact .inr (by omega)
  obtain ⟨h1, h2, h3, h4⟩ := h.put hi hlo hou hf hat'
  exact ⟨u, w1, hrun, hul, h1, h2, h3, h4, hb1, fun hb e => (hf.block _ (heap_lt hb) fun hm => row_neq hti hb e hm).trans hb⟩
end Go.Proofs.Ytmldiojlglpoiaa
