/- TupT, what this seat can fill of it. -/
import Derived.Test.YtobieolonlddlaaJoTS
namespace Go.Proofs.Ytobieolonlddlaa
/- The law's spoil. -/
open Go.RowKit Go.Maps

/-- spoil's state: a list of the call's own, some of its tuples turned; of the elder blocks just those of S have turned. -/
structure SpAt (w wr : World) (lo : Nat) (v : Value) (S : List Nat) (us : List TV) : Prop where
  row : OwnT wr lo v us
  tup : ∀ u ∈ us, OwnI wr lo u
  off : us.Pairwise Off
  fr : Fr w wr S
  inS : ∀ u ∈ us, ∀ a, u.A = some a → a.block ∈ S ∨ w.heap.size ≤ a.block
  rowS : ∀ s ∈ v.ownBlock.toList, s ∈ S
theorem off_get {us : List TV} (h : us.Pairwise Off) {i j : Nat} (hi : i < us.length) (hj : j < us.length) (hne : i ≠ j) : Off us[i] us[j] := by
  rw [List.pairwise_iff_getElem] at h
  rcases Nat.lt_or_gt_of_ne hne with h1 | h1
  · exact h i j hi hj h1
  · exact (h j i hj hi h1).symm
theorem mem_set_ix {us : List TV} {i : Nat} {u t : TV} (hi : i < us.length) (ht : t ∈ us.set i u) : t = u ∨ ∃ j, ∃ hj : j < us.length, j ≠ i ∧ t = us[j] := by
  obtain ⟨j, hj, rfl⟩ := List.getElem_of_mem ht
  rw [List.length_set] at hj
  by_cases e : j = i
  · subst e; left; simp
  · right; exact ⟨j, hj, e, by rw [List.getElem_set_ne (Ne.symm e)]⟩
theorem off_set {us : List TV} {i : Nat} {u : TV} (h : us.Pairwise Off) (hi : i < us.length) (hu : ∀ j (hj : j < us.length), j ≠ i → Off u us[j]) : (us.set i u).Pairwise Off := by
  rw [List.pairwise_iff_getElem]
  intro a b ha hb hab
  rw [List.length_set] at ha hb
  by_cases ea : a = i
  · subst ea
    rw [List.getElem_set_self, List.getElem_set_ne (by omega)]
    exact hu b (by simpa using hb) (by omega)
  · rw [List.getElem_set_ne (by omega)]
    by_cases eb : b = i
    · subst eb
      rw [List.getElem_set_self]
      exact (hu a (by simpa using ha) ea).symm
    · rw [List.getElem_set_ne (by omega)]
      exact off_get h (by simpa using ha) (by simpa using hb) (by omega)
theorem vals_set (us : List TV) (i : Nat) (u : TV) : vals (us.set i u) = (vals us).set i u.val := by simp [vals, List.map_set]
theorem intsV_set (l : Tu) (k : Nat) (z : Int) : intsV (l.set k z) = (intsV l).set k (.int .i64 z) := by simp [intsV, List.map_set]
/-- A number of a tuple is turned. -/
theorem SpAt.tick {w wr : World} {lo : Nat} {v : Value} {S : List Nat} {us : List TV} (h : SpAt w wr lo v S us) {i : Nat} (hi : i < us.length) {g : Nat} (hA : us[i].A = some ⟨g, 0, none⟩) (k : Nat) (z : Int) :
    SpAt w (wr.setCell ⟨g, k, none⟩ (.int .i64 z)) lo v S (us.set i ⟨us[i].A, us[i].l.set k z, us[i].c⟩) := by
  have hm := List.getElem_mem hi
  have ho : wr.ownsRow lo 3 1 (.slice (some ⟨g, 0, none⟩) us[i].l.length us[i].c) us[i].l.length (intsV us[i].l) := by
    have := h.tup _ hm
    unfold OwnI TV.val at this
    rw [hA] at this
    exact this
  obtain ⟨hst, hgr⟩ := World.ownsRow.stored ho k (.int .i64 z)
  have hfr := Fr.of_grown hgr
  have hrow := rowFrS h.row hfr fun s hs hms => own_apart ho h.row (by decide) g (by simp [Value.ownBlock]) (by rw [← List.mem_singleton.1 hms]; exact hs)
  have hval : (TV.mk us[i].A (us[i].l.set k z) us[i].c).val = us[i].val := by unfold TV.val; simp
  refine ⟨?_, fun t ht => ?_, off_set h.off hi fun j hj hne => ?_, h.fr.more hfr fun s hs => ?_, fun t ht => ?_, h.rowS⟩
  · unfold OwnT
    rw [List.length_set, vals_set, hval]
    have e : (vals us).set i us[i].val = vals us := by
      apply List.ext_getElem?
      intro j
      rw [List.getElem?_set]
      by_cases ej : i = j
      · subst ej
        simp [vals, hi]
      · rw [if_neg ej]
    rw [e]
    exact hrow
  · rcases mem_set_ix hi ht with rfl | ⟨j, hj, hne, rfl⟩
    · unfold OwnI TV.val
      dsimp only
      rw [List.length_set, intsV_set, hA]
      exact hst
    · refine (h.tup _ (List.getElem_mem hj)).fr hfr fun a ha hms => ?_
      exact off_get h.off hi hj (Ne.symm hne) _ a hA ha (List.mem_singleton.1 hms).symm
  · intro a b ha hb
    exact off_get h.off hi hj (Ne.symm hne) a b ha hb
  · rw [List.mem_singleton.1 hs]
    exact h.inS _ hm _ hA
  · rcases mem_set_ix hi ht with rfl | ⟨j, hj, hne, rfl⟩
    · exact fun a ha => h.inS _ hm a ha
    · exact h.inS _ (List.getElem_mem hj)
/-- append of a number onto a tuple of the call's own. -/
theorem run_app99 (W : World) (lo : Nat) (x : TV) (hx : OwnI W lo x) (hs : x.l.length ≤ 5000) (hl : lo ≤ W.heap.size) (z : Int) :
    ∃ u : TV, ∃ w', (Builtin.append_ #[43, 43] 43 #[.slice x.A x.l.length x.c, .slice (some ⟨W.heap.size, 0, none⟩) 1 1]).run Try.prog (W.alloc (.cells #[.int .i64 z] 3)) = .ok (.slice u.A u.l.length u.c) w' ∧ u.l = x.l ++ [z] ∧ OwnI w' lo u ∧
      (W.alloc (.cells #[.int .i64 z] 3)).grownBy w' x.val.ownBlock ∧ (u.val.ownBlock = x.val.ownBlock ∨ u.val.ownBlock = some (W.heap.size + 1)) := by
  obtain ⟨i0, hi, hz0, hz1, hz2⟩ := info_parts infoInt
  have h0 := World.ownsRow.alloc hx (.cells #[.int .i64 z] 3)
  obtain ⟨v', w', h1, h2, h3, h4⟩ := run_appR (P := Try.prog) (W.alloc (.cells #[.int .i64 z] 3)) lo 43 43 3 i0 _ 1 8 Try.underlying43 hi hz0 hz1 hz2 rfl (by omega) _ x.l.length (intsV x.l) h0 (W.heap.size + 1) (some ⟨W.heap.size, 0, none⟩) 1 1 (intsV [z]) rfl (Rd.new W #[.int .i64 z] 3 (0, 0)) (intsV_one _) (by omega) (by omega) (by simp; omega)
  obtain ⟨A, c, rfl, _, _, _⟩ := own_shape h2
  rw [alloc1_size] at h4
  refine ⟨⟨A, x.l ++ [z], c⟩, w', ?_, rfl, ?_, h3, ?_⟩
  · rw [List.length_append]; exact h1
  · unfold OwnI TV.val
    dsimp only
    rw [List.length_append]
    have e : intsV (x.l ++ [z]) = intsV x.l ++ intsV [z] := by simp [intsV]
    rw [e]
    exact h2
  · unfold TV.val
    dsimp only
    rw [List.length_append]
    exact h4
theorem SpAt.app {w wr w5 : World} {lo : Nat} {S : List Nat} {us : List TV} {gr c i : Nat} {z : Int} {u : TV} (h : SpAt w wr lo (.slice (some ⟨gr, 0, none⟩) us.length c) S us) (hi : i < us.length) (ho : OwnI w5 lo u)
    (hg : (wr.alloc (.cells #[.int .i64 z] 3)).grownBy w5 us[i].val.ownBlock) (hat : u.val.ownBlock = us[i].val.ownBlock ∨ u.val.ownBlock = some (wr.heap.size + 1)) :
    SpAt w (w5.setCell ⟨gr, i, none⟩ (.slice u.A u.l.length u.c)) lo (.slice (some ⟨gr, 0, none⟩) us.length c) S (us.set i u) := by
  have hm := List.getElem_mem hi
  have hb1 : Below wr.heap.size wr (wr.alloc (.cells #[.int .i64 z] 3)) := (Below.refl _ _).alloc (Nat.le_refl _) _
  have hf1 : Fr (wr.alloc (.cells #[.int .i64 z] 3)) w5 us[i].val.ownBlock.toList := by
    rcases e : us[i].val.ownBlock with _ | g
    · rw [e] at hg; exact Fr.of_grown0 hg _
    · rw [e] at hg; exact Fr.of_grown hg
  have hti := OwnI.below (h.tup _ hm) hb1
  have hrow5 : OwnT w5 lo (.slice (some ⟨gr, 0, none⟩) us.length c) us := rowFrS (own_below h.row hb1 (Nat.le_refl _)) hf1 fun s hs hms => own_apart hti (own_below h.row hb1 (Nat.le_refl _)) (by decide) s hms hs
  obtain ⟨hst, hgr⟩ := World.ownsRow.stored hrow5 i u.val
  have hf2 := Fr.of_grown hgr
  have hrS := h.rowS gr (by simp [Value.ownBlock])
  have hapart : ∀ t : TV, OwnI w5 lo t → ∀ a, t.A = some a → a.block ∉ [gr] := fun t ht a ha hms =>
    own_apart ht hrow5 (by decide) a.block (by unfold TV.val; rw [ha]; simp [Value.ownBlock]) (by rw [List.mem_singleton.1 hms]; simp [Value.ownBlock])
  have hblk : ∀ t : TV, ∀ b, t.val.ownBlock = some b ↔ ∃ a, t.A = some a ∧ a.block = b := fun t b => by
    unfold TV.val
    rcases t.A with _ | a <;> simp [Value.ownBlock]
  have h5j : ∀ j (hj : j < us.length), j ≠ i → OwnI w5 lo us[j] := fun j hj hne => (OwnI.below (h.tup _ (List.getElem_mem hj)) hb1).fr hf1 fun a ha hms => by
    rcases e : us[i].val.ownBlock with _ | g
    · rw [e] at hms; simp at hms
    · rw [e] at hms
      simp at hms
      obtain ⟨a', ha', hb'⟩ := (hblk us[i] g).1 e
      exact off_get h.off hi hj (Ne.symm hne) a' a ha' ha (by rw [hb', hms])
  refine ⟨?_, fun t ht => ?_, off_set h.off hi fun j hj hne => ?_, ?_, fun t ht => ?_, h.rowS⟩
  · unfold OwnT
    rw [List.length_set, vals_set]
    exact hst
  · rcases mem_set_ix hi ht with rfl | ⟨j, hj, hne, rfl⟩
    · exact ho.fr hf2 (hapart _ ho)
    · exact (h5j j hj hne).fr hf2 (hapart _ (h5j j hj hne))
  · intro a b ha hb e
    rcases hat with e1 | e1
    · obtain ⟨a', ha', hb'⟩ := (hblk us[i] a.block).1 (by rw [← e1]; exact (hblk u a.block).2 ⟨a, ha, rfl⟩)
      exact off_get h.off hi hj (Ne.symm hne) a' b ha' hb (by rw [hb', e])
    · have h2 := (hblk u a.block).2 ⟨a, ha, rfl⟩
      rw [e1] at h2
      injection h2 with h2
      have h3 := ((h.tup _ (List.getElem_mem hj)).lo b hb).2
      omega
  · have f1 : Fr wr w5 us[i].val.ownBlock.toList := (Fr.of_below hb1 _).trans hf1
    have f2 := h.fr.more f1 fun s hs => by
      obtain ⟨a, ha, hb⟩ := (hblk us[i] s).1 (by simpa using hs)
      rw [← hb]
      exact h.inS _ hm a ha
    exact f2.more hf2 fun s hs => by rw [List.mem_singleton.1 hs]; exact .inl hrS
  · rcases mem_set_ix hi ht with rfl | ⟨j, hj, hne, rfl⟩
    · intro a ha
      rcases hat with e1 | e1
      · obtain ⟨a', ha', hb'⟩ := (hblk us[i] a.block).1 (by rw [← e1]; exact (hblk t a.block).2 ⟨a, ha, rfl⟩)
        rw [← hb']
        exact h.inS _ hm a' ha'
      · have h2 := (hblk t a.block).2 ⟨a, ha, rfl⟩
        rw [e1] at h2
        injection h2 with h2
        have := h.fr.size
        exact .inr (by omega)
    · exact h.inS _ (List.getElem_mem hj)
/-- All blocks of a list and its tuples. -/
def blksL (x : LV) : List Nat := x.val.ownBlock.toList ++ x.ts.flatMap fun t => t.val.ownBlock.toList
theorem SpAt.start {w : World} {lo : Nat} {x : LV} (h : OwnL w lo x.val x.ts) : SpAt w w lo x.val (blksL x) x.ts := by
  refine ⟨h.row, h.tup, h.off, Fr.refl _ _, fun u hu a ha => .inl ?_, fun s hs => List.mem_append.2 (.inl hs)⟩
  refine List.mem_append.2 (.inr (List.mem_flatMap.2 ⟨u, hu, ?_⟩))
  unfold TV.val
  rw [ha]
  simp [Value.ownBlock]
theorem blksL_rng {w : World} {lo m : Nat} {x : LV} (h : OwnL w lo x.val x.ts) (hm : LtB x m) : ∀ s ∈ blksL x, lo ≤ s ∧ s < m := by
  intro s hs
  rcases List.mem_append.1 hs with hs | hs
  · have h1 := (World.ownsRow.lt h.row s (by simpa using hs)).1
    refine ⟨h1, ?_⟩
    rcases hA : x.A with _ | a
    · unfold LV.val at hs; rw [hA] at hs; simp [Value.ownBlock] at hs
    · unfold LV.val at hs; rw [hA] at hs; simp [Value.ownBlock] at hs
      rw [hs]; exact hm.1 a hA
  · obtain ⟨t, ht, hs⟩ := List.mem_flatMap.1 hs
    rcases hA : t.A with _ | a
    · unfold TV.val at hs; rw [hA] at hs; simp [Value.ownBlock] at hs
    · unfold TV.val at hs; rw [hA] at hs; simp [Value.ownBlock] at hs
      rw [hs]
      exact ⟨((h.tup t ht).lo a hA).1, hm.2 t ht a hA⟩
end Go.Proofs.Ytobieolonlddlaa
