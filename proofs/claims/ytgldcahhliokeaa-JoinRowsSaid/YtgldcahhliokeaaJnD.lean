/- Joined: JoTS JoTT JoTU JoTV JoTX JoTY JoTZ. -/
import Derived.ProofKit
import Derived.SizedLaws
import Derived.Deep.Slices
import Derived.Deep.Grids
import Derived.ChangeSame
import Derived.OpenShut
import Derived.Test.YtgldcahhliokeaaJnC
import Derived.Lib.SlicesCompact
import Derived.Test.YtgldcahhliokeaaShelf
import Derived.BigQuiet
import Derived.Deep.QuietTactic
import Derived.Deep.LoopGhost
import Derived.Deep.Draws
import Derived.Lib.SliceRun
/- TupS, what this seat can fill of it. -/
namespace Go.Proofs.Ytgldcahhliokeaa
/- Tuples, lists of them and deltas among the arguments, opened. -/
open Go.ChangeShapes Go.WideShapes Go.ChangeAt Go.RowKit Go.Deep
set_option maxRecDepth 100000

/-- A tuple of whatever length. -/
def TV.Raw (w : World) (t : TV) : Prop := Rd w w.heap.size t.A (intsV t.l) ∧ t.l.length ≤ t.c
theorem rd_addr {W : World} {x : Addr} {xs : List Value} (hcc : ∀ j u, xs[j]? = some u → W.cell? (x.add j) = some u) : Rd W W.heap.size (some x) xs := by
  by_cases hb : x.block < W.heap.size
  · exact Rd.ofAddr hb hcc
  · intro hn
    obtain ⟨y, r, hyr⟩ := List.exists_cons_of_ne_nil hn
    have := hcc 0 y (by rw [hyr]; rfl)
    have h2 := World.block_lt_of_cell? W _ this
    simp [Addr.add] at h2
    omega
theorem tuple_trod {H : Type} {enc : TypeId × Value → H} {W : World} {fuel : Nat} {v : Value} {y : DataW H × List MemPlace}
    (hf : DataW.trod enc Try.prog W 0 (fun _ => true) true fuel 43 [v] = some y) : ∃ t : TV, v = t.val ∧ t.Raw W := by
  rcases open_ints Try.underlying43 Try.underlying3 (by kernel_rfl) hf with ⟨hcs, _⟩ | ⟨x, len0, cap0, zs, hcs, _, hl, hm, hz, hx, hcell, hwz⟩
  · simp only [List.cons.injEq, and_true] at hcs
    subst hcs
    exact ⟨⟨none, [], 0⟩, rfl, Rd.emp _ _ _, Nat.le_refl _⟩
  · simp only [List.cons.injEq, and_true] at hcs
    subst hcs
    simp only [if_true] at hz
    have hll : (zs.take len0).length = len0 := by rw [List.length_take]; omega
    refine ⟨⟨some x, zs.take len0, cap0⟩, by unfold TV.val; rw [hll], rd_addr fun j u hu => ?_, by show (zs.take len0).length ≤ cap0; omega⟩
    have hj : j < (intsV (zs.take len0)).length := (List.getElem?_eq_some_iff.1 hu).1
    rw [intsV_len, hll] at hj
    rw [hcell j (by omega), ← hu]
    simp [intsV, hj, List.getElem?_eq_getElem (show j < zs.length by omega)]
theorem choose_rows {α : Type} [Inhabited α] {p : Nat → α → Prop} (m : Nat) (h : ∀ i, i < m → ∃ q, p i q) : ∃ L : List α, L.length = m ∧ ∀ i (hi : i < L.length), p i L[i] := by
  obtain ⟨f, hf⟩ := choose_lt h
  refine ⟨(List.range m).map f, by simp, fun i hi => ?_⟩
  simp only [List.getElem_map, List.getElem_range]
  exact hf i (by simpa using hi)
theorem tuples_trod {H : Type} {enc : TypeId × Value → H} {W : World} {fuel : Nat} {v : Value} {y : DataW H × List MemPlace}
    (hf : DataW.trod enc Try.prog W 0 (fun _ => true) true fuel 30 [v] = some y) : ∃ x : LV, v = .slice x.A x.ts.length x.c ∧ x.Raw W := by
  rcases open_slice1 Try.underlying30 (by kernel_rfl) hf with ⟨hcs, _⟩ | ⟨x, len, cap, m, n, V, D, Pl, hcs, _, hl, hm, hmm, hx, hel⟩
  · simp only [List.cons.injEq, and_true] at hcs
    subst hcs
    exact ⟨⟨none, [], 0⟩, rfl, Rd.emp _ _ _, fun _ h => (nomatch h), Nat.le_refl _⟩
  · simp only [List.cons.injEq, and_true] at hcs
    subst hcs
    simp only [if_true] at hmm
    subst hmm
    have hel2 : ∀ i, i < len → ∃ q : TV, V i = q.val ∧ q.Raw W := fun i hi => tuple_trod (hel i (by omega)).2
    obtain ⟨L, hL, hk⟩ := choose_rows len hel2
    subst hL
    refine ⟨⟨some x, L, m⟩, rfl, rd_addr fun j u hu => ?_, fun t ht => ?_, hl⟩
    · have hj : j < L.length := by have := (List.getElem?_eq_some_iff.1 hu).1; rw [vals_len] at this; exact this
      rw [(hel j (by omega)).1, ← hu, (hk j hj).1]
      simp [vals, hj]
    · obtain ⟨i, hi, rfl⟩ := List.mem_iff_getElem.1 ht
      exact (hk i hi).2
theorem open_tuple {H : Type} {enc : TypeId × Value → H} {W : World} {base : Nat} {v : Value} {d : DataW H} {p : List MemPlace} (hv : Value.okWide Try.prog W .any base 43 v)
    (h : DataW.Trod enc Try.prog W 0 (fun _ => true) true 43 v d p) : ∃ t : TV, v = .slice t.A t.l.length t.c ∧ t.Raw W := by
  obtain ⟨a0, len0, cap0, rfl⟩ := okWide_slice Try.underlying43 hv
  obtain ⟨fuel, hf⟩ := h
  exact tuple_trod hf
theorem open_tuples {H : Type} {enc : TypeId × Value → H} {W : World} {base : Nat} {v : Value} {d : DataW H} {p : List MemPlace} (hv : Value.okWide Try.prog W .any base 30 v)
    (h : DataW.Trod enc Try.prog W 0 (fun _ => true) true 30 v d p) : ∃ x : LV, v = .slice x.A x.ts.length x.c ∧ x.Raw W := by
  obtain ⟨a0, len0, cap0, rfl⟩ := okWide_slice Try.underlying30 hv
  obtain ⟨fuel, hf⟩ := h
  exact tuples_trod hf
theorem trod_struct2 {H : Type} {enc : TypeId × Value → H} {P : Program} {w : World} {base : Nat} {spare : Nat → Bool} {held : Bool} {t : TypeId} {f0 f1 : Field} {fuel : Nat} {cs : List Value} {x : DataW H × List MemPlace}
    (ht : P.underlying t = some (.struct #[f0, f1])) (h : DataW.trod enc P w base spare held fuel t cs = some x) :
    ∃ y0 y1 n, DataW.trod enc P w base spare held n f0.type ((cs.drop f0.offset).take (P.cellsOf f0.type)) = some y0 ∧
      DataW.trod enc P w base spare held n f1.type ((cs.drop f1.offset).take (P.cellsOf f1.type)) = some y1 := by
  obtain ⟨xs, n, _, rfl, hl, hlen, hf⟩ := DataW.trod_struct ht h
  match xs, hlen with
  | [y0, y1], _ => exact ⟨y0, y1, n, by simpa using hf 0 f0 rfl, by simpa using hf 1 f1 rfl⟩
end Go.Proofs.Ytgldcahhliokeaa
/- TupT, what this seat can fill of it. -/
namespace Go.Proofs.Ytgldcahhliokeaa
/- The law's spoil. -/
open Go.RowKit Go.Maps

/-- spoil's state: a list of the call's own, some of its tuples turned; of the elder blocks just those of S have turned. -/
structure SpAt (w wr : World) (lo : Nat) (v : Value) (S : List Nat) (us : List TV) : Prop where
  row : OwnT wr lo v us
  tup : ∀ u ∈ us, OwnI wr lo u
  off : us.Pairwise Off
  fr : Fr w wr S
  inS : ∀ u ∈ us, ∀ a, u.A = some a → a.block ∈ S ∨ w.heap.size ≤ a.block
  rowS : ∀ s ∈ v.ownBlock.toList, s ∈ S
theorem off_get {us : List TV} (h : us.Pairwise Off) {i j : Nat} (hi : i < us.length) (hj : j < us.length) (hne : i ≠ j) : Off us[i] us[j] := by
  rw [List.pairwise_iff_getElem] at h
  rcases Nat.lt_or_gt_of_ne hne with h1 | h1
  · exact h i j hi hj h1
  · exact (h j i hj hi h1).symm
theorem mem_set_ix {us : List TV} {i : Nat} {u t : TV} (hi : i < us.length) (ht : t ∈ us.set i u) : t = u ∨ ∃ j, ∃ hj : j < us.length, j ≠ i ∧ t = us[j] := by
  obtain ⟨j, hj, rfl⟩ := List.getElem_of_mem ht
  rw [List.length_set] at hj
  by_cases e : j = i
  · subst e; left; simp
  · right; exact ⟨j, hj, e, by rw [List.getElem_set_ne (Ne.symm e)]⟩
theorem off_set {us : List TV} {i : Nat} {u : TV} (h : us.Pairwise Off) (hi : i < us.length) (hu : ∀ j (hj : j < us.length), j ≠ i → Off u us[j]) : (us.set i u).Pairwise Off := by
  rw [List.pairwise_iff_getElem]
  intro a b ha hb hab
  rw [List.length_set] at ha hb
  by_cases ea : a = i
  · subst ea
    rw [List.getElem_set_self, List.getElem_set_ne (by omega)]
    exact hu b (by simpa using hb) (by omega)
  · rw [List.getElem_set_ne (by omega)]
    by_cases eb : b = i
    · subst eb
      rw [List.getElem_set_self]
      exact (hu a (by simpa using ha) ea).symm
    · rw [List.getElem_set_ne (by omega)]
      exact off_get h (by simpa using ha) (by simpa using hb) (by omega)
theorem vals_set (us : List TV) (i : Nat) (u : TV) : vals (us.set i u) = (vals us).set i u.val := by simp [vals, List.map_set]
theorem intsV_set (l : Tu) (k : Nat) (z : Int) : intsV (l.set k z) = (intsV l).set k (.int .i64 z) := by simp [intsV, List.map_set]
/-- A number of a tuple is turned. -/
theorem SpAt.tick {w wr : World} {lo : Nat} {v : Value} {S : List Nat} {us : List TV} (h : SpAt w wr lo v S us) {i : Nat} (hi : i < us.length) {g : Nat} (hA : us[i].A = some ⟨g, 0, none⟩) (k : Nat) (z : Int) :
    SpAt w (wr.setCell ⟨g, k, none⟩ (.int .i64 z)) lo v S (us.set i ⟨us[i].A, us[i].l.set k z, us[i].c⟩) := by
  have hm := List.getElem_mem hi
  have ho : wr.ownsRow lo 3 1 (.slice (some ⟨g, 0, none⟩) us[i].l.length us[i].c) us[i].l.length (intsV us[i].l) := by
    have := h.tup _ hm
    unfold OwnI TV.val at this
    rw [hA] at this
    exact this
  obtain ⟨hst, hgr⟩ := World.ownsRow.stored ho k (.int .i64 z)
  have hfr := Fr.of_grown hgr
  have hrow := rowFrS h.row hfr fun s hs hms => own_apart ho h.row (by decide) g (by simp [Value.ownBlock]) (by rw [← List.mem_singleton.1 hms]; exact hs)
  have hval : (TV.mk us[i].A (us[i].l.set k z) us[i].c).val = us[i].val := by unfold TV.val; simp
  refine ⟨?_, fun t ht => ?_, off_set h.off hi fun j hj hne => ?_, h.fr.more hfr fun s hs => ?_, fun t ht => ?_, h.rowS⟩
  · unfold OwnT
    rw [List.length_set, vals_set, hval]
    have e : (vals us).set i us[i].val = vals us := by
      apply List.ext_getElem?
      intro j
      rw [List.getElem?_set]
      by_cases ej : i = j
      · subst ej
        simp [vals, hi]
      · rw [if_neg ej]
    rw [e]
    exact hrow
  · rcases mem_set_ix hi ht with rfl | ⟨j, hj, hne, rfl⟩
    · unfold OwnI TV.val
      dsimp only
      rw [List.length_set, intsV_set, hA]
      exact hst
    · refine (h.tup _ (List.getElem_mem hj)).fr hfr fun a ha hms => ?_
      exact off_get h.off hi hj (Ne.symm hne) _ a hA ha (List.mem_singleton.1 hms).symm
  · intro a b ha hb
    exact off_get h.off hi hj (Ne.symm hne) a b ha hb
  · rw [List.mem_singleton.1 hs]
    exact h.inS _ hm _ hA
  · rcases mem_set_ix hi ht with rfl | ⟨j, hj, hne, rfl⟩
    · exact fun a ha => h.inS _ hm a ha
    · exact h.inS _ (List.getElem_mem hj)
/-- append of a number onto a tuple of the call's own. -/
theorem run_app99 (W : World) (lo : Nat) (x : TV) (hx : OwnI W lo x) (hs : x.l.length ≤ 5000) (hl : lo ≤ W.heap.size) (z : Int) :
    ∃ u : TV, ∃ w', (Builtin.append_ #[43, 43] 43 #[.slice x.A x.l.length x.c, .slice (some ⟨W.heap.size, 0, none⟩) 1 1]).run Try.prog (W.alloc (.cells #[.int .i64 z] 3)) = .ok (.slice u.A u.l.length u.c) w' ∧ u.l = x.l ++ [z] ∧ OwnI w' lo u ∧
      (W.alloc (.cells #[.int .i64 z] 3)).grownBy w' x.val.ownBlock ∧ (u.val.ownBlock = x.val.ownBlock ∨ u.val.ownBlock = some (W.heap.size + 1)) := by
  obtain ⟨i0, hi, hz0, hz1, hz2⟩ := info_parts infoInt
  have h0 := World.ownsRow.alloc hx (.cells #[.int .i64 z] 3)
  obtain ⟨v', w', h1, h2, h3, h4⟩ := run_appR (P := Try.prog) (W.alloc (.cells #[.int .i64 z] 3)) lo 43 43 3 i0 _ 1 8 Try.underlying43 hi hz0 hz1 hz2 rfl (by omega) _ x.l.length (intsV x.l) h0 (W.heap.size + 1) (some ⟨W.heap.size, 0, none⟩) 1 1 (intsV [z]) rfl (Rd.new W #[.int .i64 z] 3 (0, 0)) (intsV_one _) (by omega) (by omega) (by simp; omega)
  obtain ⟨A, c, rfl, _, _, _⟩ := own_shape h2
  rw [alloc1_size] at h4
  refine ⟨⟨A, x.l ++ [z], c⟩, w', ?_, rfl, ?_, h3, ?_⟩
  · rw [List.length_append]; exact h1
  · unfold OwnI TV.val
    dsimp only
    rw [List.length_append]
    have e : intsV (x.l ++ [z]) = intsV x.l ++ intsV [z] := by simp [intsV]
    rw [e]
    exact h2
  · unfold TV.val
    dsimp only
    rw [List.length_append]
    exact h4
theorem SpAt.app {w wr w5 : World} {lo : Nat} {S : List Nat} {us : List TV} {gr c i : Nat} {z : Int} {u : TV} (h : SpAt w wr lo (.slice (some ⟨gr, 0, none⟩) us.length c) S us) (hi : i < us.length) (ho : OwnI w5 lo u)
    (hg : (wr.alloc (.cells #[.int .i64 z] 3)).grownBy w5 us[i].val.ownBlock) (hat : u.val.ownBlock = us[i].val.ownBlock ∨ u.val.ownBlock = some (wr.heap.size + 1)) :
    SpAt w (w5.setCell ⟨gr, i, none⟩ (.slice u.A u.l.length u.c)) lo (.slice (some ⟨gr, 0, none⟩) us.length c) S (us.set i u) := by
  have hm := List.getElem_mem hi
  have hb1 : Below wr.heap.size wr (wr.alloc (.cells #[.int .i64 z] 3)) := (Below.refl _ _).alloc (Nat.le_refl _) _
  have hf1 : Fr (wr.alloc (.cells #[.int .i64 z] 3)) w5 us[i].val.ownBlock.toList := by
    rcases e : us[i].val.ownBlock with _ | g
    · rw [e] at hg; exact Fr.of_grown0 hg _
    · rw [e] at hg; exact Fr.of_grown hg
  have hti := OwnI.below (h.tup _ hm) hb1
  have hrow5 : OwnT w5 lo (.slice (some ⟨gr, 0, none⟩) us.length c) us := rowFrS (own_below h.row hb1 (Nat.le_refl _)) hf1 fun s hs hms => own_apart hti (own_below h.row hb1 (Nat.le_refl _)) (by decide) s hms hs
  obtain ⟨hst, hgr⟩ := World.ownsRow.stored hrow5 i u.val
  have hf2 := Fr.of_grown hgr
  have hrS := h.rowS gr (by simp [Value.ownBlock])
  have hapart : ∀ t : TV, OwnI w5 lo t → ∀ a, t.A = some a → a.block ∉ [gr] := fun t ht a ha hms =>
    own_apart ht hrow5 (by decide) a.block (by unfold TV.val; rw [ha]; simp [Value.ownBlock]) (by rw [List.mem_singleton.1 hms]; simp [Value.ownBlock])
  have hblk : ∀ t : TV, ∀ b, t.val.ownBlock = some b ↔ ∃ a, t.A = some a ∧ a.block = b := fun t b => by
    unfold TV.val
    rcases t.A with _ | a <;> simp [Value.ownBlock]
  have h5j : ∀ j (hj : j < us.length), j ≠ i → OwnI w5 lo us[j] := fun j hj hne => (OwnI.below (h.tup _ (List.getElem_mem hj)) hb1).fr hf1 fun a ha hms => by
    rcases e : us[i].val.ownBlock with _ | g
    · rw [e] at hms; simp at hms
    · rw [e] at hms
      simp at hms
      obtain ⟨a', ha', hb'⟩ := (hblk us[i] g).1 e
      exact off_get h.off hi hj (Ne.symm hne) a' a ha' ha (by rw [hb', hms])
  refine ⟨?_, fun t ht => ?_, off_set h.off hi fun j hj hne => ?_, ?_, fun t ht => ?_, h.rowS⟩
  · unfold OwnT
    rw [List.length_set, vals_set]
    exact hst
  · rcases mem_set_ix hi ht with rfl | ⟨j, hj, hne, rfl⟩
    · exact ho.fr hf2 (hapart _ ho)
    · exact (h5j j hj hne).fr hf2 (hapart _ (h5j j hj hne))
  · intro a b ha hb e
    rcases hat with e1 | e1
    · obtain ⟨a', ha', hb'⟩ := (hblk us[i] a.block).1 (by rw [← e1]; exact (hblk u a.block).2 ⟨a, ha, rfl⟩)
      exact off_get h.off hi hj (Ne.symm hne) a' b ha' hb (by rw [hb', e])
    · have h2 := (hblk u a.block).2 ⟨a, ha, rfl⟩
      rw [e1] at h2
      injection h2 with h2
      have h3 := ((h.tup _ (List.getElem_mem hj)).lo b hb).2
      omega
  · have f1 : Fr wr w5 us[i].val.ownBlock.toList := (Fr.of_below hb1 _).trans hf1
    have f2 := h.fr.more f1 fun s hs => by
      obtain ⟨a, ha, hb⟩ := (hblk us[i] s).1 (by simpa using hs)
      rw [← hb]
      exact h.inS _ hm a ha
    exact f2.more hf2 fun s hs => by rw [List.mem_singleton.1 hs]; exact .inl hrS
  · rcases mem_set_ix hi ht with rfl | ⟨j, hj, hne, rfl⟩
    · intro a ha
      rcases hat with e1 | e1
      · obtain ⟨a', ha', hb'⟩ := (hblk us[i] a.block).1 (by rw [← e1]; exact (hblk t a.block).2 ⟨a, ha, rfl⟩)
        rw [← hb']
        exact h.inS _ hm a' ha'
      · have h2 := (hblk t a.block).2 ⟨a, ha, rfl⟩
        rw [e1] at h2
        injection h2 with h2
        have := h.fr.size
        exact .inr (by omega)
    · exact h.inS _ (List.getElem_mem hj)
/-- All blocks of a list and its tuples. -/
def blksL (x : LV) : List Nat := x.val.ownBlock.toList ++ x.ts.flatMap fun t => t.val.ownBlock.toList
theorem SpAt.start {w : World} {lo : Nat} {x : LV} (h : OwnL w lo x.val x.ts) : SpAt w w lo x.val (blksL x) x.ts := by
  refine ⟨h.row, h.tup, h.off, Fr.refl _ _, fun u hu a ha => .inl ?_, fun s hs => List.mem_append.2 (.inl hs)⟩
  refine List.mem_append.2 (.inr (List.mem_flatMap.2 ⟨u, hu, ?_⟩))
  unfold TV.val
  rw [ha]
  simp [Value.ownBlock]
theorem blksL_rng {w : World} {lo m : Nat} {x : LV} (h : OwnL w lo x.val x.ts) (hm : LtB x m) : ∀ s ∈ blksL x, lo ≤ s ∧ s < m := by
  intro s hs
  rcases List.mem_append.1 hs with hs | hs
  · have h1 := (World.ownsRow.lt h.row s (by simpa using hs)).1
    refine ⟨h1, ?_⟩
    rcases hA : x.A with _ | a
    · unfold LV.val at hs; rw [hA] at hs; simp [Value.ownBlock] at hs
    · unfold LV.val at hs; rw [hA] at hs; simp [Value.ownBlock] at hs
      rw [hs]; exact hm.1 a hA
  · obtain ⟨t, ht, hs⟩ := List.mem_flatMap.1 hs
    rcases hA : t.A with _ | a
    · unfold TV.val at hs; rw [hA] at hs; simp [Value.ownBlock] at hs
    · unfold TV.val at hs; rw [hA] at hs; simp [Value.ownBlock] at hs
      rw [hs]
      exact ⟨((h.tup t ht).lo a hA).1, hm.2 t ht a hA⟩
end Go.Proofs.Ytgldcahhliokeaa
/- TupU, what this seat can fill of it. -/
namespace Go.Proofs.Ytgldcahhliokeaa
/- What the laws of this layer share: few of some lists. -/
open Go.RowKit Go.Maps

theorem fewB_mem {ls : List LV} (h : fewB ls = true) {x : LV} (hx : x ∈ ls) : fewL x = true := List.all_eq_true.1 h x hx
theorem de_fix {w' : World} {lo m : Nat} {x y : LV} (p1 : OwnL w' lo x.val x.ts) (p3 : LtB x m) (p4 : lo ≤ m) (p5 : OwnL w' m y.val y.ts) (h : lo ≤ w'.heap.size) : ∃ k, LtB x k ∧ lo ≤ k ∧ OwnL w' k y.val y.ts ∧ k ≤ w'.heap.size := by
  have q := p1.lt
  refine ⟨min m w'.heap.size, ⟨fun a ha => ?_, fun t ht a ha => ?_⟩, by omega, p5.mono (Nat.min_le_left _ _), Nat.min_le_right _ _⟩
  · have := p3.1 a ha
    have := q.1 a ha
    omega
  · have := p3.2 t ht a ha
    have := q.2 t ht a ha
    omega
end Go.Proofs.Ytgldcahhliokeaa
/- TupV, what this seat can fill of it. -/
namespace Go.Proofs.Ytgldcahhliokeaa
/- A row of tuples, sorted by the library: slices.SortFunc(out, Cmp). -/
open Go.RowKit Go.Maps Go.Shelf Go.Sort Go.Lib

theorem TV.Ok.frS {w w' : World} {t : TV} {S : List Nat} (h : t.Ok w) (hf : Fr w w' S) (hS : ∀ a, t.A = some a → a.block ∉ S) : t.Ok w' := by
  refine ⟨fun hn => ?_, h.cap, h.sm⟩
  obtain ⟨b, o, e, hb, hc⟩ := h.rd hn
  refine ⟨b, o, e, Nat.lt_of_lt_of_le hb hf.size, fun j u hu => ?_⟩
  rw [← hc j u hu]
  unfold World.cell?
  rw [hf.block b hb (hS _ e)]
theorem fr_put {α : Type} [Inhabited α] (enc : α → Value) (w : World) (blk off n : Nat) (d : Array α) (os : Array Obj) : Fr w (grow (putRow enc (Sort.ahead w n) blk off d) os) [blk] := by
  refine ⟨rfl, rfl, rfl, ?_, fun k hk hs => ?_⟩
  · rw [size_grow, size_putRow]; exact Nat.le_add_right _ _
  · rw [heap_grow_old _ _ (by rw [size_putRow]; exact hk)]
    have hne : blk ≠ k := fun e => hs (by rw [e]; exact List.mem_singleton.2 rfl)
    simp [putRow, mapBlock, Array.getElem?_modify, hne, Sort.ahead]
/-- A list's row as the library's contracts want it. -/
theorem OwnT.row {w : World} {base blk n cap : Nat} {ts : List TV} (h : OwnT w base (.slice (some ⟨blk, 0, none⟩) n cap) ts) : n = ts.length ∧ n ≤ cap ∧ cap ≤ maxLen ∧ base ≤ blk ∧ ∃ cur, w.heap[blk]? = some (.cells cur 43 (0, 0)) ∧ cur.size = cap ∧ cur.toList.take n = vals ts := by
  unfold OwnT World.ownsRow at h
  obtain ⟨h1, h2⟩ := h
  rcases h2 with ⟨e, _⟩ | ⟨g, cap', cur, hv, hb, hh, hle, hm, hs, ht⟩
  · cases e
  · injection hv with e1 e2 e3
    injection e1 with e1
    injection e1 with e1 _ _
    subst e1 e2 e3
    exact ⟨rfl, hle, hm, hb, cur, hh, by omega, by rw [Nat.mul_one] at ht; exact ht⟩
theorem OwnT.holds {α : Type} [Inhabited α] (f : α → TV) {w : World} {base blk n cap : Nat} {ts : List TV} (h : OwnT w base (.slice (some ⟨blk, 0, none⟩) n cap) ts) (d : Array α) (hd : d.toList.map f = ts) : Holds (fun x => (f x).val) w blk 0 d := by
  obtain ⟨hn, hle, _, _, cur, hh, hs, ht⟩ := h.row
  intro j hj
  refine ⟨?_, frozen_of_row w blk _ _ _ hh⟩
  rw [Nat.zero_add, cell_of_row w blk j _ _ _ hh]
  have e : cur.toList[j]? = (cur.toList.take n)[j]? := by
    rw [List.getElem?_take, if_pos]
    have := congrArg List.length hd
    simp at this
    omega
  rw [← Array.getElem?_toList, e, ht, ← hd]
  simp only [vals, List.map_map, List.getElem?_map, Array.getElem?_toList]
  rw [Array.getElem?_eq_getElem hj, Option.map_some, getElem!_pos d j hj]
  rfl
/-- .. and back, cut to its first k. -/
theorem OwnT.put {α : Type} [Inhabited α] (f : α → TV) {w : World} {base blk n cap : Nat} {ts : List TV} (h : OwnT w base (.slice (some ⟨blk, 0, none⟩) n cap) ts) (hb : blk < w.heap.size) (q : Nat) (d : Array α) (os : Array Obj) (hd : d.size = n) (k : Nat) (hk : k ≤ n) :
    OwnT (grow (putRow (fun x => (f x).val) (Sort.ahead w q) blk 0 d) os) base (.slice (some ⟨blk, 0, none⟩) k cap) ((d.toList.map f).take k) := by
  obtain ⟨hn, hle, hm, hbase, cur, hh, hs, ht⟩ := h.row
  have hlen : ((d.toList.map f).take k).length = k := by simp; omega
  unfold OwnT
  rw [hlen]
  refine ⟨by rw [vals_len, hlen, Nat.mul_one], .inr ⟨blk, cap, putCells (fun x => (f x).val) 0 d cur, rfl, hbase, ?_, by omega, hm, by rw [Nat.mul_one]; simp [putCells, hs], ?_⟩⟩
  · rw [heap_grow_old _ _ (by rw [size_putRow]; exact hb)]
    simp [putRow, mapBlock, Array.getElem?_modify, onCells, Sort.ahead, hh]
  · rw [Nat.mul_one]
    apply List.ext_getElem?
    intro j
    simp only [vals, List.getElem?_map, List.getElem?_take, Array.getElem?_toList]
    by_cases hj : j < k
    · rw [if_pos hj, if_pos hj]
      have hjd : j < d.size := by omega
      have hjc : j < cur.size := by omega
      simp only [putCells, Array.getElem?_mapIdx]
      rw [Array.getElem?_eq_getElem hjc, Option.map_some, if_pos ⟨by omega, by omega⟩, Nat.sub_zero, getElem!_pos d j hjd]
      rw [Array.getElem?_eq_getElem hjd]
      rfl
    · rw [if_neg hj, if_neg hj]; rfl
/-- The order is a weak one. -/
theorem swo_cmp {α : Type} (f : α → Tu) : SWO (ltOf fun x y : α => cmpI (f x) (f y)) where
  irrefl x := decide_eq_false (by show ¬ cmpI (f x) (f x) < 0; rw [cmpI_refl]; omega)
  trans x y z h k := by simp only [ltOf] at *; rw [decide_eq_true_eq] at *; exact cmpI_trans h k
  ntrans x y z h k := by
    simp only [ltOf] at *
    rw [decide_eq_false_iff_not] at *
    have h' : cmpI (f y) (f x) ≤ 0 := by rw [cmpI_swap]; omega
    have k' : cmpI (f z) (f y) ≤ 0 := by rw [cmpI_swap]; omega
    have := cmpI_le k' h'
    rw [cmpI_swap] at this
    omega
/-- A list that doesn't fall. -/
def UpL (ts : List TV) : Prop := ts.Pairwise fun a b => cmpI a.l b.l ≤ 0
theorem enter20 : ∀ args w, (callFunc 36 args).run Try.prog w = .ok (.enter 36 args) w := enters_of Try.func36 (by kernel_rfl) rfl
/-- slices.SortFunc of a row of tuples, by Cmp. -/
theorem sort_any (w : World) (base blk cap : Nat) (ts : List TV) (h : OwnT w base (.slice (some ⟨blk, 0, none⟩) ts.length cap) ts) (hb : blk < w.heap.size) (hok : ∀ t ∈ ts, t.Ok w ∧ ∀ a, t.A = some a → a.block ≠ blk) (hsm : ts.length ≤ 5000) :
    Calls Try.prog 60 #[.slice (some ⟨blk, 0, none⟩) ts.length cap, .func (.func 36) #[] #[]] w fun e w' =>
      e = .returned (.tuple #[]) ∧ ∃ us, us.Perm ts ∧ UpL us ∧ OwnT w' base (.slice (some ⟨blk, 0, none⟩) us.length cap) us ∧ Fr w w' [blk] := by
  let α := {t : TV // t.Ok w ∧ ∀ a, t.A = some a → a.block ≠ blk}
  letI : Inhabited α := ⟨⟨⟨none, [], 0⟩, ⟨Rd.emp _ _ _, Nat.le_refl _, by simp⟩, fun a ha => nomatch ha⟩⟩
  let d : Array α := (ts.attach.map fun t => (⟨t.1, hok t.1 t.2⟩ : α)).toArray
  have hd : d.toList.map Subtype.val = ts := by simp [d, Function.comp_def]
  have hds : d.size = ts.length := by simp [d]
  have hH := h.holds (α := α) Subtype.val d hd
  have hcmp : CmpReads Try.prog 36 #[] (fun x : α => x.1.val) (fun x y => cmpI x.1.l y.1.l) blk 0 d.size w := by
    intro m os dk _ x y
    have hf := fr_put (fun x : α => x.1.val) w blk 0 m dk os
    refine (cmpT_any x.1 y.1 _ (x.2.1.frS hf fun a ha hm => x.2.2 a ha (List.mem_singleton.1 hm)) (y.2.1.frS hf fun a ha hm => y.2.2 a ha (List.mem_singleton.1 hm))).mono ?_
    rintro e w' ⟨rfl, rfl⟩
    exact ⟨rfl, 0, rfl⟩
  have hc := Any.slices_SortFunc Try.sortT (fun x : α => x.1.val) (fun _ => rfl) (fun x y => cmpI x.1.l y.1.l) (swo_cmp fun x : α => x.1.l) 36 #[] blk 0 cap d w enter20 hcmp.lays hH hb (by omega)
  rw [hds] at hc
  refine hc.mono ?_
  rintro e w' ⟨rfl, d', n, os, ⟨hsz, _, hp⟩, hso, rfl⟩
  have hall : ∀ x : Array α, x.size = ts.length → (x.extract 0 ts.length).toList = x.toList := by
    intro x hx
    rw [← hx]
    simp
  rw [hall d' (by omega), hall d hds] at hp
  have hl : (d'.toList.map Subtype.val).length = ts.length := by simp; omega
  refine ⟨rfl, d'.toList.map Subtype.val, hd ▸ hp.map _, ?_, ?_, fr_put _ _ _ _ _ _ _⟩
  · unfold UpL
    rw [List.pairwise_iff_getElem]
    intro i j hi hj hij
    rw [hl] at hi hj
    have := hso i j (Nat.zero_le _) hij hj
    rw [getElem!_pos d' i (by omega), getElem!_pos d' j (by omega)] at this
    simp only [ltOf] at this
    rw [decide_eq_false_iff_not] at this
    simp only [List.getElem_map, Array.getElem_toList]
    rw [cmpI_swap]
    omega
  · have hq := h.put (α := α) Subtype.val hb n d' os (by omega) ts.length (Nat.le_refl _)
    rw [List.take_of_length_le (Nat.le_of_eq hl)] at hq
    rw [hl]
    exact hq
/-- .. of no tuple. -/
theorem sort_none (w : World) (A : Option Addr) (cap : Nat) : Calls Try.prog 60 #[.slice A 0 cap, .func (.func 36) #[] #[]] w fun e w' => e = .returned (.tuple #[]) ∧ w' = w :=
  AnyF.slices_SortFunc_none (P := Try.prog) (ρ := Try.sortT_ren) { Try.sortT with } A cap _ w
end Go.Proofs.Ytgldcahhliokeaa
/- TupX, what this seat can fill of it. -/
namespace Go.Proofs.Ytgldcahhliokeaa
/- Of neighbours that are the same one stays, plainly: a row's places that are kept; what a sorted row keeps is its set. -/
open Go.RowKit Go.Maps Go.Shelf Go.Sort Go.Lib

/-- A place is kept: the first, or one that reads otherwise than the one ahead of it. -/
def kp (d : Array TV) (j : Nat) : Bool := decide (j = 0 ∨ d[j]!.l ≠ d[j - 1]!.l)
/-- Of the first m places those that are kept. -/
def cpN (d : Array TV) (m : Nat) : List TV := ((List.range m).filter (kp d)).map (d[·]!)
theorem kp_one (d : Array TV) (j : Nat) (h : j < 1) : kp d j = true := decide_eq_true (.inl (by omega))
theorem kp_pos {d : Array TV} {m : Nat} (h : cmpI d[m]!.l d[m - 1]!.l ≠ 0) : kp d m = true := decide_eq_true (.inr fun e => h (cmpI_zero.2 e))
theorem kp_neg {d : Array TV} {m : Nat} (hm : 0 < m) (h : cmpI d[m]!.l d[m - 1]!.l = 0) : kp d m = false := decide_eq_false fun e => e.elim (by omega) fun k => k (cmpI_eq h)
theorem cpN_succ (d : Array TV) (m : Nat) : cpN d (m + 1) = cpN d m ++ if kp d m = true then [d[m]!] else [] := by
  unfold cpN
  rw [List.range_succ, List.filter_append, List.map_append]
  congr 1
  by_cases h : kp d m = true
  · rw [if_pos h, List.filter_cons_of_pos h]; rfl
  · rw [if_neg h, List.filter_cons_of_neg h]; rfl
theorem cpN_all (d : Array TV) (m : Nat) (h : ∀ j, j < m → kp d j = true) : cpN d m = (List.range m).map (d[·]!) := by
  unfold cpN
  rw [List.filter_eq_self.2 fun j hj => h j (List.mem_range.1 hj)]
theorem cpN_sub (d : Array TV) : (cpN d d.size).Sublist d.toList := by
  rw [← range_map_get d]
  exact List.filter_sublist.map _
/-- The second loop: m places looked at, k kept and laid at the row's head, from place k on the row as it was. -/
structure CpI (d : Array TV) (m k : Nat) (dk : Array TV) : Prop where
  size : dk.size = d.size
  len : (cpN d m).length = k
  lt : k < m
  low : ∀ j, j < k → (cpN d m)[j]? = some dk[j]!
  high : ∀ j, k ≤ j → dk[j]! = d[j]!
theorem CpI.start {d : Array TV} {k0 : Nat} (hall : ∀ j, j < k0 → kp d j = true) (hdup : kp d k0 = false) : CpI d (k0 + 1) k0 d := by
  have e : cpN d (k0 + 1) = (List.range k0).map (d[·]!) := by rw [cpN_succ, hdup, cpN_all d k0 hall]; simp
  refine ⟨rfl, by rw [e]; simp, Nat.lt_succ_self _, fun j hj => by rw [e]; simp [hj], fun _ _ => rfl⟩
theorem CpI.skip {d dk : Array TV} {m k : Nat} (h : CpI d m k dk) (hk : kp d m = false) : CpI d (m + 1) k dk := by
  have e : cpN d (m + 1) = cpN d m := by rw [cpN_succ, hk]; simp
  exact ⟨h.size, by rw [e]; exact h.len, by have := h.lt; omega, fun j hj => by rw [e]; exact h.low j hj, h.high⟩
theorem CpI.keep {d dk : Array TV} {m k : Nat} (h : CpI d m k dk) (hm : m < d.size) (hk : kp d m = true) : CpI d (m + 1) (k + 1) (dk.setIfInBounds k d[m]!) := by
  have e : cpN d (m + 1) = cpN d m ++ [d[m]!] := by rw [cpN_succ, if_pos hk]
  have hkd : k < dk.size := by have := h.lt; have := h.size; omega
  refine ⟨by rw [Array.size_setIfInBounds]; exact h.size, by rw [e, List.length_append, h.len]; rfl, by have := h.lt; omega, fun j hj => ?_, fun j hj => ?_⟩
  · rw [e]
    by_cases hj0 : j = k
    · subst hj0
      rw [List.getElem?_append_right (Nat.le_of_eq h.len), h.len, Nat.sub_self, getElem!_set_same dk j _ hkd]
      rfl
    · rw [List.getElem?_append_left (by rw [h.len]; omega), h.low j (by omega), getElem!_set_other dk k j _ hj0]
  · rw [getElem!_set_other dk k j _ (by omega)]; exact h.high j (by omega)
/-- What is laid from place k on leaves the places ahead of it. -/
theorem lay_low (xs : List TV) : ∀ (d : Array TV) (k j : Nat), j < k → (lay d k xs)[j]! = d[j]! := by
  induction xs with
  | nil => intro d k j _; rfl
  | cons x r ih =>
    intro d k j hj
    show (lay (d.setIfInBounds k x) (k + 1) r)[j]! = _
    rw [ih _ _ _ (by omega), getElem!_set_other d k j x (by omega)]
theorem lay_size (xs : List TV) : ∀ (d : Array TV) (k : Nat), (lay d k xs).size = d.size := by
  induction xs with
  | nil => intro d k; rfl
  | cons x r ih =>
    intro d k
    show (lay (d.setIfInBounds k x) (k + 1) r).size = _
    rw [ih, Array.size_setIfInBounds]
/-- What a row that doesn't fall keeps, rises. -/
theorem cpN_ris (d : Array TV) (hu : UpL d.toList) : ∀ m, m ≤ d.size → Ris (tus (cpN d m)) ∧ (∀ q, q ∈ cpN d m → ∃ j, j < m ∧ q = d[j]!) ∧ ∀ j, j < m → ∃ q, q ∈ cpN d m ∧ q.l = d[j]!.l
  | 0, _ => ⟨.nil, fun q hq => (nomatch hq), fun j hj => by omega⟩
  | m + 1, hm => by
    obtain ⟨h1, h2, h3⟩ := cpN_ris d hu m (by omega)
    rw [cpN_succ]
    have hup : ∀ i j, i < j → j < d.size → cmpI d[i]!.l d[j]!.l ≤ 0 := fun i j hij hj => by
      have := (List.pairwise_iff_getElem.1 hu) i j (by simp; omega) (by simpa using hj) hij
      simp only [Array.getElem_toList] at this
      rw [getElem!_pos d i (by omega), getElem!_pos d j hj]
      exact this
    by_cases hk : kp d m = true
    · rw [if_pos hk]
      refine ⟨?_, fun q hq => ?_, fun j hj => ?_⟩
      · rw [tus_app]
        unfold Ris
        rw [List.pairwise_append]
        refine ⟨h1, List.pairwise_singleton _ _, fun a ha b hb => ?_⟩
        obtain ⟨t, ht, rfl⟩ := List.mem_map.1 ha
        have hb' : b = d[m]!.l := List.mem_singleton.1 hb
        subst hb'
        obtain ⟨j, hj, rfl⟩ := h2 t ht
        have hne : d[m]!.l ≠ d[m - 1]!.l := (of_decide_eq_true hk).resolve_left (by omega)
        have hlt : cmpI d[m - 1]!.l d[m]!.l < 0 := by
          have hle := hup (m - 1) m (by omega) (by omega)
          have hnz : cmpI d[m - 1]!.l d[m]!.l ≠ 0 := fun e => hne (cmpI_eq e).symm
          omega
        by_cases hjm : j = m - 1
        · rw [hjm]; exact hlt
        · have hle := hup j (m - 1) (by omega) (by omega)
          by_cases h0 : cmpI d[j]!.l d[m - 1]!.l = 0
          · rw [cmpI_eq h0]; exact hlt
          · exact cmpI_trans (by omega) hlt
      · rcases List.mem_append.1 hq with hq | hq
        · obtain ⟨j, hj, e⟩ := h2 q hq
          exact ⟨j, by omega, e⟩
        · exact ⟨m, Nat.lt_succ_self _, List.mem_singleton.1 hq⟩
      · by_cases hjm : j = m
        · exact ⟨d[m]!, List.mem_append_right _ (List.mem_singleton.2 rfl), by rw [hjm]⟩
        · obtain ⟨q, hq, e⟩ := h3 j (by omega)
          exact ⟨q, List.mem_append_left _ hq, e⟩
    · rw [if_neg hk, List.append_nil]
      refine ⟨h1, fun q hq => ?_, fun j hj => ?_⟩
      · obtain ⟨j, hj, e⟩ := h2 q hq
        exact ⟨j, by omega, e⟩
      · by_cases hjm : j = m
        · have hkf : ¬ (m = 0 ∨ d[m]!.l ≠ d[m - 1]!.l) := fun h => hk (decide_eq_true h)
          have hm0 : m ≠ 0 := fun e => hkf (.inl e)
          have he : d[m]!.l = d[m - 1]!.l := Decidable.byContradiction fun h => hkf (.inr h)
          obtain ⟨q, hq, e⟩ := h3 (m - 1) (by omega)
          exact ⟨q, hq, by rw [hjm, he, e]⟩
        · exact h3 j (by omega)
/-- So it is the set of its tuples. -/
theorem cpN_set (d : Array TV) (hu : UpL d.toList) (L : List Tu) (hp : (tus d.toList).Perm L) : tus (cpN d d.size) = setL L := by
  obtain ⟨h1, h2, h3⟩ := cpN_ris d hu d.size (Nat.le_refl _)
  refine ris_ext h1 (ris_set L) fun q => ?_
  rw [mem_set, ← hp.mem_iff]
  constructor
  · intro hq
    obtain ⟨t, ht, rfl⟩ := List.mem_map.1 hq
    exact mem_tus ((cpN_sub d).subset ht)
  · intro hq
    obtain ⟨t, ht, rfl⟩ := List.mem_map.1 hq
    obtain ⟨i, hi, rfl⟩ := List.getElem_of_mem ht
    have hi' : i < d.size := by simpa using hi
    obtain ⟨q, hq, e⟩ := h3 i hi'
    rw [Array.getElem_toList, ← getElem!_pos d i hi', ← e]
    exact mem_tus hq
end Go.Proofs.Ytgldcahhliokeaa
/- TupY, what this seat can fill of it. -/
namespace Go.Proofs.Ytgldcahhliokeaa
/- slices.CompactFunc(out, same), of a row of tuples. -/
open Go.RowKit Go.Maps Go.Shelf Go.Sort Go.Lib

theorem below_one (d : Array TV) {m : Nat} (h : ∀ j, j < m → kp d j = true) (hk : kp d m = true) : ∀ j, j < m + 1 → kp d j = true := fun j hj => by
  by_cases e : j = m
  · rw [e]; exact hk
  · exact h j (by omega)
/-- A store into the row. -/
theorem put_one {w wr : World} {q blk off : Nat} {dk : Array TV} {i : Nat} (hi : i < dk.size) (h : wr = putRow TV.val (Sort.ahead w q) blk off dk) (x : TV) (n : Nat) :
    (wr.drewN n).setCell ⟨blk, off + i, none⟩ (.slice x.A x.l.length x.c) = putRow TV.val (Sort.ahead w (q + n)) blk off (dk.setIfInBounds i x) := by
  subst h
  rw [← putRow_set TV.val _ blk off dk i x hi, Go.Proofs.putRow_drewN]
  rfl
set_option maxRecDepth 100000 in
set_option maxHeartbeats 4000000 in
/-- slices.CompactFunc: it answers the row cut to what is kept. -/
theorem compact_core (w : World) (blk off cap : Nat) (d : Array TV) (hH : Holds TV.val w blk off d) (hok : ∀ j, j < d.size → TV.Ok w d[j]! ∧ ∀ a, d[j]!.A = some a → a.block ≠ blk) (hsz : d.size ≤ 5000) (hcap : d.size ≤ cap) :
    Calls Try.prog 61 #[.slice (some ⟨blk, off, none⟩) d.size cap, .func (.func 62) #[] #[]] w fun e w' =>
      e = .returned (.slice (some ⟨blk, off, none⟩) (cpN d d.size).length cap) ∧ ∃ q dk, dk.size = d.size ∧ (∀ j, j < (cpN d d.size).length → (cpN d d.size)[j]? = some dk[j]!) ∧ w' = putRow TV.val (Sort.ahead w q) blk off dk := by
  have hput : ∀ q, w.drewN q = putRow TV.val (Sort.ahead w q) blk off d := fun q => (putRow_self TV.val (Sort.ahead w q) blk off d (holds_ahead TV.val w q blk off d hH)).symm
  have hend : ∀ q, (∀ j, j < d.size → kp d j = true) → (cpN d d.size).length = d.size ∧ ∃ q' dk, dk.size = d.size ∧ (∀ j, j < (cpN d d.size).length → (cpN d d.size)[j]? = some dk[j]!) ∧ w.drewN q = putRow TV.val (Sort.ahead w q') blk off dk := by
    intro q hall
    have e : cpN d d.size = d.toList := by rw [cpN_all d _ hall, range_map_get]
    rw [e]
    refine ⟨by simp, q, d, rfl, fun j hj => ?_, hput q⟩
    have hj' : j < d.size := by simpa using hj
    rw [getElem!_pos d j hj']
    simp [hj']
  have hfr : ∀ q dk, Fr w (putRow TV.val (Sort.ahead w q) blk off dk) [blk] := fun q dk => by
    have := fr_put TV.val w blk off q dk #[]
    rwa [grow_empty] at this
  have hokr : ∀ q dk j, j < d.size → TV.Ok (putRow TV.val (Sort.ahead w q) blk off dk) d[j]! := fun q dk j hj => (hok j hj).1.frS (hfr q dk) fun a ha hm => (hok j hj).2 a ha (List.mem_singleton.1 hm)
  have HE := Lib.hid hend
  have HO := Lib.hid hokr
  have HP := Lib.hid hput
  have HH := Lib.hid hH
  clear hend hokr hfr hok hput hH
  by_cases h2 : d.size < 2
  · go_enter Try.func61, Try.ntmps61
    go_wp2_with (fail)
    go_ret
    obtain ⟨e1, e2⟩ := HE.out 0 (fun j hj => kp_one d j (by omega))
    exact ⟨by rw [e1]; rfl, e2⟩
  · go_enter Try.func61, Try.ntmps61
    go_wp2_with (fail)
    go_loopg [5] d.size (fun g s5 wr => ∃ k : Nat, 1 ≤ k ∧ k ≤ d.size ∧ d.size - k ≤ g ∧ s5 = .int .i64 k ∧ Hid ((∃ q, wr = w.drewN q) ∧ ∀ j, j < k → kp d j = true))
    case atStart => exact ⟨1, Nat.le_refl _, by omega, by omega, rfl, Lib.hid ⟨⟨0, rfl⟩, kp_one d⟩⟩
    case round =>
      obtain ⟨k, hk1, hk, hg, rfl, HR⟩ := hrel
      by_cases hlt : k < d.size
      · obtain ⟨p, rfl⟩ : ∃ p, k = p + 1 := ⟨k - 1, by omega⟩
        obtain ⟨⟨q, hw⟩, hall⟩ := HR.out
        have c1 : wr.cell? ⟨blk, off + (p + 1), none⟩ = some (.slice d[p + 1]!.A d[p + 1]!.l.length d[p + 1]!.c) := by rw [hw]; exact (HH.out (p + 1) hlt).1
        have c0 : wr.cell? ⟨blk, off + p, none⟩ = some (.slice d[p]!.A d[p]!.l.length d[p]!.c) := by rw [hw]; exact (HH.out p (by omega)).1
        have hcall := fun n => sameT_any d[p + 1]! d[p]! (wr.drewN n) (by rw [hw, World.drewN_drewN, HP.out]; exact HO.out _ d (p + 1) hlt) (by rw [hw, World.drewN_drewN, HP.out]; exact HO.out _ d p (by omega))
        have HQ := Lib.hid (And.intro hw hall)
        have KP := Lib.hid (And.intro (kp_pos (d := d) (m := p + 1)) (kp_neg (d := d) (m := p + 1) hk1))
        clear hw hall HR
        rw [show p + 1 - 1 = p from rfl] at KP
        generalize d[p + 1]! = x at c1 hcall KP
        generalize d[p]! = y at c0 hcall KP
        have g0 : ((p + 1 : Nat) : Int) < (d.size : Int) := by omega
        have g1 : (0 : Int) ≤ (p : Int) := by omega
        have hw1 : IntKind.i64.wrap ((p : Int) + 1 - 1) = (p : Int) := by rw [IntWalk.i64_in _ (by omega)]; omega
        have hw2 : IntKind.i64.wrap (((p + 1 : Nat) : Int) - 1) = (p : Int) := by rw [IntWalk.i64_in _ (by omega)]; omega
        have hw3 : IntKind.i64.wrap (p : Int) = (p : Int) := IntWalk.i64_in _ (by omega)
        have g2 : (p : Int) < (d.size : Int) := by omega
        have g3 : (p : Int) + 1 < (d.size : Int) := by omega
        have g4 : (0 : Int) ≤ (p : Int) + 1 := by omega
        have g5 : ((p : Int) + 1).toNat = p + 1 := by omega
        by_cases hdup : cmpI x.l y.l = 0
        · have HCC : Hid (∀ n, Calls Try.prog 62 #[.slice x.A x.l.length x.c, .slice y.A y.l.length y.c] (wr.drewN n) fun e w' => e = .returned (.bool true) ∧ w' = wr.drewN n) := Lib.hid fun n => (hcall n).mono fun e w' h => ⟨by rw [h.1, hdup]; rfl, h.2.symm⟩
          have hkp := KP.out.2 hdup
          have HC : Hid (CpI d (p + 1 + 1) (p + 1) d) := Lib.hid (CpI.start HQ.out.2 hkp)
          clear hdup hkp KP hcall
          go_wp2_with (fail)
          go_quiet ((go_at_call 62; with_reducible exact Calls.quiet_of_same (HCC.out _)))
          go_wp2_with (fail)
          clear c0 c1
          generalize ho2 : off + (p + 1) = o2
          generalize hn2 : d.size - (p + 1) = n2
          have HN := Lib.hid ho2
          clear ho2
          go_loopg [5, 7] d.size (fun g s5 s7 wr2 => ∃ kk r : Nat, s5 = .int .i64 kk ∧ s7 = .int .i64 ((r + 1 : Nat) : Int) ∧ r + 1 ≤ n2 ∧ n2 - r ≤ g ∧ kk < d.size ∧ Hid (∃ (q2 : Nat) (dk : Array TV), wr2 = putRow TV.val (Sort.ahead w q2) blk off dk ∧ CpI d (p + 1 + (r + 1)) kk dk))
          case atStart =>
            refine ⟨p + 1, 0, by go_num, by go_num, by omega, by omega, by omega, Lib.hid ?_⟩
            obtain ⟨⟨q, rfl⟩, _⟩ := HQ.out
            exact ⟨_, d, by rw [World.drewN_drewN]; exact HP.out _, HC.out⟩
          case round =>
            obtain ⟨kk, r, rfl, rfl, hr, hg2, hkd, HI⟩ := hrel
            by_cases hlt2 : r + 1 < n2
            · obtain ⟨q2, dk, hwr, hI⟩ := HI.out
              have hkm := hI.lt
              have hds := hI.size
              have hHk : Holds TV.val wr blk off dk := by rw [hwr]; exact holds_putRow TV.val _ blk off d dk (holds_ahead TV.val w q2 blk off d HH.out) hds
              have ho := HN.out
              have c1 : wr.cell? ⟨blk, o2 + (r + 1), none⟩ = some (.slice d[p + 1 + (r + 1)]!.A d[p + 1 + (r + 1)]!.l.length d[p + 1 + (r + 1)]!.c) := by
                have := (hHk (p + 1 + (r + 1)) (by omega)).1
                rw [hI.high _ (by omega), show off + (p + 1 + (r + 1)) = o2 + (r + 1) by omega] at this
                exact this
              have c0 : wr.cell? ⟨blk, o2 + r, none⟩ = some (.slice d[p + 1 + r]!.A d[p + 1 + r]!.l.length d[p + 1 + r]!.c) := by
                have := (hHk (p + 1 + r) (by omega)).1
                rw [hI.high _ (by omega), show off + (p + 1 + r) = o2 + r by omega] at this
                exact this
              obtain ⟨ck, fk⟩ := hHk kk (by omega)
              have hcall := fun n => sameT_any d[p + 1 + (r + 1)]! d[p + 1 + r]! (wr.drewN n) (by rw [hwr, Go.Proofs.putRow_drewN]; exact HO.out _ _ _ (by omega)) (by rw [hwr, Go.Proofs.putRow_drewN]; exact HO.out _ _ _ (by omega))
              have KP := Lib.hid (And.intro (kp_pos (d := d) (m := p + 1 + (r + 1))) (And.intro (kp_neg (d := d) (m := p + 1 + (r + 1)) (by omega)) hI.keep))
              have HW := Lib.hid (And.intro hwr hI)
              clear hwr hI HI hHk ho
              rw [show p + 1 + (r + 1) - 1 = p + 1 + r from rfl] at KP
              generalize d[p + 1 + (r + 1)]! = x at c1 hcall KP
              generalize d[p + 1 + r]! = y at c0 hcall KP
              generalize TV.val dk[kk]! = old at ck
              have g0 : ((r + 1 : Nat) : Int) < (n2 : Int) := by omega
              have g1 : (0 : Int) ≤ (r : Int) := by omega
              have hw1 : IntKind.i64.wrap ((r : Int) + 1 - 1) = (r : Int) := by rw [IntWalk.i64_in _ (by omega)]; omega
              have hw2 : IntKind.i64.wrap (((r + 1 : Nat) : Int) - 1) = (r : Int) := by rw [IntWalk.i64_in _ (by omega)]; omega
              have hw3 : IntKind.i64.wrap (r : Int) = (r : Int) := IntWalk.i64_in _ (by omega)
              have g2 : (r : Int) < (n2 : Int) := by omega
              have g3 : (r : Int) + 1 < (n2 : Int) := by omega
              have g4 : (0 : Int) ≤ (r : Int) + 1 := by omega
              have g5 : ((r : Int) + 1).toNat = r + 1 := by omega
              by_cases hdup : cmpI x.l y.l = 0
              · have HCC : Hid (∀ n, Calls Try.prog 62 #[.slice x.A x.l.length x.c, .slice y.A y.l.length y.c] (wr.drewN n) fun e w' => e = .returned (.bool true) ∧ w' = wr.drewN n) := Lib.hid fun n => (hcall n).mono fun e w' h => ⟨by rw [h.1, hdup]; rfl, h.2.symm⟩
                have HK := Lib.hid (KP.out.2.1 hdup)
                clear hdup KP hcall ck fk
                go_wp2_with (fail)
                go_quiet ((go_at_call 62; with_reducible exact Calls.quiet_of_same (HCC.out _)))
                go_wp2_with (fail)
                go_roundg (n2 - (r + 1))
                case measure => omega
                case rel =>
                  obtain ⟨rfl, hI⟩ := HW.out
                  exact ⟨kk, r + 1, rfl, by go_num, by omega, Nat.le_refl _, hkd, Lib.hid ⟨_, dk, Go.Proofs.putRow_drewN _ _ _ _ _ _ _, hI.skip HK.out⟩⟩
              · have HCC : Hid (∀ n, Calls Try.prog 62 #[.slice x.A x.l.length x.c, .slice y.A y.l.length y.c] (wr.drewN n) fun e w' => e = .returned (.bool false) ∧ w' = wr.drewN n) := Lib.hid fun n => (hcall n).mono fun e w' h => ⟨by rw [h.1, decide_eq_false hdup], h.2.symm⟩
                have HK := Lib.hid (KP.out.2.2 (by omega) (KP.out.1 hdup))
                clear hdup KP hcall
                go_wp2_with (fail)
                go_quiet ((go_at_call 62; with_reducible exact Calls.quiet_of_same (HCC.out _)))
                go_wp2_with (fail)
                go_roundg (n2 - (r + 1))
                case measure => omega
                case rel =>
                  obtain ⟨hwr, hI⟩ := HW.out
                  exact ⟨kk + 1, r + 1, by go_num, by go_num, by omega, Nat.le_refl _, by omega, Lib.hid ⟨_, _, put_one (by omega) hwr x _, HK.out⟩⟩
            · obtain ⟨q2, dk, hwr, hI⟩ := HI.out
              have hme : p + 1 + (r + 1) = d.size := by omega
              rw [hme] at hI
              have hds := hI.size
              have hHk : Holds TV.val wr blk off dk := by rw [hwr]; exact holds_putRow TV.val _ blk off d dk (holds_ahead TV.val w q2 blk off d HH.out) hds
              have hcl : ∀ ty, (Builtin.clear_ #[30] ty #[.slice (some ⟨blk, off + kk, none⟩) (d.size - kk) (cap - kk)]).run Try.prog wr = .ok (.tuple #[]) (wr.setCells blk (off + kk) (List.replicate (d.size - kk) (.slice none 0 0))) :=
                fun ty => Lib.run_clear_slice wr _ _ ty _ Try.underlying30 Try.zeroValue43 rfl rfl blk (off + kk) _ _ (by omega) (fun j hj => by rw [show off + kk + j = off + (kk + j) by omega, (hHk (kk + j) (by omega)).1]; rfl) (fun j hj => by rw [show off + kk + j = off + (kk + j) by omega]; exact (hHk (kk + j) (by omega)).2)
              have HL := Lib.hid (And.intro hwr hI)
              clear hwr hI hHk HI
              go_wp2_with (fail)
              go_ret
              obtain ⟨hwr, hI⟩ := HL.out
              have hlen := hI.len
              refine ⟨by rw [hlen]; rfl, q2, lay dk kk (List.replicate (d.size - kk) ⟨none, [], 0⟩), by rw [lay_size]; exact hI.size, fun j hj => ?_, ?_⟩
              · rw [lay_low _ _ _ _ (by omega)]; exact hI.low j (by omega)
              · rw [hwr, ← putRow_setCells TV.val _ blk off _ dk kk (by simp; omega), List.map_replicate]; rfl
        · have HCC : Hid (∀ n, Calls Try.prog 62 #[.slice x.A x.l.length x.c, .slice y.A y.l.length y.c] (wr.drewN n) fun e w' => e = .returned (.bool false) ∧ w' = wr.drewN n) := Lib.hid fun n => (hcall n).mono fun e w' h => ⟨by rw [h.1, decide_eq_false hdup], h.2.symm⟩
          have hkp := KP.out.1 hdup
          have HK := Lib.hid hkp
          clear hdup hkp KP hcall
          go_wp2_with (fail)
          go_quiet ((go_at_call 62; with_reducible exact Calls.quiet_of_same (HCC.out _)))
          go_wp2_with (fail)
          go_roundg (d.size - (p + 2))
          case measure => omega
          case rel =>
            obtain ⟨⟨q, rfl⟩, hall⟩ := HQ.out
            exact ⟨p + 2, by omega, by omega, Nat.le_refl _, by go_num, Lib.hid ⟨⟨_, World.drewN_drewN _ _ _⟩, below_one d hall HK.out⟩⟩
      · have hke : k = d.size := by omega
        subst hke
        go_wp2_with (fail)
        go_ret
        obtain ⟨⟨q, rfl⟩, hall⟩ := HR.out
        obtain ⟨e1, e2⟩ := HE.out q hall
        exact ⟨by rw [e1]; rfl, e2⟩
end Go.Proofs.Ytgldcahhliokeaa
/- TupZ, what this seat can fill of it. -/
namespace Go.Proofs.Ytgldcahhliokeaa
/- tuple.Set: copied, sorted, of the same one kept. -/
open Go.RowKit Go.Maps Go.Shelf Go.Sort Go.Lib

/-- A row of the call's own has a block, or no tuple. -/
theorem OwnL.blk {w : World} {base : Nat} {y : LV} (h : OwnL w base y.val y.ts) (hn : y.ts.length ≠ 0) : ∃ g, y.A = some ⟨g, 0, none⟩ ∧ base ≤ g ∧ g < w.heap.size ∧ ∀ t ∈ y.ts, ∀ a, t.A = some a → a.block ≠ g := by
  rcases h.row.2 with ⟨_, e⟩ | ⟨g, cap, cur, hv, hb, hh, _⟩
  · exact absurd e hn
  · unfold LV.val at hv
    injection hv with e1 _ _
    refine ⟨g, e1, hb, heap_lt hh, fun t ht a ha e => ?_⟩
    refine own_apart (h.tup t ht) h.row (by decide) a.block (by unfold TV.val; rw [ha]; simp [Value.ownBlock]) ?_
    unfold LV.val
    rw [e1, e]
    simp [Value.ownBlock]
theorem Fr.lower1 {w w' : World} {g base : Nat} (h : Fr w w' [g]) (hb : base ≤ g) (hw : base ≤ w.heap.size) : Below base w w' := h.below hw fun x hx => by rw [List.mem_singleton.1 hx]; exact hb
/-- A list of some of its tuples, in the row's block. -/
theorem OwnL.turned {w w' : World} {base g n c : Nat} {y : LV} {us : List TV} (h : OwnL w base y.val y.ts) (hf : Fr w w' [g]) (ho : ∀ t ∈ y.ts, ∀ a, t.A = some a → a.block ≠ g) (hu : OwnT w' base (.slice (some ⟨g, 0, none⟩) n c) us) (hs : ∃ zs, zs.Perm y.ts ∧ us.Sublist zs) :
    OwnL w' base (.slice (some ⟨g, 0, none⟩) n c) us := by
  obtain ⟨zs, hp, hsub⟩ := hs
  have hm : ∀ t, t ∈ us → t ∈ y.ts := fun t ht => hp.subset (hsub.subset ht)
  refine ⟨hu, fun t ht => (h.tup t (hm t ht)).fr hf fun a ha hx => ho t (hm t ht) a ha (List.mem_singleton.1 hx), fun t ht => h.sm t (hm t ht), ?_⟩
  exact ((hp.pairwise_iff Off.symm).2 h.off).sublist hsub
/-- slices.SortFunc(out, Cmp). -/
def SoPost (w : World) (base : Nat) (y : LV) (e : Ending) (w' : World) : Prop :=
  e = .returned (.tuple #[]) ∧ ∃ us, us.Perm y.ts ∧ UpL us ∧ OwnL w' base (.slice y.A y.ts.length y.c) us ∧ Below base w w'
theorem sort_l (w : World) (base : Nat) (y : LV) (h : OwnL w base y.val y.ts) (hk : y.Ok w) (hw : base ≤ w.heap.size) :
    Calls Try.prog 60 #[.slice y.A y.ts.length y.c, .func (.func 36) #[] #[]] w (SoPost w base y) := by
  by_cases hn : y.ts.length = 0
  · have h0 : y.ts = [] := List.eq_nil_of_length_eq_zero hn
    have hc := sort_none w y.A y.c
    rw [← hn] at hc
    refine hc.mono ?_
    rintro e w' ⟨rfl, rfl⟩
    refine ⟨rfl, y.ts, List.Perm.refl _, by rw [h0]; exact .nil, h, Below.refl _ _⟩
  · obtain ⟨g, hA, hb, hg, ho⟩ := h.blk hn
    have hr : OwnT w base (.slice (some ⟨g, 0, none⟩) y.ts.length y.c) y.ts := by rw [← hA]; exact h.row
    rw [hA]
    refine (sort_any w base g y.c y.ts hr hg (fun t ht => ⟨hk.ok t ht, ho t ht⟩) hk.sm).mono ?_
    rintro e w' ⟨rfl, us, hp, hu, hO, hf⟩
    refine ⟨rfl, us, hp, hu, ?_, hf.lower1 hb hw⟩
    rw [hA, ← hp.length_eq]
    exact h.turned hf ho hO ⟨us, hp, List.Sublist.refl _⟩
set_option maxRecDepth 100000 in
/-- slices.CompactFunc of no tuple. -/
theorem compact_none (w : World) (A : Option Addr) (cap : Nat) (fv : Value) : Calls Try.prog 61 #[.slice A 0 cap, fv] w fun e w' => e = .returned (.slice A 0 cap) ∧ w' = w := by
  go_enter Try.func61, Try.ntmps61
  go_wp2_with (fail)
  go_ret
  exact ⟨rfl, rfl⟩
/-- slices.CompactFunc(out, same), of a row that doesn't fall. -/
def CfPost (w : World) (base : Nat) (R : List Tu) (e : Ending) (w' : World) : Prop :=
  ∃ u : LV, e = .returned (.slice u.A u.ts.length u.c) ∧ OwnL w' base u.val u.ts ∧ u.Ok w' ∧ tus u.ts = R ∧ Below base w w'
theorem compact_l (w : World) (base : Nat) (y : LV) (h : OwnL w base y.val y.ts) (hk : y.Ok w) (hu : UpL y.ts) (hw : base ≤ w.heap.size) :
    Calls Try.prog 61 #[.slice y.A y.ts.length y.c, .func (.func 62) #[] #[]] w (CfPost w base (setL (tus y.ts))) := by
  by_cases hn : y.ts.length = 0
  · have h0 : y.ts = [] := List.eq_nil_of_length_eq_zero hn
    have hc := compact_none w y.A y.c (.func (.func 62) #[] #[])
    rw [← hn] at hc
    refine hc.mono ?_
    rintro e w' ⟨rfl, rfl⟩
    exact ⟨y, rfl, h, hk, by rw [h0]; rfl, Below.refl _ _⟩
  · obtain ⟨g, hA, hb, hg, ho⟩ := h.blk hn
    have hr : OwnT w base (.slice (some ⟨g, 0, none⟩) y.ts.length y.c) y.ts := by rw [← hA]; exact h.row
    have hds : y.ts.toArray.size = y.ts.length := by simp
    have hget : ∀ j, j < y.ts.toArray.size → y.ts.toArray[j]! ∈ y.ts := fun j hj => by rw [getElem!_pos _ j hj]; simp
    rw [hA]
    have hcore := compact_core w g 0 y.c y.ts.toArray (hr.holds id y.ts.toArray (by simp)) (fun j hj => ⟨hk.ok _ (hget j hj), ho _ (hget j hj)⟩) (by rw [hds]; exact hk.sm) (by rw [hds]; exact hk.cap)
    rw [hds] at hcore
    refine hcore.mono ?_
    rintro e w' ⟨rfl, q, dk, hdk, hlow, rfl⟩
    have hsub := cpN_sub y.ts.toArray
    rw [hds] at hsub
    have hset := cpN_set y.ts.toArray hu (tus y.ts) (List.Perm.refl _)
    rw [hds] at hset
    generalize cpN y.ts.toArray y.ts.length = R at *
    have hRl : R.length ≤ y.ts.length := hsub.length_le
    have hf : Fr w (putRow TV.val (Sort.ahead w q) g 0 dk) [g] := by
      have := fr_put TV.val w g 0 q dk #[]
      rwa [grow_empty] at this
    have hput := hr.put id hg q dk #[] (by rw [hdk]) R.length hRl
    rw [grow_empty, List.map_id] at hput
    have hR : dk.toList.take R.length = R := by
      apply List.ext_getElem?
      intro j
      rw [List.getElem?_take]
      by_cases hj : j < R.length
      · rw [if_pos hj, hlow j hj, Array.getElem?_toList, getElem!_pos dk j (by omega), Array.getElem?_eq_getElem (by omega)]
      · rw [if_neg hj, List.getElem?_eq_none (by omega)]
    rw [hR] at hput
    have hO := h.turned hf ho hput ⟨y.ts, List.Perm.refl _, hsub⟩
    exact ⟨⟨some ⟨g, 0, none⟩, R, y.c⟩, rfl, hO, OwnL.ok' (x := ⟨some ⟨g, 0, none⟩, R, y.c⟩) hO (Nat.le_trans hRl hk.sm) rfl, hset, hf.lower1 hb hw⟩
set_option maxRecDepth 100000 in
set_option maxHeartbeats 1000000 in
/-- tuple.Set. -/
theorem set_l (x : LV) (w : World) (hx : x.Ok w) : Calls Try.prog 33 #[.slice x.A x.ts.length x.c] w (CoL w (setL (tus x.ts))) := by
  have HC := Lib.hid (copied_l x w hx)
  clear hx
  go_enter Try.func33, Try.ntmps33
  go_wp2_with (first
    | (go_at_call 59; (with_reducible refine HC.out.mono ?_); rintro e w1 ⟨y, rfl, o1, k1, e1, b1⟩; have HS := Lib.hid (sort_l w1 w.heap.size y o1 k1 b1.size); have E1 := Lib.hid (And.intro k1 (And.intro e1 b1)); clear o1 k1 e1 b1 HC)
    | (go_at_call 60; (with_reducible refine HS.out.mono ?_); rintro e w2 ⟨rfl, us, p2, u2, o2, b2⟩; have q2 := p2.length_eq; rw [← q2] at o2; have s2 : us.length ≤ 5000 := (by have := E1.out.1.sm; omega); have HF : Hid (Calls Try.prog 61 #[.slice y.A y.ts.length y.c, .func (.func 62) #[] #[]] w2 (CfPost w2 w.heap.size (setL (tus us)))) := Lib.hid (by rw [← q2]; exact compact_l w2 w.heap.size ⟨y.A, us, y.c⟩ o2 (OwnL.ok' (x := ⟨y.A, us, y.c⟩) o2 s2 rfl) u2 (Nat.le_trans E1.out.2.2.size b2.size)))
    | (go_at_call 61; (with_reducible refine HF.out.mono ?_); rintro e w3 ⟨v, rfl, o3, k3, e3, b3⟩))
  go_ret
  refine ⟨v, rfl, o3, k3, ?_, E1.out.2.2.trans (b2.trans b3)⟩
  rw [e3, ← E1.out.2.1]
  exact ris_ext (ris_set _) (ris_set _) fun q => by rw [mem_set, mem_set]; exact (p2.map TV.l).mem_iff
end Go.Proofs.Ytgldcahhliokeaa
