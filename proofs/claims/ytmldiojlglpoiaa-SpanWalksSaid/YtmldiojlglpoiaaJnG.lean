/- Joined: SpM SpE SpN SpO SpP. -/
import Derived.Test.YtmldiojlglpoiaaJnF
import Derived.Test.YtmldiojlglpoiaaJnE
import Derived.Test.YtmldiojlglpoiaaShelfI
import Derived.Test.YtmldiojlglpoiaaJnA
import Derived.Test.YtmldiojlglpoiaaOrdM
import Derived.Test.YtmldiojlglpoiaaShelfM
import Derived.Laws.CopyOwn
/- Rows of numbers in memory: sorted and each once, looked up, appended to. -/
namespace Go.Proofs.Ytmldiojlglpoiaa
open Go.RowKit Go.Maps Go.Sort

theorem compact_ris (zs : List Int) (hs : zs.Pairwise (· ≤ ·)) : RisI (Lib.compact zs) ∧ ∀ q, q ∈ Lib.compact zs ↔ q ∈ zs := by
  have hp := List.pairwise_iff_getElem.1 hs
  have hat : ∀ j (h : j < zs.length), zs.toArray[j]! = zs[j] := fun j h => by rw [getElem!_pos zs.toArray j (by simpa using h)]; simp
  have key : ∀ m, m ≤ zs.length → RisI (Lib.compactUpTo zs.toArray m) ∧ (∀ q, q ∈ Lib.compactUpTo zs.toArray m ↔ q ∈ zs.take m) ∧ ∀ q ∈ zs.take m, ∀ j (hj : j < zs.length), m - 1 ≤ j → q ≤ zs[j] := by
    intro m
    induction m with
    | zero => exact fun _ => ⟨.nil, fun q => by simp [Lib.compactUpTo], fun q hq => by simp at hq⟩
    | succ m ih =>
      intro hm
      obtain ⟨h1, h2, h3⟩ := ih (by omega)
      have hml : m < zs.length := by omega
      have htk : zs.take (m + 1) = zs.take m ++ [zs[m]] := List.take_succ_eq_append_getElem hml
      have hle : ∀ q ∈ zs.take (m + 1), ∀ j (hj : j < zs.length), m ≤ j → q ≤ zs[j] := by
        intro q hq j hj hmj
        obtain ⟨i, hi, e⟩ := List.getElem_of_mem hq
        rw [List.length_take] at hi
        rw [List.getElem_take] at e
        rw [← e]
        by_cases hij : i = j
        · subst hij; exact Int.le_refl _
        · exact hp i j (by omega) hj (by omega)
      refine ⟨?_, ?_, fun q hq j hj hmj => hle q hq j hj (by omega)⟩
      · rw [Lib.compactUpTo_succ]
        by_cases hk : Lib.keeps zs.toArray m = true
        · rw [if_pos hk]
          refine List.pairwise_append.2 ⟨h1, List.pairwise_singleton _ _, fun a ha b hb => ?_⟩
          rw [List.mem_singleton.1 hb, hat m hml]
          have ha' := (h2 a).1 ha
          unfold Lib.keeps at hk
          have hk := of_decide_eq_true hk
          rcases hk with rfl | hk
          · simp at ha'
          · have h0 : m ≠ 0 := fun e => by subst e; simp at ha'
            rw [hat m hml, hat (m - 1) (by omega)] at hk
            have k1 := h3 a ha' (m - 1) (by omega) (Nat.le_refl _)
            have k2 := hp (m - 1) m (by omega) hml (by omega)
            omega
        · rw [if_neg hk, List.append_nil]; exact h1
      · intro q
        rw [Lib.compactUpTo_succ, htk, List.mem_append, List.mem_append, h2]
        by_cases hk : Lib.keeps zs.toArray m = true
        · rw [if_pos hk, hat m hml]
        · rw [if_neg hk]
          constructor
          · rintro (h | h)
            · exact .inl h
            · cases h
          · rintro (h | h)
            · exact .inl h
            · left
              rw [List.mem_singleton.1 h]
              unfold Lib.keeps at hk
              have hk : ¬ (m = 0 ∨ zs.toArray[m]! ≠ zs.toArray[m - 1]!) := fun h => hk (decide_eq_true h)
              have h0 : m ≠ 0 := fun e => hk (.inl e)
              have he : zs.toArray[m]! = zs.toArray[m - 1]! := by
                rcases Decidable.em (zs.toArray[m]! = zs.toArray[m - 1]!) with h | h
                · exact h
                · exact absurd (.inr h) hk
              rw [hat m hml, hat (m - 1) (by omega)] at he
              rw [he]
              exact List.mem_take_iff_getElem.2 ⟨m - 1, by omega, rfl⟩
  obtain ⟨h1, h2, _⟩ := key zs.length (Nat.le_refl _)
  rw [List.take_length] at h2
  exact ⟨h1, h2⟩
/-- A row of numbers as the library's contracts want it. -/
theorem OwnI.blk {w : World} {base : Nat} {t : TV} (h : OwnI w base t) (hn : t.l.length ≠ 0) : ∃ g cur, t.A = some ⟨g, 0, none⟩ ∧ base ≤ g ∧ g < w.heap.size ∧ t.l.length ≤ t.c ∧ t.c ≤ maxLen ∧ w.heap[g]? = some (.cells cur 3 (0, 0)) ∧ cur.size = t.c ∧ cur.toList.take t.l.length = intsV t.l := by
  unfold OwnI TV.val World.ownsRow at h
  obtain ⟨h1, h2⟩ := h
  rcases h2 with ⟨_, e⟩ | ⟨g, cap', cur, hv, hb, hh, hle, hm, hs, ht⟩
  · exact absurd e hn
  · injection hv with e1 e2 e3
    subst e3
    refine ⟨g, cur, e1, hb, heap_lt hh, hle, hm, hh, by omega, by rw [Nat.mul_one] at ht; exact ht⟩
theorem OwnI.holds {w : World} {base g : Nat} {t : TV} (h : OwnI w base t) (hA : t.A = some ⟨g, 0, none⟩) (hn : t.l.length ≠ 0) : Holds (Value.int .i64) w g 0 t.l.toArray := by
  obtain ⟨g', cur, e, _, _, hle, _, hh, hs, ht⟩ := h.blk hn
  rw [hA] at e
  injection e with e
  injection e with e _ _
  subst e
  intro j hj
  have hj' : j < t.l.length := by simpa using hj
  refine ⟨?_, frozen_of_row w g _ _ _ hh⟩
  rw [Nat.zero_add, cell_of_row w g j _ _ _ hh]
  have e : cur.toList[j]? = (cur.toList.take t.l.length)[j]? := by rw [List.getElem?_take, if_pos hj']
  rw [← Array.getElem?_toList, e, ht, intsV_at t.l j hj', getElem!_pos t.l.toArray j hj]
  simp
/-- .. and back, cut to its first k. -/
theorem OwnI.put {w : World} {base g : Nat} {t : TV} (h : OwnI w base t) (hA : t.A = some ⟨g, 0, none⟩) (hn : t.l.length ≠ 0) (q : Nat) (d : List Int) (os : Array Obj) (hd : d.length = t.l.length) (k : Nat) (hk : k ≤ d.length) :
    OwnI (grow (putRow (Value.int .i64) (Sort.ahead w q) g 0 d.toArray) os) base ⟨t.A, d.take k, t.c⟩ := by
  obtain ⟨g', cur, e, hbase, hb, hle, hm, hh, hs, ht⟩ := h.blk hn
  rw [hA] at e
  injection e with e
  injection e with e _ _
  subst e
  have hlen : (d.take k).length = k := by simp; omega
  unfold OwnI TV.val
  rw [hA]
  dsimp only
  rw [hlen]
  refine ⟨by rw [intsV_len, hlen, Nat.mul_one], .inr ⟨g, t.c, putCells (Value.int .i64) 0 d.toArray cur, rfl, hbase, ?_, by omega, hm, by rw [Nat.mul_one]; simp [putCells, hs], ?_⟩⟩
  · rw [heap_grow_old _ _ (by rw [size_putRow]; exact hb)]
    simp [putRow, mapBlock, Array.getElem?_modify, onCells, Sort.ahead, hh]
  · rw [Nat.mul_one]
    apply List.ext_getElem?
    intro j
    simp only [intsV, List.getElem?_map, List.getElem?_take, Array.getElem?_toList]
    by_cases hj : j < k
    · rw [if_pos hj, if_pos hj]
      have hjd : j < d.length := by omega
      have hjc : j < cur.size := by omega
      simp only [putCells, Array.getElem?_mapIdx]
      rw [Array.getElem?_eq_getElem hjc, Option.map_some, if_pos ⟨by omega, by simp; omega⟩, Nat.sub_zero, getElem!_pos d.toArray j (by simpa using hjd)]
      rw [List.getElem?_eq_getElem hjd]
      simp
    · rw [if_neg hj, if_neg hj]; rfl
theorem fr_putI (w : World) (g n : Nat) (d : Array Int) (os : Array Obj) : Fr w (grow (putRow (Value.int .i64) (Sort.ahead w n) g 0 d) os) [g] := by
  refine ⟨rfl, rfl, rfl, ?_, fun k hk hs => ?_⟩
  · rw [size_grow, size_putRow]; exact Nat.le_add_right _ _
  · rw [heap_grow_old _ _ (by rw [size_putRow]; exact hk)]
    have hne : g ≠ k := fun e => hs (by rw [e]; exact List.mem_singleton.2 rfl)
    simp [putRow, mapBlock, Array.getElem?_modify, hne, Sort.ahead]
theorem ownBlock_at {t : TV} {g : Nat} (hA : t.A = some ⟨g, 0, none⟩) : t.val.ownBlock.toList = [g] := by unfold TV.val; rw [hA]; rfl
theorem sortI_any (w : World) (base : Nat) (t : TV) (h : OwnI w base t) (hs : t.l.length ≤ 5000) :
    Calls Try.prog 87 #[.slice t.A t.l.length t.c] w fun e w' => e = .returned (.tuple #[]) ∧ ∃ m : List Int, m.Perm t.l ∧ m.Pairwise (· ≤ ·) ∧ OwnI w' base ⟨t.A, m, t.c⟩ ∧ Fr w w' t.val.ownBlock.toList := by
  by_cases hn : t.l.length = 0
  · have h0 : t.l = [] := List.length_eq_zero_iff.1 hn
    have hc := Any.slices_Sort_int_none (P := Try.prog) Try.laysSortI t.A t.c w
    rw [hn]
    refine hc.mono ?_
    rintro e w' ⟨rfl, rfl⟩
    refine ⟨rfl, t.l, List.Perm.refl _, by rw [h0]; exact .nil, h, Fr.refl _ _⟩
  · obtain ⟨g, cur, hA, _, hb, _⟩ := h.blk hn
    have hc := Any.slices_Sort_int (P := Try.prog) Try.laysSortI g 0 t.c t.l w (h.holds hA hn) hb (by omega)
    rw [hA]
    refine hc.mono ?_
    rintro e w' ⟨rfl, n, os, rfl⟩
    have hperm := List.mergeSort_perm t.l (fun x y => decide (x ≤ y))
    have hsort := List.pairwise_mergeSort (le := fun x y : Int => decide (x ≤ y)) (fun a b c h1 h2 => by simp at h1 h2 ⊢; omega) (fun a b => by simp; omega) t.l
    generalize t.l.mergeSort (fun x y => decide (x ≤ y)) = m at hperm hsort
    have hput := h.put hA hn n m os hperm.length_eq m.length (Nat.le_refl _)
    rw [List.take_length, hA] at hput
    refine ⟨rfl, m, hperm, hsort.imp fun h => by simpa using h, hput, ?_⟩
    have hob : (TV.val t).ownBlock.toList = [g] := ownBlock_at hA
    rw [hob]
    exact fr_putI w g n m.toArray os
theorem compactI_any (w : World) (base : Nat) (t : TV) (h : OwnI w base t) (hs : t.l.length ≤ 5000) (hp : t.l.Pairwise (· ≤ ·)) :
    Calls Try.prog 88 #[.slice t.A t.l.length t.c] w fun e w' => ∃ m : List Int, e = .returned (.slice t.A m.length t.c) ∧ RisI m ∧ (∀ q, q ∈ m ↔ q ∈ t.l) ∧ OwnI w' base ⟨t.A, m, t.c⟩ ∧ Fr w w' t.val.ownBlock.toList := by
  by_cases hn : t.l.length = 0
  · have h0 : t.l = [] := List.length_eq_zero_iff.1 hn
    have hc := Any.slices_Compact_int_empty (P := Try.prog) Try.laysCompactI t.A t.c w
    rw [hn]
    refine hc.mono ?_
    rintro e w' ⟨rfl, rfl⟩
    exact ⟨t.l, by rw [hn], by rw [h0]; exact .nil, fun q => Iff.rfl, h, Fr.refl _ _⟩
  · obtain ⟨g, cur, hA, _, hb, hle, _⟩ := h.blk hn
    have hc := Any.slices_Compact_int (P := Try.prog) Try.laysCompactI g 0 t.c t.l w (h.holds hA hn) (by omega) hle
    rw [hA]
    refine hc.mono ?_
    rintro e w' ⟨rfl, q, rfl⟩
    obtain ⟨h1, h2⟩ := compact_ris t.l hp
    have hlen := nodup_len (risI_nodup h1) fun x hx => (h2 x).1 hx
    generalize Lib.compact t.l = m at h1 h2 hlen
    have hput := h.put hA hn q (m ++ List.replicate (t.l.length - m.length) 0) #[] (by rw [List.length_append, List.length_replicate]; omega) m.length (by rw [List.length_append]; omega)
    rw [grow_empty, List.take_left' rfl, hA] at hput
    refine ⟨m, rfl, h1, h2, hput, ?_⟩
    have hob : (TV.val t).ownBlock.toList = [g] := ownBlock_at hA
    rw [hob]
    have hf := fr_putI w g q (m ++ List.replicate (t.l.length - m.length) 0).toArray #[]
    rw [grow_empty] at hf
    exact hf
/-- What once answers. -/
def OcPost (w : World) (base : Nat) (t : TV) (e : Ending) (w' : World) : Prop := e = .returned (.slice t.A (onceI t.l).length t.c) ∧ OwnI w' base ⟨t.A, onceI t.l, t.c⟩ ∧ Fr w w' t.val.ownBlock.toList
set_option maxRecDepth 100000 in
set_option maxHeartbeats 1000000 in
theorem once13_any (w : World) (base : Nat) (t : TV) (h : OwnI w base t) (hs : t.l.length ≤ 5000) : Calls Try.prog 66 #[.slice t.A t.l.length t.c] w (OcPost w base t) := by
  have HS := Lib.hid (sortI_any w base t h hs)
  have HL := Lib.hid hs
  clear h hs
  go_enter Try.func66, Try.ntmps66
  go_wp2_with (first
    | (go_at_call 87; (with_reducible refine HS.out.mono ?_); rintro e w1 ⟨rfl, m, p1, s1, o1, f1⟩; have HC : Hid (Calls Try.prog 88 #[.slice t.A t.l.length t.c] w1 fun e w' => ∃ m' : List Int, e = .returned (.slice t.A m'.length t.c) ∧ RisI m' ∧ (∀ q, q ∈ m' ↔ q ∈ m) ∧ OwnI w' base ⟨t.A, m', t.c⟩ ∧ Fr w1 w' t.val.ownBlock.toList) := Lib.hid (by have hh := compactI_any w1 base ⟨t.A, m, t.c⟩ o1 (by rw [show (TV.mk t.A m t.c).l.length = t.l.length from p1.length_eq]; exact HL.out) s1; have hob : (TV.mk t.A m t.c).val.ownBlock.toList = t.val.ownBlock.toList := (by unfold TV.val; rcases t.A with _ | a <;> rfl); rw [hob] at hh; dsimp only at hh; rw [p1.length_eq] at hh; exact hh); have F1 := Lib.hid (And.intro f1 p1); clear p1 s1 o1 f1)
    | (go_at_call 88; (with_reducible refine HC.out.mono ?_); rintro e w2 ⟨m2, rfl, r2, q2, o2, f2⟩; have F2 := Lib.hid (And.intro (show m2 = onceI t.l from onceI_eq r2 fun q => (q2 q).trans F1.out.2.mem_iff) (And.intro o2 f2)); clear r2 q2 o2 f2))
  go_ret
  refine ⟨by rw [← F2.out.1]; rfl, by rw [← F2.out.1]; exact F2.out.2.1, F1.out.1.trans F2.out.2.2⟩
theorem bx3 {w : World} {b : Nat} {a0 a1 a2 : Value} {t : TypeId} (h : w.heap[b]? = some (.cells #[a0, a1, a2] t (0, 0))) : w.cell? ⟨b, 0, none⟩ = some a0 ∧ w.cell? ⟨b, 1, none⟩ = some a1 ∧ w.cell? ⟨b, 2, none⟩ = some a2 := ⟨cell_of_row _ _ 0 _ _ _ h, cell_of_row _ _ 1 _ _ _ h, cell_of_row _ _ 2 _ _ _ h⟩
/-- How many of a rising list are ahead of its p-th. -/
theorem cnt_lt : ∀ {l : List Int} {p : Nat} (_ : RisI l) (hp : p < l.length), l.countP (· < l[p]) = p
  | x :: l, 0, h, _ => by
    have hp := List.pairwise_cons.1 h
    rw [List.countP_eq_zero]
    intro a ha
    simp only [List.getElem_cons_zero, decide_eq_true_eq]
    rcases List.mem_cons.1 ha with rfl | ha
    · omega
    · have := hp.1 a ha; omega
  | x :: l, p + 1, h, hp => by
    have hq := List.pairwise_cons.1 h
    have ih := cnt_lt (l := l) (p := p) hq.2 (by simpa using hp)
    simp only [List.getElem_cons_succ]
    rw [List.countP_cons_of_pos (by simpa using hq.1 _ (List.getElem_mem (by simpa using hp))), ih]
end Go.Proofs.Ytmldiojlglpoiaa
/- Roads out of edges, plainly: rows of places as they come, each once, turned. -/
namespace Go.Proofs.Ytmldiojlglpoiaa

/-- The ends of a label's edges, as they come. -/
def endsL (lab : Nm) (es : List Ed) : List Int := es.flatMap fun e => if e.lab = lab then [e.f, e.t] else []
theorem endsL_take {lab : Nm} {es : List Ed} {k : Nat} (h : k < es.length) : endsL lab (es.take (k + 1)) = endsL lab (es.take k) ++ if es[k].lab = lab then [es[k].f, es[k].t] else [] := by
  unfold endsL
  rw [List.take_succ_eq_append_getElem h, List.flatMap_append]
  simp
theorem endsL_len (lab : Nm) : ∀ es : List Ed, (endsL lab es).length ≤ 2 * es.length
  | [] => by simp [endsL]
  | e :: es => by
    have ih := endsL_len lab es
    unfold endsL at *
    rw [List.flatMap_cons, List.length_append]
    have h2 : (if e.lab = lab then [e.f, e.t] else []).length ≤ 2 := by split <;> simp
    simp only [List.length_cons]
    omega
theorem onceI_len (l : List Int) : (onceI l).length ≤ l.length := nodup_len (risI_nodup (ris_onceI l)) fun _ hx => mem_onceI.1 hx
/-- The nodes of a label. -/
def nodesL (lab : Nm) (es : List Ed) : List Int := onceI (endsL lab es)
theorem nodesL_len (lab : Nm) (es : List Ed) : (nodesL lab es).length ≤ 2 * es.length := Nat.le_trans (onceI_len _) (endsL_len lab es)
theorem mem_nodesL {lab : Nm} {es : List Ed} {a : Int} : a ∈ nodesL lab es ↔ ∃ e ∈ es, e.lab = lab ∧ (a = e.f ∨ a = e.t) := by
  unfold nodesL endsL
  rw [mem_onceI, List.mem_flatMap]
  constructor
  · rintro ⟨e, he, ha⟩
    split at ha
    · rename_i h
      simp at ha
      exact ⟨e, he, h, ha⟩
    · cases ha
  · rintro ⟨e, he, h, ha⟩
    refine ⟨e, he, ?_⟩
    rw [if_pos h]
    simpa using ha
/-- The pairs of a label. -/
def prsL (lab : Nm) (es : List Ed) : List Pr := (es.filter fun e => decide (e.lab = lab)).map fun e => (e.f, e.t)
theorem mem_prsL {lab : Nm} {es : List Ed} {a b : Int} : (a, b) ∈ prsL lab es ↔ ∃ e ∈ es, e.lab = lab ∧ e.f = a ∧ e.t = b := by
  unfold prsL
  rw [List.mem_map]
  constructor
  · rintro ⟨e, he, h⟩
    obtain ⟨h1, h2⟩ := List.mem_filter.1 he
    injection h with h3 h4
    exact ⟨e, h1, of_decide_eq_true h2, h3, h4⟩
  · rintro ⟨e, he, h, h3, h4⟩
    exact ⟨e, List.mem_filter.2 ⟨he, decide_eq_true h⟩, by rw [h3, h4]⟩
/-- Where a place leads, as the edges come. -/
def rawO (N : List Int) (lab : Nm) (es : List Ed) (p : Nat) : List Int := (es.filter fun e => decide (e.lab = lab) && decide (e.f = N.getD p 0)).map fun e => ((N.idxOf e.t : Nat) : Int)
def rawsO (N : List Int) (lab : Nm) (es : List Ed) : List Tu := (List.range N.length).map (rawO N lab es)
theorem rawsO_nil (N : List Int) (lab : Nm) : rawsO N lab [] = List.replicate N.length [] := by
  unfold rawsO
  rw [List.eq_replicate_iff]
  exact ⟨by simp, fun x hx => by obtain ⟨p, _, rfl⟩ := List.mem_map.1 hx; rfl⟩
theorem rawsO_len (N : List Int) (lab : Nm) (es : List Ed) : (rawsO N lab es).length = N.length := by unfold rawsO; simp
theorem rawO_len (N : List Int) (lab : Nm) (es : List Ed) (p : Nat) : (rawO N lab es p).length ≤ es.length := by
  unfold rawO
  rw [List.length_map]
  exact List.length_filter_le _ _
theorem rawsO_at {N : List Int} {lab : Nm} {es : List Ed} {p : Nat} (h : p < N.length) : (rawsO N lab es)[p]'(by rw [rawsO_len]; exact h) = rawO N lab es p := by simp [rawsO]
theorem rawO_take {N : List Int} {lab : Nm} {es : List Ed} {k p : Nat} (h : k < es.length) : rawO N lab (es.take (k + 1)) p = rawO N lab (es.take k) p ++ if es[k].lab = lab ∧ es[k].f = N.getD p 0 then [((N.idxOf es[k].t : Nat) : Int)] else [] := by
  unfold rawO
  rw [List.take_succ_eq_append_getElem h, List.filter_append, List.map_append, List.filter_cons]
  by_cases h1 : es[k].lab = lab ∧ es[k].f = N.getD p 0
  · rw [if_pos h1, if_pos (by rw [decide_eq_true h1.1, decide_eq_true h1.2]; rfl)]
    rfl
  · rw [if_neg h1, if_neg (fun hb => h1 (by rw [Bool.and_eq_true, decide_eq_true_eq, decide_eq_true_eq] at hb; exact hb))]
    rfl
theorem rawsO_skip {N : List Int} {lab : Nm} {es : List Ed} {k : Nat} (h : k < es.length) (hl : es[k].lab ≠ lab) : rawsO N lab (es.take (k + 1)) = rawsO N lab (es.take k) := by
  unfold rawsO
  refine List.map_congr_left fun p _ => ?_
  rw [rawO_take h, if_neg (fun hc => hl hc.1), List.append_nil]
theorem rawsO_put {N : List Int} {lab : Nm} {es : List Ed} {k p : Nat} (hN : RisI N) (h : k < es.length) (hl : es[k].lab = lab) (hp : p < N.length) (hf : N[p] = es[k].f) : rawsO N lab (es.take (k + 1)) = (rawsO N lab (es.take k)).set p (rawO N lab (es.take k) p ++ [((N.idxOf es[k].t : Nat) : Int)]) := by
  apply List.ext_getElem
  · rw [List.length_set, rawsO_len, rawsO_len]
  · intro j h1 h2
    rw [rawsO_len] at h1
    rw [List.getElem_set, rawsO_at h1, rawO_take h]
    by_cases e : p = j
    · subst e
      rw [if_pos rfl, if_pos ⟨hl, by rw [getD_at hp]; exact hf.symm⟩]
    · rw [if_neg e, rawsO_at h1, if_neg (fun hc => e (risI_inj hN hp h1 (by rw [hf, hc.2, getD_at h1]))), List.append_nil]
def outO (N : List Int) (lab : Nm) (es : List Ed) (p : Nat) : List Int := onceI (rawO N lab es p)
theorem outO_len (N : List Int) (lab : Nm) (es : List Ed) (p : Nat) : (outO N lab es p).length ≤ es.length := Nat.le_trans (onceI_len _) (rawO_len _ _ _ _)
/-- The first f rows each once, the others as they come. -/
def mixO (N : List Int) (lab : Nm) (es : List Ed) (f : Nat) : List Tu := (List.range N.length).map fun p => if p < f then outO N lab es p else rawO N lab es p
theorem mixO_len (N : List Int) (lab : Nm) (es : List Ed) (f : Nat) : (mixO N lab es f).length = N.length := by unfold mixO; simp
theorem mixO_at {N : List Int} {lab : Nm} {es : List Ed} {f p : Nat} (h : p < N.length) : (mixO N lab es f)[p]'(by rw [mixO_len]; exact h) = if p < f then outO N lab es p else rawO N lab es p := by simp [mixO]
theorem mixO_zero (N : List Int) (lab : Nm) (es : List Ed) : mixO N lab es 0 = rawsO N lab es := by
  unfold mixO rawsO
  exact List.map_congr_left fun p _ => if_neg (Nat.not_lt_zero _)
theorem mixO_next {N : List Int} {lab : Nm} {es : List Ed} {f : Nat} (h : f < N.length) : mixO N lab es (f + 1) = (mixO N lab es f).set f (outO N lab es f) := by
  apply List.ext_getElem
  · rw [List.length_set, mixO_len, mixO_len]
  · intro j h1 h2
    rw [mixO_len] at h1
    rw [List.getElem_set, mixO_at h1]
    by_cases e : f = j
    · subst e; rw [if_pos rfl, if_pos (by omega)]
    · rw [if_neg e, mixO_at h1]
      by_cases h3 : j < f
      · rw [if_pos h3, if_pos (by omega)]
      · rw [if_neg h3, if_neg (by omega)]
/-- Who leads to a place, of the first f places, and of f if the place is among its first j. -/
def inO (N : List Int) (lab : Nm) (es : List Ed) (f j q : Nat) : List Int := ((List.range f).filter fun p : Nat => decide ((q : Int) ∈ outO N lab es p)).map (fun p : Nat => (p : Int)) ++ if (q : Int) ∈ (outO N lab es f).take j then [(f : Int)] else []
def insO (N : List Int) (lab : Nm) (es : List Ed) (f j : Nat) : List Tu := (List.range N.length).map (inO N lab es f j)
theorem insO_len (N : List Int) (lab : Nm) (es : List Ed) (f j : Nat) : (insO N lab es f j).length = N.length := by unfold insO; simp
theorem insO_at {N : List Int} {lab : Nm} {es : List Ed} {f j q : Nat} (h : q < N.length) : (insO N lab es f j)[q]'(by rw [insO_len]; exact h) = inO N lab es f j q := by simp [insO]
theorem inO_len (N : List Int) (lab : Nm) (es : List Ed) (f j q : Nat) : (inO N lab es f j q).length ≤ f + 1 := by
  unfold inO
  rw [List.length_append, List.length_map]
  have := List.length_filter_le (fun p : Nat => decide ((q : Int) ∈ outO N lab es p)) (List.range f)
  rw [List.length_range] at this
  split <;> simp <;> omega
theorem insO_zero (N : List Int) (lab : Nm) (es : List Ed) : insO N lab es 0 0 = List.replicate N.length [] := by
  unfold insO
  rw [List.eq_replicate_iff]
  exact ⟨by simp, fun x hx => by obtain ⟨p, _, rfl⟩ := List.mem_map.1 hx; simp [inO]⟩
theorem insO_next (N : List Int) (lab : Nm) (es : List Ed) (f j : Nat) (h : (outO N lab es f).length ≤ j) : insO N lab es f j = insO N lab es (f + 1) 0 := by
  unfold insO
  refine List.map_congr_left fun q _ => ?_
  unfold inO
  rw [List.take_of_length_le h, List.take_zero, List.range_succ, List.filter_append, List.map_append, List.filter_cons]
  by_cases hm : (q : Int) ∈ outO N lab es f
  · rw [if_pos hm, if_pos (decide_eq_true hm)]; simp
  · rw [if_neg hm, if_neg (by simpa using hm)]; simp
theorem insO_put {N : List Int} {lab : Nm} {es : List Ed} {f j q : Nat} (hj : j < (outO N lab es f).length) (hq : q < N.length) (he : (outO N lab es f)[j] = (q : Int)) : insO N lab es f (j + 1) = (insO N lab es f j).set q (inO N lab es f j q ++ [(f : Int)]) := by
  have hnd : (outO N lab es f).Nodup := risI_nodup (ris_onceI _)
  have htk : (outO N lab es f).take (j + 1) = (outO N lab es f).take j ++ [(q : Int)] := by rw [List.take_succ_eq_append_getElem hj, he]
  apply List.ext_getElem
  · rw [List.length_set, insO_len, insO_len]
  · intro i h1 h2
    rw [insO_len] at h1
    rw [List.getElem_set, insO_at h1]
    by_cases e : q = i
    · subst e
      rw [if_pos rfl]
      unfold inO
      have hno : (q : Int) ∉ (outO N lab es f).take j := fun hm => by
        obtain ⟨i, hi, ei⟩ := List.getElem_of_mem hm
        rw [List.length_take] at hi
        rw [List.getElem_take, ← he] at ei
        have := (List.getElem_inj hnd).1 ei
        omega
      rw [if_pos (by rw [htk]; simp), if_neg hno, List.append_nil]
    · rw [if_neg e, insO_at h1]
      unfold inO
      have hiff : ((i : Int) ∈ (outO N lab es f).take (j + 1)) ↔ ((i : Int) ∈ (outO N lab es f).take j) := by
        rw [htk, List.mem_append, List.mem_singleton]
        constructor
        · rintro (h | h)
          · exact h
          · omega
        · exact .inl
      by_cases hm : (i : Int) ∈ (outO N lab es f).take j
      · rw [if_pos hm, if_pos (hiff.2 hm)]
      · rw [if_neg hm, if_neg (fun h => hm (hiff.1 h))]
/-- Places of a label's nodes. -/
theorem idx_node {lab : Nm} {es : List Ed} {a : Int} (h : a ∈ nodesL lab es) : (nodesL lab es).idxOf a < (nodesL lab es).length ∧ ∀ hi, (nodesL lab es)[(nodesL lab es).idxOf a]'hi = a := ⟨List.idxOf_lt_length_iff.2 h, fun hi => List.getElem_idxOf hi⟩
theorem mem_outO {lab : Nm} {es : List Ed} {p : Nat} {v : Int} (hp : p < (nodesL lab es).length) : v ∈ outO (nodesL lab es) lab es p ↔ ∃ q : Nat, v = (q : Int) ∧ q < (nodesL lab es).length ∧ ((nodesL lab es).getD p 0, (nodesL lab es).getD q 0) ∈ prsL lab es := by
  unfold outO rawO
  rw [mem_onceI, List.mem_map]
  constructor
  · rintro ⟨e, he, rfl⟩
    obtain ⟨h1, h2⟩ := List.mem_filter.1 he
    rw [Bool.and_eq_true, decide_eq_true_eq, decide_eq_true_eq] at h2
    obtain ⟨k1, k2⟩ := idx_node (mem_nodesL.2 ⟨e, h1, h2.1, .inr rfl⟩)
    exact ⟨_, rfl, k1, mem_prsL.2 ⟨e, h1, h2.1, h2.2, by rw [getD_at k1, k2]⟩⟩
  · rintro ⟨q, rfl, hq, hm⟩
    obtain ⟨e, h1, h2, h3, h4⟩ := mem_prsL.1 hm
    refine ⟨e, List.mem_filter.2 ⟨h1, by rw [decide_eq_true h2, decide_eq_true h3]; rfl⟩, ?_⟩
    obtain ⟨k1, k2⟩ := idx_node (mem_nodesL.2 ⟨e, h1, h2, .inr rfl⟩)
    rw [h4] at k1 k2 ⊢
    rw [getD_at hq] at k1 k2 ⊢
    have := risI_inj (ris_onceI _) k1 hq (k2 k1)
    rw [this]
/-- What the program's rows come to. -/
theorem roads_ok (lab : Nm) (es : List Ed) (O I : List Tu) (hO : O = mixO (nodesL lab es) lab es (nodesL lab es).length) (hI : I = insO (nodesL lab es) lab es (nodesL lab es).length 0) :
    Roads (nodesL lab es) (O.map fun l => l.map Int.toNat) (I.map fun l => l.map Int.toNat) (prsL lab es) ∧ (∀ l ∈ O, ∀ v ∈ l, 0 ≤ v ∧ v < (nodesL lab es).length) ∧ (∀ l ∈ I, ∀ v ∈ l, 0 ≤ v ∧ v < (nodesL lab es).length) ∧ (∀ l ∈ O, l.length ≤ es.length) ∧ ∀ l ∈ I, l.length ≤ (nodesL lab es).length := by
  generalize hN : nodesL lab es = N at *
  have hout : ∀ p, p < N.length → ∀ v, v ∈ outO N lab es p ↔ ∃ q : Nat, v = (q : Int) ∧ q < N.length ∧ (N.getD p 0, N.getD q 0) ∈ prsL lab es := by
    intro p hp v
    subst hN
    exact mem_outO hp
  have hOl : O.length = N.length := by rw [hO, mixO_len]
  have hIl : I.length = N.length := by rw [hI, insO_len]
  have hOat : ∀ p (h : p < N.length), O[p]'(by omega) = outO N lab es p := by
    intro p h
    subst hO
    rw [mixO_at h, if_pos h]
  have hIat : ∀ q (h : q < N.length), I[q]'(by omega) = inO N lab es N.length 0 q := by
    intro q h
    subst hI
    rw [insO_at h]
  have hg : ∀ (L : List Tu) p, AtR (L.map fun l => l.map Int.toNat) p = fun q => ∃ h : p < L.length, q ∈ L[p].map Int.toNat := by
    intro L p
    funext q
    unfold AtR
    rw [List.getD_eq_getElem?_getD]
    by_cases h : p < L.length
    · rw [List.getElem?_eq_getElem (by simpa using h)]
      simp [h]
    · rw [List.getElem?_eq_none (by simpa using h)]
      simp [h]
  have hOm : ∀ p q, AtR (O.map fun l => l.map Int.toNat) p q ↔ p < N.length ∧ q < N.length ∧ (N.getD p 0, N.getD q 0) ∈ prsL lab es := by
    intro p q
    rw [hg]
    constructor
    · rintro ⟨h, hm⟩
      obtain ⟨v, hv, e⟩ := List.mem_map.1 hm
      rw [hOat p (by omega)] at hv
      obtain ⟨q', rfl, h1, h2⟩ := (hout p (by omega) v).1 hv
      have : q' = q := by simpa using e
      subst this
      exact ⟨by omega, h1, h2⟩
    · rintro ⟨h1, h2, h3⟩
      refine ⟨by omega, List.mem_map.2 ⟨(q : Int), ?_, by simp⟩⟩
      rw [hOat p h1]
      exact (hout p h1 _).2 ⟨q, rfl, h2, h3⟩
  refine ⟨⟨?_, by simpa using hOl, by simpa using hIl, hOm, fun p q => ?_, fun e he => ?_, fun p => ?_⟩, ?_, ?_, ?_, ?_⟩
  · rw [← hN]; exact ris_onceI _
  · rw [hOm, hg]
    constructor
    · rintro ⟨h, hm⟩
      obtain ⟨v, hv, e⟩ := List.mem_map.1 hm
      rw [hIat q (by omega)] at hv
      unfold inO at hv
      rw [List.take_zero, if_neg (by simp), List.append_nil] at hv
      obtain ⟨p', hp', rfl⟩ := List.mem_map.1 hv
      obtain ⟨h1, h2⟩ := List.mem_filter.1 hp'
      have : p' = p := by simpa using e
      subst this
      have hpl := List.mem_range.1 h1
      obtain ⟨q', e1, e2, e3⟩ := (hout p' hpl _).1 (of_decide_eq_true h2)
      have : q = q' := by omega
      subst this
      exact ⟨hpl, e2, e3⟩
    · rintro ⟨h1, h2, h3⟩
      refine ⟨by omega, List.mem_map.2 ⟨(p : Int), ?_, by simp⟩⟩
      rw [hIat q h2]
      unfold inO
      rw [List.take_zero, if_neg (by simp), List.append_nil]
      refine List.mem_map.2 ⟨p, List.mem_filter.2 ⟨List.mem_range.2 h1, ?_⟩, rfl⟩
      exact decide_eq_true ((hout p h1 _).2 ⟨q, rfl, h2, h3⟩)
  · obtain ⟨x, h1, h2, h3, h4⟩ := mem_prsL.1 (show (e.1, e.2) ∈ prsL lab es from he)
    rw [← hN]
    exact ⟨mem_nodesL.2 ⟨x, h1, h2, .inl h3.symm⟩, mem_nodesL.2 ⟨x, h1, h2, .inr h4.symm⟩⟩
  · rw [List.getD_eq_getElem?_getD]
    by_cases h : p < O.length
    · rw [List.getElem?_eq_getElem (by simpa using h)]
      simp only [List.getElem_map, Option.getD_some]
      rw [hOat p (by omega), List.pairwise_map]
      refine (ris_onceI (rawO N lab es p)).imp_of_mem fun {a b} ha hb hlt => ?_
      obtain ⟨qa, rfl, _⟩ := (hout p (by omega) a).1 ha
      obtain ⟨qb, rfl, _⟩ := (hout p (by omega) b).1 hb
      simp
      omega
    · rw [List.getElem?_eq_none (by simpa using h)]
      exact .nil
  · intro l hl v hv
    obtain ⟨p, hp, rfl⟩ := List.getElem_of_mem hl
    rw [hOat p (by omega)] at hv
    obtain ⟨q, rfl, h, _⟩ := (hout p (by omega) v).1 hv
    omega
  · intro l hl v hv
    obtain ⟨q, hq, rfl⟩ := List.getElem_of_mem hl
    rw [hIat q (by omega)] at hv
    unfold inO at hv
    rw [List.take_zero, if_neg (by simp), List.append_nil] at hv
    obtain ⟨p, hp, rfl⟩ := List.mem_map.1 hv
    have := List.mem_range.1 (List.mem_filter.1 hp).1
    omega
  · intro l hl
    obtain ⟨p, hp, rfl⟩ := List.getElem_of_mem hl
    rw [hOat p (by omega)]
    exact outO_len _ _ _ _
  · intro l hl
    obtain ⟨q, hq, rfl⟩ := List.getElem_of_mem hl
    rw [hIat q (by omega)]
    unfold inO
    rw [List.take_zero, if_neg (by simp), List.append_nil, List.length_map]
    have := List.length_filter_le (fun p : Nat => decide ((q : Int) ∈ outO N lab es p)) (List.range N.length)
    rw [List.length_range] at this
    exact this
end Go.Proofs.Ytmldiojlglpoiaa
/- Edges of a label, their nodes: span.nodesOf; where a node stands: place. -/
namespace Go.Proofs.Ytmldiojlglpoiaa
open Go.RowKit Go.Maps Go.Sort

/-- Edges as a slice, more of them. -/
structure Es (w : World) (A : Option Addr) (c : Nat) (l : List Ed) : Prop where
  rd : Rd w w.heap.size A (edsC l)
  cap : l.length ≤ c
  sm : l.length ≤ 1000
theorem Es.below {w w' : World} {A : Option Addr} {c : Nat} {l : List Ed} (h : Es w A c l) (hb : Below w.heap.size w w') : Es w' A c l :=
  ⟨(h.rd.below hb (Nat.le_refl _)).more hb.size, h.cap, h.sm⟩
theorem Es.cell {w : World} {A : Option Addr} {c : Nat} {l : List Ed} (h : Es w A c l) {k : Nat} (hk : k < l.length) : ∃ b o, A = some ⟨b, o, none⟩ ∧ b < w.heap.size ∧ w.cell? ⟨b, o + k * 3, none⟩ = some (.int .i64 l[k].f) ∧ w.cell? ⟨b, o + k * 3 + 1, none⟩ = some (.string ⟨l[k].lab.toArray⟩) ∧ w.cell? ⟨b, o + k * 3 + 2, none⟩ = some (.int .i64 l[k].t) := by
  have hne : edsC l ≠ [] := fun e => by have := edsC_len l; rw [e] at this; simp at this; omega
  obtain ⟨b, o, e, hb, hc⟩ := h.rd hne
  have hat := fun j hj => flat3_at edC (fun _ => rfl) l k j hk hj
  refine ⟨b, o, e, hb, hc (k * 3) _ (hat 0 (by omega)), ?_, ?_⟩
  · rw [Nat.add_assoc]; exact hc (k * 3 + 1) _ (hat 1 (by omega))
  · rw [Nat.add_assoc]; exact hc (k * 3 + 2) _ (hat 2 (by omega))
/-- append of numbers onto a row of the call's own. -/
theorem run_appN (w : World) (lo : Nat) (u : TV) (ys : List Int) (h : OwnI w lo u) (hb : lo ≤ w.heap.size) (hl : u.l.length + ys.length ≤ 20000) :
    ∃ u' : TV, ∃ w', (Builtin.append_ #[31, 31] 31 #[.slice u.A u.l.length u.c, .slice (some ⟨w.heap.size, 0, none⟩) ys.length ys.length]).run Try.prog (w.alloc (.cells (intsV ys).toArray 3)) = .ok (.slice u'.A u'.l.length u'.c) w' ∧ u'.l = u.l ++ ys ∧ OwnI w' lo u' ∧ Fr (w.alloc (.cells (intsV ys).toArray 3)) w' u.val.ownBlock.toList ∧ (u'.val.ownBlock = u.val.ownBlock ∨ u'.val.ownBlock = some (w.heap.size + 1)) ∧ Below lo w w' := by
  obtain ⟨i, hi, hz0, hz1, hz2⟩ := info_parts infoInt
  have hb4 : Below w.heap.size w (w.alloc (.cells (intsV ys).toArray 3)) := (Below.refl _ _).alloc (Nat.le_refl _) _
  have hr4 := own_below h hb4 (Nat.le_refl _)
  have hrd : Rd (w.alloc (.cells (intsV ys).toArray 3)) (w.heap.size + 1) (some ⟨w.heap.size, 0, none⟩) (intsV ys) := Rd.new w (intsV ys).toArray 3 (0, 0)
  obtain ⟨v5, w5, hrun, g1, g2, g3⟩ := run_appR (P := Try.prog) _ lo 31 31 3 i _ 1 8 Try.underlying31 hi hz0 hz1 hz2 rfl (by omega) u.val u.l.length (intsV u.l) hr4 (w.heap.size + 1) (some ⟨w.heap.size, 0, none⟩) ys.length ys.length (intsV ys) (by rw [intsV_len, Nat.mul_one]) hrd (intsV_one _) (by omega) (by omega) (Nat.le_trans hb hb4.size)
  have e1 : intsV u.l ++ intsV ys = intsV (u.l ++ ys) := (List.map_append).symm
  rw [e1] at g1
  rw [alloc1_size] at g3
  obtain ⟨A, c, rfl, _, _, _⟩ := own_shape g1
  refine ⟨⟨A, u.l ++ ys, c⟩, w5, ?_, rfl, ?_, fr_grown g2, ?_, (lower' hb4 hb).trans (grown_below' g2 (fun z hz => (World.ownsRow.lt hr4 z hz).1) (Nat.le_trans hb hb4.size))⟩
  · rw [List.length_append]
    exact hrun
  · unfold OwnI TV.val
    rw [List.length_append]
    exact g1
  · rcases g3 with g3 | g3
    · exact .inl (by unfold TV.val; rw [List.length_append]; exact g3)
    · exact .inr (by unfold TV.val; rw [List.length_append]; exact g3)
/-- A row of numbers is answered, new. -/
def NwPost (w : World) (L : List Int) (e : Ending) (w' : World) : Prop := ∃ u : TV, e = .returned (.slice u.A u.l.length u.c) ∧ u.l = L ∧ OwnI w' w.heap.size u ∧ Below w.heap.size w w'
set_option maxRecDepth 100000 in
set_option maxHeartbeats 4000000 in
theorem nodesOf_any (lab : Nm) (A : Option Addr) (c : Nat) (es : List Ed) (w : World) (h : Es w A c es) : Calls Try.prog 64 #[.string ⟨lab.toArray⟩, .slice A es.length c] w (NwPost w (nodesL lab es)) := by
  have hs := h.sm
  have HA := Lib.hid h
  clear h
  go_enter Try.func64, Try.ntmps64
  go_wp2_with (fail)
  go_loopw [5, 10] (fun out i wr => ∃ (k : Nat) (u : TV), k ≤ es.length ∧ i = .int .i64 (k : Int) ∧ out = .slice u.A u.l.length u.c ∧ Hid (OwnI wr w.heap.size u ∧ u.l = endsL lab (es.take k) ∧ Below w.heap.size w wr)) (fun _ i _ => es.length - (intOf i).toNat)
  case atStart => exact ⟨0, ⟨none, [], 0⟩, by omega, rfl, rfl, Lib.hid ⟨World.ownsRow_nil _ _ _ _, rfl, Below.refl _ _⟩⟩
  case round =>
    obtain ⟨k, u, hk, rfl, rfl, hrel⟩ := hrel
    by_cases hlt : k < es.length
    · obtain ⟨b, o, hA, _, c0, c1, c2⟩ := (HA.out.below hrel.out.2.2).cell hlt
      have hlI : (k : Int) < (es.length : Int) := by omega
      have htk := endsL_take (lab := lab) hlt
      have hul : u.l.length ≤ 2000 := by
        rw [hrel.out.2.1]
        have h1 := endsL_len lab (es.take k)
        rw [List.length_take] at h1
        omega
      rw [hA]
      generalize es[k] = y at c0 c1 c2 htk
      have hg1 := heap_alloc_new wr (.cells #[.int .i64 y.f, .string ⟨y.lab.toArray⟩, .int .i64 y.t] 48)
      have hb1 := Below.alloc (Below.refl wr.heap.size wr) (Nat.le_refl _) (.cells #[.int .i64 y.f, .string ⟨y.lab.toArray⟩, .int .i64 y.t] 48)
      obtain ⟨d0, d1, d2⟩ := bx3 hg1
      have hu1 := hrel.out.1.below hb1
      have HR := Lib.hid (And.intro hrel.out.2.1 (And.intro htk (And.intro hu1 (hrel.out.2.2.trans (lower' hb1 hrel.out.2.2.size)))))
      clear hb1 hg1 hu1 htk hrel
      by_cases hlab : y.lab = lab
      · have hl : (y.lab == lab) = true := beq_iff_eq.2 hlab
        obtain ⟨u', w5, hrun, hul', hou, _, _, hb5⟩ := run_appN (wr.alloc (.cells #[.int .i64 y.f, .string ⟨y.lab.toArray⟩, .int .i64 y.t] 48)) w.heap.size u [y.f, y.t] HR.out.2.2.1 HR.out.2.2.2.size (by simp; omega)
        have hrun : (Builtin.append_ #[31, 31] 31 #[.slice u.A u.l.length u.c, .slice (some ⟨(wr.alloc (.cells #[.int .i64 y.f, .string ⟨y.lab.toArray⟩, .int .i64 y.t] 48)).heap.size, 0, none⟩) 2 2]).run Try.prog ((wr.alloc (.cells #[.int .i64 y.f, .string ⟨y.lab.toArray⟩, .int .i64 y.t] 48)).alloc (.cells #[.int .i64 y.f, .int .i64 y.t] 3)) = .ok (.slice u'.A u'.l.length u'.c) w5 := hrun
        rw [alloc1_size] at hrun
        have HN := Lib.hid (And.intro hou (And.intro (show u'.l = endsL lab (es.take (k + 1)) from by rw [hul', HR.out.1, HR.out.2.1, if_pos hlab]) (HR.out.2.2.2.trans hb5)))
        clear hlab hul' hou hb5
        go_wp2_with (at_builtin; refine wpL_appK _ rfl (.tmp 18) (.tmp 23) 31 rfl rfl _ _ _ _ rfl rfl hrun ?_)
        go_roundw
        case rel => exact ⟨k + 1, u', by omega, by go_num, rfl, HN⟩
        case measure => simp [intOf]; omega
      · have hl : (y.lab == lab) = false := beq_eq_false_iff_ne.2 hlab
        have HN := Lib.hid (show u.l = endsL lab (es.take (k + 1)) from by rw [HR.out.1, HR.out.2.1, if_neg hlab, List.append_nil])
        clear hlab
        go_wp2_with (fail)
        go_roundw
        case rel => exact ⟨k + 1, u, by omega, by go_num, rfl, Lib.hid ⟨HR.out.2.2.1, HN.out, HR.out.2.2.2⟩⟩
        case measure => simp [intOf]; omega
    · have hlI : ¬ (k : Int) < (es.length : Int) := by omega
      have hul := hrel.out.2.1
      rw [List.take_of_length_le (by omega)] at hul
      have hlen := endsL_len lab es
      have hoc := once13_any wr w.heap.size u hrel.out.1 (by rw [hul]; omega)
      have HF := Lib.hid (And.intro hul (And.intro hrel.out.1 hrel.out.2.2))
      have HC := Lib.hid hoc
      clear hul hlen hoc hrel
      go_wp2_with (go_at_call 66; (with_reducible refine HC.out.mono ?_); rintro e w9 ⟨rfl, o9, f9⟩; have H9 := Lib.hid (And.intro o9 f9); clear o9 f9)
      go_ret
      refine ⟨⟨u.A, onceI u.l, u.c⟩, rfl, by dsimp only; rw [HF.out.1]; rfl, H9.out.1, HF.out.2.2.trans (H9.out.2.below HF.out.2.2.size fun s hs => (World.ownsRow.lt HF.out.2.1 s (by simpa using hs)).1)⟩
/-- A struct of roads: its nodes, where they lead, where they are led from. -/
structure RV where
  nA : Option Addr
  nc : Nat
  N : List Int
  o : LV
  i : LV
def rvA (x : RV) : Array Value := #[.slice x.nA x.N.length x.nc, .slice x.o.A x.o.ts.length x.o.c, .slice x.i.A x.i.ts.length x.i.c]
structure RV.Ok (w : World) (x : RV) : Prop where
  nd : TV.Ok w ⟨x.nA, x.N, x.nc⟩
  o : x.o.Ok w
  i : x.i.Ok w
theorem RV.Ok.below {w w' : World} {x : RV} (h : x.Ok w) (hb : Below w.heap.size w w') : x.Ok w' := ⟨h.nd.below hb, LV.Ok.below h.o hb, LV.Ok.below h.i hb⟩
/-- Rows of places, out of memory's numbers. -/
def plR (ts : List TV) : Rows := ts.map fun t => t.l.map Int.toNat
structure RV.Rd (x : RV) (E : List Pr) : Prop where
  roads : Roads x.N (plR x.o.ts) (plR x.i.ts) E
  po : ∀ t ∈ x.o.ts, ∀ v ∈ t.l, 0 ≤ v
  pi : ∀ t ∈ x.i.ts, ∀ v ∈ t.l, 0 ≤ v
theorem plR_at {ts : List TV} {p : Nat} (h : p < ts.length) : (plR ts).getD p [] = ts[p].l.map Int.toNat := by
  unfold plR
  rw [List.getD_eq_getElem?_getD, List.getElem?_eq_getElem (by simpa using h)]
  simp
theorem atR_lt {ts : List TV} {p q : Nat} (h : AtR (plR ts) p q) : p < ts.length := by
  unfold AtR at h
  rw [List.getD_eq_getElem?_getD] at h
  rcases Nat.lt_or_ge p ts.length with h1 | h1
  · exact h1
  · rw [List.getElem?_eq_none (by unfold plR; simpa using h1)] at h
    cases h
set_option maxRecDepth 100000 in
set_option maxHeartbeats 1000000 in
theorem place_yes (x : RV) (w : World) (hx : x.Ok w) (hN : RisI x.N) (p : Nat) (hp : p < x.N.length) : Calls Try.prog 65 #[.agg (rvA x), .int .i64 x.N[p]] w fun e w' => e = .returned (.tuple #[.int .i64 (p : Int), .bool true]) ∧ Below w.heap.size w w' := by
  have hb1 : Below w.heap.size w (w.alloc (.cells (rvA x) 76)) := (Below.refl _ _).alloc (Nat.le_refl _) _
  obtain ⟨q0, q1, q2⟩ := bx3 (heap_alloc_new w (.cells (rvA x) 76))
  obtain ⟨b, o, hA, _, _⟩ := hx.nd.cell (k := p) hp
  have hc := Any.slices_BinarySearch_int (P := Try.prog) Try.laysSearchI b o x.N.length x.nc x.N x.N[p] (w.alloc (.cells (rvA x) 76)) (Nat.le_refl _) (by have := hx.nd.sm; dsimp only at this; omega)
    (fun j hj => by
      obtain ⟨b', o', hA', _, hcl⟩ := (hx.nd.below hb1).cell (k := j) hj
      dsimp only at hA hA'
      rw [hA] at hA'
      injection hA' with hA'
      injection hA' with e8 e9
      subst e8 e9
      rw [hcl, List.getD_eq_getElem?_getD, List.getElem?_eq_getElem hj]
      rfl) (by rw [List.take_length]; exact hN.imp fun h => Int.le_of_lt h)
  have hcnt : (x.N.take x.N.length).countP (· < x.N[p]) = p := by
    rw [List.take_length]
    exact cnt_lt hN hp
  have hcon : (x.N.take x.N.length).contains x.N[p] = true := by rw [List.take_length]; exact List.contains_iff_mem.2 (List.getElem_mem hp)
  rw [hcnt, hcon] at hc
  dsimp only at hA
  have hc : Calls Try.prog 86 #[.slice x.nA x.N.length x.nc, .int .i64 x.N[p]] (w.alloc (.cells (rvA x) 76)) fun e w' => e = .returned (.tuple #[.int .i64 (p : Int), .bool true]) ∧ ∃ q, w' = (w.alloc (.cells (rvA x) 76)).drewN q := by rw [hA]; exact hc
  generalize x.N[p] = a at hc ⊢
  unfold rvA at hb1 q0 q1 q2 hc ⊢
  have HB := Lib.hid hb1
  have HC := Lib.hid hc
  clear hx hN hA hb1 hcnt hcon hc q1 q2
  go_enter Try.func65, Try.ntmps65
  go_wp2_with (go_at_call 86; (with_reducible refine HC.out.mono ?_); rintro e w2 ⟨rfl, hd⟩; have B2 := Lib.hid (below_drawn hd); clear hd)
  go_ret2
  exact ⟨rfl, HB.out.trans (lower' B2.out HB.out.size)⟩
set_option maxRecDepth 100000 in
set_option maxHeartbeats 1000000 in
theorem place_no (x : RV) (w : World) (hx : x.Ok w) (hN : RisI x.N) (a : Int) (ha : a ∉ x.N) : Calls Try.prog 65 #[.agg (rvA x), .int .i64 a] w fun e w' => ∃ i : Nat, e = .returned (.tuple #[.int .i64 (i : Int), .bool false]) ∧ Below w.heap.size w w' := by
  have hb1 : Below w.heap.size w (w.alloc (.cells (rvA x) 76)) := (Below.refl _ _).alloc (Nat.le_refl _) _
  obtain ⟨q0, q1, q2⟩ := bx3 (heap_alloc_new w (.cells (rvA x) 76))
  have hc : Calls Try.prog 86 #[.slice x.nA x.N.length x.nc, .int .i64 a] (w.alloc (.cells (rvA x) 76)) fun e w' => ∃ i : Nat, e = .returned (.tuple #[.int .i64 (i : Int), .bool false]) ∧ ∃ q, w' = (w.alloc (.cells (rvA x) 76)).drewN q := by
    by_cases h0 : x.N.length = 0
    · rw [h0]
      refine (Any.slices_BinarySearch_int_empty (P := Try.prog) Try.laysSearchI x.nA x.nc a _).mono ?_
      rintro e w' ⟨rfl, rfl⟩
      exact ⟨0, rfl, 0, rfl⟩
    · obtain ⟨b, o, hA, _, _⟩ := hx.nd.cell (k := 0) (by dsimp only; omega)
      have hc := Any.slices_BinarySearch_int (P := Try.prog) Try.laysSearchI b o x.N.length x.nc x.N a (w.alloc (.cells (rvA x) 76)) (Nat.le_refl _) (by have := hx.nd.sm; dsimp only at this; omega)
        (fun j hj => by
          obtain ⟨b', o', hA', _, hcl⟩ := (hx.nd.below hb1).cell (k := j) hj
          dsimp only at hA hA'
          rw [hA] at hA'
          injection hA' with hA'
          injection hA' with e8 e9
          subst e8 e9
          rw [hcl, List.getD_eq_getElem?_getD, List.getElem?_eq_getElem hj]
          rfl) (by rw [List.take_length]; exact hN.imp fun h => Int.le_of_lt h)
      rw [show (x.N.take x.N.length).contains a = false from by rw [List.take_length, ← Bool.not_eq_true, List.contains_iff_mem]; exact ha] at hc
      dsimp only at hA
      rw [hA]
      exact hc.mono fun e w' h => ⟨_, h.1, h.2⟩
  unfold rvA at hb1 q0 q1 q2 hc ⊢
  have HB := Lib.hid hb1
  have HC := Lib.hid hc
  clear hx hN hb1 hc q1 q2
  go_enter Try.func65, Try.ntmps65
  go_wp2_with (go_at_call 86; (with_reducible refine HC.out.mono ?_); rintro e w2 ⟨i, rfl, hd⟩; have B2 := Lib.hid (below_drawn hd); clear hd)
  go_ret2
  exact ⟨i, rfl, HB.out.trans (lower' B2.out HB.out.size)⟩
end Go.Proofs.Ytmldiojlglpoiaa
/- slices.Repeat of one number, span.unknown. -/
namespace Go.Proofs.Ytmldiojlglpoiaa
open Go.RowKit Go.Maps Go.Sort

theorem makeN (n : Nat) (hn : n ≤ 20000) (w : World) : (Instr.makeSlice 31 (.int .i64 (n : Int)) (.int .i64 (n : Int))).run Try.prog w = .ok (.slice (some ⟨w.heap.size, 0, none⟩) n n) (w.alloc (.cells (intsV (List.replicate n 0)).toArray 3)) := by
  have h := run_make_row' (P := Try.prog) 31 3 (.int .i64 0) 8 Try.underlying31 infoInt rfl .i64 .i64 n (by omega) (by omega) w
  have e : madeCells #[.int .i64 0] n = (intsV (List.replicate n 0)).toArray := by
    apply Array.toList_inj.1
    rw [toList_madeCells_one, List.toList_toArray]
    simp [intsV, List.map_replicate]
  rw [e] at h
  exact h
theorem own_heap {w : World} {g lo : Nat} {l : List Int} (h : w.heap[g]? = some (.cells (intsV l).toArray 3 (0, 0))) (hlo : lo ≤ g) (hl : l.length ≤ 5000) : OwnI w lo ⟨some ⟨g, 0, none⟩, l, l.length⟩ := by
  unfold OwnI TV.val
  dsimp only
  refine ⟨by rw [intsV_len, Nat.mul_one], .inr ⟨g, l.length, (intsV l).toArray, rfl, hlo, h, Nat.le_refl _, by simp [maxLen]; omega, by rw [Nat.mul_one]; simp [intsV], by rw [Nat.mul_one]; exact List.take_of_length_le (Nat.le_of_eq (intsV_len l))⟩⟩
theorem addr_add (b o j : Nat) : (⟨b, o, none⟩ : Addr).add j = ⟨b, o + j, none⟩ := by simp [Addr.add]
theorem two_bel (w : World) (o1 o2 : Obj) : Below w.heap.size w ((w.alloc o1).alloc o2) := ((Below.refl _ _).alloc (Nat.le_refl _) _).alloc (by rw [alloc1_size]; omega) _
def rpL (n k : Nat) : List Int := List.replicate k (-1) ++ List.replicate (n - k) 0
theorem rpL_len {n k : Nat} (h : k ≤ n) : (rpL n k).length = n := by unfold rpL; simp; omega
theorem rpL_splice {n k m : Nat} (h : k + m ≤ n) : splice (intsV (rpL n k)) k (intsV (List.replicate m (-1))) = intsV (rpL n (k + m)) := by
  unfold splice
  have e1 : (intsV (rpL n k)).take k = intsV (List.replicate k (-1)) := by
    unfold intsV rpL
    rw [← List.map_take, List.take_left' (by simp)]
  have e2 : (intsV (rpL n k)).drop (k + (intsV (List.replicate m (-1))).length) = intsV (List.replicate (n - (k + m)) 0) := by
    unfold intsV rpL
    rw [List.length_map, List.length_replicate, ← List.map_drop, List.drop_append, List.drop_of_length_le (by simp), List.nil_append, List.drop_replicate]
    congr 2
    simp
    omega
  rw [e1, e2]
  unfold intsV rpL
  rw [← List.map_append, ← List.map_append, ← List.append_assoc, List.replicate_append_replicate]
theorem mul_one (n : Nat) (h : n ≤ 5000) (w : World) : Calls Try.prog 107 #[.int .u64 1, .int .u64 (n : Int)] w fun e w' => e = .returned (.tuple #[.int .u64 0, .int .u64 (n : Int)]) ∧ w = w' := by
  have hc := Any.bits_Mul (P := Try.prog) Try.laysMul 1 n (by omega) (by omega) w
  rw [Nat.one_mul, Nat.div_eq_of_lt (by omega), Nat.mod_eq_of_lt (by omega)] at hc
  exact hc.mono fun e w' h => ⟨h.1, h.2.symm⟩
set_option maxRecDepth 100000 in
set_option maxHeartbeats 4000000 in
theorem repeat_any (w : World) (g0 n : Nat) (hc : w.cell? ⟨g0, 0, none⟩ = some (.int .i64 (-1))) (hg0 : g0 < w.heap.size) (hn : n ≤ 5000) :
    Calls Try.prog 89 #[.slice (some ⟨g0, 0, none⟩) 1 1, .int .i64 (n : Int)] w (NwPost w (List.replicate n (-1))) := by
  have hmul := mul_one n hn w
  have hmk := makeN n (by omega) w
  have HM := Lib.hid hmul
  have hb1 := (Below.refl w.heap.size w).alloc (Nat.le_refl _) (.cells (intsV (List.replicate n 0)).toArray 3)
  have hg1 := heap_alloc_new w (.cells (intsV (List.replicate n 0)).toArray 3)
  have hsrc := (hb1.cell (p := ⟨g0, 0, none⟩) hg0).trans hc
  have e0 : (List.replicate n (0 : Int)) = rpL n 0 := by unfold rpL; simp
  rw [e0] at hg1 hb1 hsrc hmk
  have H1 := Lib.hid (And.intro hb1 (And.intro hg1 hsrc))
  clear hmul hb1 hg1 hsrc hc e0
  have hcl : (intsV (List.replicate (min 1 n) (-1))).length = Nat.min 1 n := by rw [intsV_len, List.length_replicate]
  have hsr : ∀ j u, (intsV (List.replicate (min 1 n) (-1)))[j]? = some u → (w.alloc (.cells (intsV (rpL n 0)).toArray 3)).cell? ((⟨g0, 0, none⟩ : Addr).add j) = some u := by
    intro j u hu
    unfold intsV at hu
    rw [List.getElem?_map, List.getElem?_replicate] at hu
    split at hu
    · have hj : j = 0 := by omega
      subst hj
      injection hu with hu
      rw [← hu]
      exact H1.out.2.2
    · cases hu
  have HCL := Lib.hid (And.intro hcl hsr)
  have hfit0 : 0 + (intsV (List.replicate (min 1 n) (-1))).length ≤ (intsV (rpL n 0)).length := by rw [intsV_len, intsV_len, List.length_replicate, rpL_len (Nat.zero_le _)]; omega
  have hsp := rpL_splice (n := n) (k := 0) (m := min 1 n) (by omega)
  obtain ⟨cs, hcs⟩ : ∃ cs, cs = intsV (List.replicate (min 1 n) (-1)) := ⟨_, rfl⟩
  have h1c : ∀ v ∈ cs, v.oneCell' = true := by rw [hcs]; exact intsV_one _
  rw [← hcs] at HCL hfit0 hsp
  have HCS0 := Lib.hid (And.intro h1c (And.intro hfit0 hsp))
  clear hcl hsr hfit0 hsp hcs h1c
  go_enter Try.func89, Try.ntmps89
  go_upto_region 7 with (go_at_call 107; (with_reducible refine HM.out.mono ?_); rintro e w1 ⟨rfl, rfl⟩)
  clear hmk
  generalize hW : w.alloc (.cells (intsV (rpL n 0)).toArray 3) = w2 at H1 HCL ⊢
  clear hW
  go_upto_region 8 with (refine wpList_copy_splice rfl (.tmp 31) (.tmp 32) _ _ rfl 3 Try.underlying31 (by kernel_rfl) (some ⟨w.heap.size, 0, none⟩) (some ⟨g0, 0, none⟩) n n 1 1 rfl rfl w.heap.size 0 (intsV (rpL n 0)) 3 H1.out.2.1 cs HCL.out.1 (fun _ => ⟨rfl, _, rfl, HCL.out.2⟩) HCS0.out.2.1 HCS0.out.1 w.heap.size w H1.out.1 (Nat.le_refl _) ?_; intro w3 hg3 hb3)
  have hcl : cs.length = min 1 n := HCL.out.1
  have hg3' := hg3.out
  rw [HCS0.out.2.2, Nat.zero_add] at hg3'
  have H3 := Lib.hid (And.intro hg3' hb3)
  rw [hcl]
  clear hg3 hg3' hb3 HCL HCS0 H1 hcl HM
  go_loopw [8] (fun k wr => ∃ m : Nat, m ≤ n ∧ (n = 0 ∨ 0 < m) ∧ k = .int .i64 (m : Int) ∧ Hid (wr.heap[w.heap.size]? = some (.cells (intsV (rpL n m)).toArray 3 (0, 0)) ∧ Below w.heap.size w wr)) (fun k _ => n - (intOf k).toNat)
  case atStart => exact ⟨min 1 n, by omega, by omega, rfl, H3⟩
  case round =>
    obtain ⟨m, hm, hm0, rfl, hrel⟩ := hrel
    by_cases hlt : m < n
    · have hlI : (m : Int) < (n : Int) := by omega
      have hleI : (m : Int) ≤ (n : Int) := by omega
      have hnm : ¬ n = m := by omega
      have hmpos : 0 < m := by omega
      obtain ⟨c, hc⟩ : ∃ c, c = Nat.min m (n - m) := ⟨_, rfl⟩
      have hcm : c ≤ m ∧ m + c ≤ n ∧ 0 < c := by rw [hc]; show min m (n - m) ≤ m ∧ m + min m (n - m) ≤ n ∧ 0 < min m (n - m); omega
      have hfit : m + (intsV (List.replicate c (-1))).length ≤ (intsV (rpL n m)).length := by rw [intsV_len, intsV_len, List.length_replicate, rpL_len hm]; omega
      have hsp := rpL_splice (n := n) (k := m) (m := c) (by omega)
      have hsr : ∀ j u, (intsV (List.replicate c (-1)))[j]? = some u → wr.drew.cell? ((⟨w.heap.size, 0, none⟩ : Addr).add j) = some u := by
        intro j u hu
        have hj : j < c := by
          have := (List.getElem?_eq_some_iff.1 hu).1
          rwa [intsV_len, List.length_replicate] at this
        have hg := hrel.out.1
        have hat : (intsV (rpL n m))[j]? = some (.int .i64 (-1)) := by
          unfold intsV rpL
          rw [List.getElem?_map, List.getElem?_append_left (by simp; omega), List.getElem?_replicate, if_pos (by omega)]
          rfl
        have hu2 : u = .int .i64 (-1) := by
          unfold intsV at hu
          rw [List.getElem?_map, List.getElem?_replicate, if_pos hj] at hu
          injection hu with hu
          exact hu.symm
        rw [hu2]
        have := cell_of_row wr w.heap.size j _ _ _ hg
        rw [List.getElem?_toArray, hat] at this
        rw [addr_add, Nat.zero_add]
        exact this
      obtain ⟨cs, hcs⟩ : ∃ cs, cs = intsV (List.replicate c (-1)) := ⟨_, rfl⟩
      rw [← hcs] at hfit hsp hsr
      have HCS := Lib.hid (And.intro hcs (And.intro (show cs.length = Nat.min m (n - m) from by rw [hcs, intsV_len, List.length_replicate, hc]) (And.intro hfit (And.intro (show ∀ v ∈ cs, v.oneCell' = true from by rw [hcs]; exact intsV_one _) (And.intro (show cs.length = c from by rw [hcs, intsV_len, List.length_replicate]) hsr)))))
      have HR := Lib.hid (And.intro (show wr.drew.heap[w.heap.size]? = _ from hrel.out.1) (hrel.out.2.trans (lower' (Below.refl _ _).drew hrel.out.2.size)))
      have HSP := Lib.hid hsp
      have hcI : (m : Int) + (c : Int) ≤ 5000 := by omega
      have hwr : IntKind.i64.wrap ((m : Int) + (c : Int)) = (m : Int) + (c : Int) := IntWalk.i64_in _ (by omega)
      clear hfit hsp hsr hcs hrel hc
      go_upto_region 9 with (fail)
      refine wp_region_M (fun _ => true) (fun _ => True) (by kernel_rfl) ?_
      refine wpAnyM_take (i := 0) (v := ?_) rfl (by kernel_rfl) (by kernel_rfl) (by kernel_rfl) (by kernel_rfl) (fun _ _ _ h => h) (Or.inl ⟨by rfl, ?_⟩) trivial ?_
      rotate_left
      · intro w hSw; (try dsimp only at hSw); go_simp; (try with_reducible rfl)
      simp only [Act.put, List.getElem_toArray, List.getElem_cons_zero, List.getElem_cons_succ, List.setIfInBounds_toArray, List.set_cons_zero, List.set_cons_succ]
      refine wpAnyM_take (i := 1) (v := ?_) rfl (by kernel_rfl) (by kernel_rfl) (by kernel_rfl) (by kernel_rfl) (fun _ _ _ h => h) (Or.inl ⟨by rfl, ?_⟩) trivial ?_
      rotate_left
      · intro w hSw; (try dsimp only at hSw); go_simp; (try with_reducible rfl)
      simp only [Act.put, List.getElem_toArray, List.getElem_cons_zero, List.getElem_cons_succ, List.setIfInBounds_toArray, List.set_cons_zero, List.set_cons_succ]
      refine wpAnyM_take (i := 2) (v := ?_) rfl (by kernel_rfl) (by kernel_rfl) (by kernel_rfl) (by kernel_rfl) (fun _ _ _ h => h) (Or.inl ⟨by rfl, ?_⟩) trivial ?_
      rotate_left
      · intro w hSw; (try dsimp only at hSw); go_simp; (try with_reducible rfl)
      simp only [Act.put, List.getElem_toArray, List.getElem_cons_zero, List.getElem_cons_succ, List.setIfInBounds_toArray, List.set_cons_zero, List.set_cons_succ]
      refine wpAnyM_take (i := 3) (v := ?_) rfl (by kernel_rfl) (by kernel_rfl) (by kernel_rfl) (by kernel_rfl) (fun _ _ _ h => h) (Or.inl ⟨by rfl, ?_⟩) trivial ?_
      rotate_left
      · intro w hSw; (try dsimp only at hSw); go_simp; (try with_reducible rfl)
      simp only [Act.put, List.getElem_toArray, List.getElem_cons_zero, List.getElem_cons_succ, List.setIfInBounds_toArray, List.set_cons_zero, List.set_cons_succ]
      refine wpAnyM_take (i := 4) (v := ?_) rfl (by kernel_rfl) (by kernel_rfl) (by kernel_rfl) (by kernel_rfl) (fun _ _ _ h => h) (Or.inl ⟨by rfl, ?_⟩) trivial ?_
      rotate_left
      · intro w hSw; (try dsimp only at hSw); go_simp; (try with_reducible rfl)
      simp only [Act.put, List.getElem_toArray, List.getElem_cons_zero, List.getElem_cons_succ, List.setIfInBounds_toArray, List.set_cons_zero, List.set_cons_succ]
      refine wpAnyM_take (i := 5) (v := ?_) rfl (by kernel_rfl) (by kernel_rfl) (by kernel_rfl) (by kernel_rfl) (fun _ _ _ h => h) (Or.inl ⟨by rfl, ?_⟩) trivial ?_
      rotate_left
      · intro w hSw; (try dsimp only at hSw); go_simp; (try with_reducible rfl)
      simp only [Act.put, List.getElem_toArray, List.getElem_cons_zero, List.getElem_cons_succ, List.setIfInBounds_toArray, List.set_cons_zero, List.set_cons_succ]
      refine wpAnyM_take (i := 6) (v := ?_) rfl (by kernel_rfl) (by kernel_rfl) (by kernel_rfl) (by kernel_rfl) (fun _ _ _ h => h) (Or.inl ⟨by rfl, ?_⟩) trivial ?_
      rotate_left
      · intro w hSw; (try dsimp only at hSw); go_simp; (try with_reducible rfl)
      simp only [Act.put, List.getElem_toArray, List.getElem_cons_zero, List.getElem_cons_succ, List.setIfInBounds_toArray, List.set_cons_zero, List.set_cons_succ]
      refine wpAnyM_one (i := 7) (by kernel_rfl) rfl (fun K hK => ?_)
      refine step_copy_splice rfl (.tmp 41) (.tmp 44) _ _ rfl 3 Try.underlying31 (by kernel_rfl) (some ⟨w.heap.size, m, none⟩) (some ⟨w.heap.size, 0, none⟩) (n - m) (n - m) m n rfl rfl w.heap.size m (intsV (rpL n m)) 3 HR.out.1 cs HCS.out.2.1 (fun _ => ⟨rfl, _, rfl, HCS.out.2.2.2.2.2⟩) HCS.out.2.2.1 HCS.out.2.2.2.1 w.heap.size w HR.out.2 (Nat.le_refl _) ?_
      intro w4 hg4 hb4
      rw [HCS.out.2.2.2.2.1]
      refine hK.out _ _ (fun _ => trivial) ?_
      clear hK K
      refine wpAnyM_one (i := 8) (by kernel_rfl) rfl (fun K hK => ?_)
      go_simp
      refine hK.out _ _ (fun _ => trivial) ?_
      clear hK K
      refine wpAnyM_one (i := 9) (by kernel_rfl) rfl (fun K hK => ?_)
      go_simp
      refine hK.out _ _ (fun _ => trivial) ?_
      clear hK K
      refine wpAnyM_done (by kernel_rfl) ?_ _
      have hg5 := hg4.out
      rw [HSP.out] at hg5
      have H5 := Lib.hid (And.intro hg5 hb4)
      clear hg4 hg5 hb4
      go_wp2_with (fail)
      go_roundw
      case rel => exact ⟨m + c, by omega, by omega, by go_num, H5⟩
      case measure => simp [intOf]; omega
    · have hlI : ¬ (m : Int) < (n : Int) := by omega
      obtain rfl : m = n := by omega
      have hown := own_heap (lo := w.heap.size) hrel.out.1 (Nat.le_refl _) (by rw [rpL_len (Nat.le_refl _)]; omega)
      rw [rpL_len (Nat.le_refl _)] at hown
      have hrp : rpL m m = List.replicate m (-1) := by unfold rpL; simp
      rw [hrp] at hown
      have HF := Lib.hid (And.intro hown hrel.out.2)
      clear hown hrp hrel
      go_wp2_with (fail)
      go_ret
      exact ⟨⟨some ⟨w.heap.size, 0, none⟩, List.replicate m (-1), m⟩, by simp, rfl, HF.out.1, HF.out.2⟩
/-- span.unknown. -/
theorem unknown_any (x : RV) (w : World) (hx : x.Ok w) : Calls Try.prog 67 #[.agg (rvA x)] w (NwPost w (List.replicate x.N.length (-1))) := by
  have hb1 := two_bel w (.cells (rvA x) 76) (.cells #[.int .i64 (-1)] 3)
  have hg1 := heap_alloc_new w (.cells (rvA x) 76)
  have hg2 := heap_alloc_new (w.alloc (.cells (rvA x) 76)) (.cells #[.int .i64 (-1)] 3)
  rw [alloc1_size] at hg2
  have hg1' : ((w.alloc (.cells (rvA x) 76)).alloc (.cells #[.int .i64 (-1)] 3)).heap[w.heap.size]? = some (.cells (rvA x) 76 (0, 0)) := (((Below.refl _ _).alloc (Nat.le_refl _) _).block w.heap.size (by simp)).trans hg1
  obtain ⟨q0, -, -⟩ := bx3 hg1'
  have hr := repeat_any _ (w.heap.size + 1) x.N.length (cell_of_row _ _ 0 _ _ _ hg2) (heap_lt hg2) hx.nd.sm
  have hns : x.N.length ≤ 5000 := hx.nd.sm
  unfold rvA at hb1 q0 hr ⊢
  have HB := Lib.hid hb1
  have HR := Lib.hid hr
  clear hx hb1 hg1 hg2 hg1' hr
  go_enter Try.func67, Try.ntmps67
  go_wp2_with (go_at_call 89; (with_reducible refine HR.out.mono ?_); rintro e w2 ⟨u, rfl, h2, o2, b2⟩; have H2 := Lib.hid (And.intro h2 (And.intro o2 b2)); clear h2 o2 b2)
  go_ret
  exact ⟨u, rfl, H2.out.1, own_mono H2.out.2.1 HB.out.size, HB.out.trans (lower' H2.out.2.2 HB.out.size)⟩
end Go.Proofs.Ytmldiojlglpoiaa
/- Rows of rows of numbers. -/
namespace Go.Proofs.Ytmldiojlglpoiaa
open Go.RowKit Go.Maps Go.Sort

theorem infoRow : (Try.prog.info? 31).map (fun i => (i.zero, i.size, i.bytes)) = some (some (.slice none 0 0), 1, 24) := by kernel_rfl
/-- A row of rows of numbers, all of the call's own. -/
structure Nest (w : World) (lo g : Nat) (us : List TV) : Prop where
  row : w.ownsRow lo 31 1 (.slice (some ⟨g, 0, none⟩) us.length us.length) us.length (vals us)
  tup : ∀ t ∈ us, OwnI w lo t
  off : us.Pairwise Off
theorem Nest.kept {w w' : World} {lo g : Nat} {us : List TV} (h : Nest w lo g us) (hb : Below w.heap.size w w') : Nest w' lo g us := ⟨own_below h.row hb (Nat.le_refl _), fun t ht => (h.tup t ht).below hb, h.off⟩
theorem Nest.cell {w : World} {lo g : Nat} {us : List TV} (h : Nest w lo g us) {i : Nat} (hi : i < us.length) : w.cell? ⟨g, i, none⟩ = some (.slice us[i].A us[i].l.length us[i].c) ∧ w.frozen? ⟨g, i, none⟩ = false := by
  refine ⟨?_, World.ownsRow.frozenAt h.row i⟩
  rw [World.ownsRow.cellAt h.row i (by omega)]
  simp [vals, TV.val, hi]
theorem Nest.lt {w : World} {lo g : Nat} {us : List TV} (h : Nest w lo g us) : lo ≤ g ∧ g < w.heap.size := World.ownsRow.lt h.row g (by simp [Value.ownBlock])
theorem Nest.ok {w : World} {lo g : Nat} {us : List TV} (h : Nest w lo g us) (hl : ∀ t ∈ us, t.l.length ≤ 5000) (hs : us.length ≤ 5000) : LV.Ok w ⟨some ⟨g, 0, none⟩, us, us.length⟩ := by
  obtain ⟨A, c, e, _, _, hrd⟩ := own_shape h.row
  injection e with e1 e2 e3
  subst e1 e3
  exact ⟨hrd, fun t ht => (h.tup t ht).ok (hl t ht), Nat.le_refl _, hs⟩
theorem row_neq {w : World} {base size n b : Nat} {e t : TypeId} {v : Value} {xs : List Value} {cs : Array Value} {fr : Nat × Nat} (h : w.ownsRow base e size v n xs) (hb : w.heap[b]? = some (.cells cs t fr)) (hne : e ≠ t) : b ∉ v.ownBlock.toList := by
  intro hs
  rcases h.2 with ⟨hv, _⟩ | ⟨g, cap, cur, hv, _, hg, _⟩
  · rw [hv] at hs; simp [Value.ownBlock] at hs
  · rw [hv] at hs
    simp [Value.ownBlock] at hs
    subst hs
    rw [hg] at hb
    injection hb with hb
    injection hb with _ h2
    exact hne h2
theorem blk_at (t : TV) (b : Nat) : b ∈ t.val.ownBlock.toList ↔ ∃ a, t.A = some a ∧ a.block = b := by
  unfold TV.val
  rcases t.A with _ | a
  · simp [Value.ownBlock]
  · simp only [Value.ownBlock, Option.toList, List.mem_singleton, Option.some.injEq]
    exact ⟨fun h => ⟨a, rfl, h.symm⟩, fun ⟨a', e, h⟩ => by rw [e, h]⟩
/-- A row in it is put anew: it has grown in its own block, or has a new one. -/
theorem Nest.put {w w1 : World} {lo g : Nat} {us : List TV} {u : TV} {i : Nat} (h : Nest w lo g us) (hi : i < us.length) (hou : OwnI w1 lo u) (hf : Fr w w1 us[i].val.ownBlock.toList) (hat : ∀ b ∈ u.val.ownBlock.toList, b ∈ us[i].val.ownBlock.toList ∨ w.heap.size ≤ b) :
    (w1.cell? ⟨g, i, none⟩ = some (.slice us[i].A us[i].l.length us[i].c) ∧ w1.frozen? ⟨g, i, none⟩ = false) ∧ Nest (w1.setCell ⟨g, i, none⟩ (.slice u.A u.l.length u.c)) lo g (us.set i u) ∧ Fr w (w1.setCell ⟨g, i, none⟩ (.slice u.A u.l.length u.c)) (g :: us[i].val.ownBlock.toList) := by
  have hti := h.tup _ (List.getElem_mem hi)
  have hrow1 := rowFrS h.row hf fun s hs hms => own_apart hti h.row (by decide) s hms hs
  have h1j : ∀ j (hj : j < us.length), j ≠ i → OwnI w1 lo us[j] := fun j hj hne => (h.tup _ (List.getElem_mem hj)).fr hf fun a ha hms => by
    obtain ⟨a', ha', hb'⟩ := (blk_at us[i] a.block).1 hms
    exact off_get h.off hi hj (Ne.symm hne) a' a ha' ha hb'
  obtain ⟨hst, hgr⟩ := World.ownsRow.stored hrow1 i u.val
  have hf2 := Fr.of_grown hgr
  have hapart : ∀ t : TV, OwnI w1 lo t → ∀ a, t.A = some a → a.block ∉ [g] := fun t ht a ha hms =>
    own_apart ht hrow1 (by decide) a.block ((blk_at t a.block).2 ⟨a, ha, rfl⟩) (by rw [List.mem_singleton.1 hms]; simp [Value.ownBlock])
  refine ⟨⟨?_, World.ownsRow.frozenAt hrow1 i⟩, ⟨?_, fun t ht => ?_, off_set h.off hi fun j hj hne => ?_⟩, (hf.mono (fun x hx => List.mem_cons_of_mem _ hx)).trans (hf2.mono (fun x hx => by rw [List.mem_singleton.1 hx]; exact List.mem_cons_self ..))⟩
  · rw [World.ownsRow.cellAt hrow1 i (by omega)]
    simp [vals, TV.val, hi]
  · rw [List.length_set, vals_set]
    exact hst
  · rcases mem_set_ix hi ht with rfl | ⟨j, hj, hne, rfl⟩
    · exact hou.fr hf2 (hapart _ hou)
    · exact (h1j j hj hne).fr hf2 (hapart _ (h1j j hj hne))
  · intro a b ha hb e
    rcases hat a.block ((blk_at u a.block).2 ⟨a, ha, rfl⟩) with e1 | e1
    · obtain ⟨a', ha', hb'⟩ := (blk_at us[i] a.block).1 e1
      exact off_get h.off hi hj (Ne.symm hne) a' b ha' hb (by rw [hb', e])
    · have h3 := ((h.tup _ (List.getElem_mem hj)).lo b hb).2
      omega
/-- What a put leaves alone. -/
theorem Nest.frame {w w' : World} {lo g g2 : Nat} {us vs : List TV} {i : Nat} (h : Nest w lo g us) (k : Nest w lo g2 vs) (hi : i < us.length) (hne : g2 ≠ g) (hoff : ∀ t ∈ us, ∀ u ∈ vs, Off t u) (hf : Fr w w' (g :: us[i].val.ownBlock.toList)) : Nest w' lo g2 vs := by
  have hti := h.tup _ (List.getElem_mem hi)
  refine ⟨rowFrS k.row hf fun s hs hm => ?_, fun t ht => (k.tup t ht).fr hf fun a ha hm => ?_, k.off⟩
  · simp [Value.ownBlock] at hs
    subst hs
    rcases List.mem_cons.1 hm with e | hm
    · exact hne e
    · exact own_apart hti k.row (by decide) s hm (by simp [Value.ownBlock])
  · rcases List.mem_cons.1 hm with e | hm
    · exact own_apart (k.tup t ht) h.row (by decide) a.block ((blk_at t a.block).2 ⟨a, ha, rfl⟩) (by rw [e]; simp [Value.ownBlock])
    · obtain ⟨a', ha', hb'⟩ := (blk_at us[i] a.block).1 hm
      exact hoff _ (List.getElem_mem hi) t ht a' a ha' ha hb'
theorem Nest.low {w w' : World} {lo g : Nat} {us : List TV} {i : Nat} (h : Nest w lo g us) (hi : i < us.length) (hlo : lo ≤ w.heap.size) (hf : Fr w w' (g :: us[i].val.ownBlock.toList)) : Below lo w w' :=
  hf.below hlo fun s hs => by
    rcases List.mem_cons.1 hs with e | hs
    · rw [e]; exact h.lt.1
    · obtain ⟨a, ha, hb⟩ := (blk_at us[i] s).1 hs
      rw [← hb]
      exact ((h.tup _ (List.getElem_mem hi)).lo a ha).1
/-- A box of another type stays. -/
theorem Nest.box {w w' : World} {lo g b : Nat} {us : List TV} {i : Nat} {cs : Array Value} {t : TypeId} {fr : Nat × Nat} (h : Nest w lo g us) (hi : i < us.length) (hb : w.heap[b]? = some (.cells cs t fr)) (h1 : 31 ≠ t) (h2 : 3 ≠ t) (hf : Fr w w' (g :: us[i].val.ownBlock.toList)) : w'.heap[b]? = some (.cells cs t fr) := by
  refine (hf.block b (heap_lt hb) fun hm => ?_).trans hb
  rcases List.mem_cons.1 hm with e | hm
  · exact row_neq h.row hb h1 (by rw [e]; simp [Value.ownBlock])
  · exact row_neq (h.tup _ (List.getElem_mem hi)) hb h2 hm
/-- Two of them, apart. -/
structure Two2 (w : World) (lo og ig : Nat) (os is : List TV) : Prop where
  o : Nest w lo og os
  i : Nest w lo ig is
  ne : og ≠ ig
  off : ∀ t ∈ os, ∀ u ∈ is, Off t u
theorem Two2.symm {w : World} {lo og ig : Nat} {os is : List TV} (h : Two2 w lo og ig os is) : Two2 w lo ig og is os := ⟨h.i, h.o, h.ne.symm, fun t ht u hu => (h.off u hu t ht).symm⟩
theorem Two2.kept {w w' : World} {lo og ig : Nat} {os is : List TV} (h : Two2 w lo og ig os is) (hb : Below w.heap.size w w') : Two2 w' lo og ig os is := ⟨h.o.kept hb, h.i.kept hb, h.ne, h.off⟩
theorem Two2.put {w w1 : World} {lo og ig : Nat} {os is : List TV} {u : TV} {i : Nat} (h : Two2 w lo og ig os is) (hi : i < os.length) (hlo : lo ≤ w.heap.size) (hou : OwnI w1 lo u) (hf : Fr w w1 os[i].val.ownBlock.toList) (hat : ∀ b ∈ u.val.ownBlock.toList, b ∈ os[i].val.ownBlock.toList ∨ w.heap.size ≤ b) :
    (w1.cell? ⟨og, i, none⟩ = some (.slice os[i].A os[i].l.length os[i].c) ∧ w1.frozen? ⟨og, i, none⟩ = false) ∧ Two2 (w1.setCell ⟨og, i, none⟩ (.slice u.A u.l.length u.c)) lo og ig (os.set i u) is ∧ Below lo w (w1.setCell ⟨og, i, none⟩ (.slice u.A u.l.length u.c)) ∧ (∀ {b : Nat} {cs : Array Value} {t : TypeId} {fr : Nat × Nat}, w.heap[b]? = some (.cells cs t fr) → 31 ≠ t → 3 ≠ t → (w1.setCell ⟨og, i, none⟩ (.slice u.A u.l.length u.c)).heap[b]? = some (.cells cs t fr)) := by
  obtain ⟨h1, h2, h3⟩ := h.o.put hi hou hf hat
  refine ⟨h1, ⟨h2, h.o.frame h.i hi h.ne.symm h.off h3, h.ne, fun t ht v hv => ?_⟩, h.o.low hi hlo h3, fun hb e1 e2 => h.o.box hi hb e1 e2 h3⟩
  rcases mem_set_ix hi ht with rfl | ⟨j, hj, _, rfl⟩
  · intro a b ha hb e
    rcases hat a.block ((blk_at t a.block).2 ⟨a, ha, rfl⟩) with e1 | e1
    · obtain ⟨a', ha', hb'⟩ := (blk_at os[i] a.block).1 e1
      exact h.off _ (List.getElem_mem hi) v hv a' b ha' hb (by rw [hb', e])
    · have h3 := ((h.i.tup v hv).lo b hb).2
      omega
  · exact h.off _ (List.getElem_mem hj) v hv
/-- A number more at the end of a row. -/
theorem Two2.app {w : World} {lo og ig : Nat} {os is : List TV} {i : Nat} (h : Two2 w lo og ig os is) (hi : i < os.length) (hlo : lo ≤ w.heap.size) (x : Int) (hl : os[i].l.length ≤ 5000) :
    ∃ u : TV, ∃ w1, (Builtin.append_ #[31, 31] 31 #[.slice os[i].A os[i].l.length os[i].c, .slice (some ⟨w.heap.size, 0, none⟩) 1 1]).run Try.prog (w.alloc (.cells #[.int .i64 x] 3)) = .ok (.slice u.A u.l.length u.c) w1 ∧ u.l = os[i].l ++ [x] ∧
      (w1.cell? ⟨og, i, none⟩ = some (.slice os[i].A os[i].l.length os[i].c) ∧ w1.frozen? ⟨og, i, none⟩ = false) ∧ Two2 (w1.setCell ⟨og, i, none⟩ (.slice u.A u.l.length u.c)) lo og ig (os.set i u) is ∧ Below lo w (w1.setCell ⟨og, i, none⟩ (.slice u.A u.l.length u.c)) ∧ (∀ {b : Nat} {cs : Array Value} {t : TypeId} {fr : Nat × Nat}, w.heap[b]? = some (.cells cs t fr) → 31 ≠ t → 3 ≠ t → (w1.setCell ⟨og, i, none⟩ (.slice u.A u.l.length u.c)).heap[b]? = some (.cells cs t fr)) ∧ Below w.heap.size w (w.alloc (.cells #[.int .i64 x] 3)) ∧ (∀ {b : Nat} {cs : Array Value} {t : TypeId} {fr : Nat × Nat}, w.heap[b]? = some (.cells cs t fr) → 3 ≠ t → w1.heap[b]? = some (.cells cs t fr)) := by
  have hti := h.o.tup _ (List.getElem_mem hi)
  obtain ⟨u, w1, hrun, hul, hou, hfr, hat, _⟩ := run_appN w lo os[i] [x] hti hlo (by simp; omega)
  have hb1 : Below w.heap.size w (w.alloc (.cells #[.int .i64 x] 3)) := (Below.refl _ _).alloc (Nat.le_refl _) _
  have hf : Fr w w1 os[i].val.ownBlock.toList := (Fr.of_below hb1 _).trans hfr
  have hat' : ∀ b ∈ u.val.ownBlock.toList, b ∈ os[i].val.ownBlock.toList ∨ w.heap.size ≤ b := fun b hb => by
    rcases hat with e | e
    · rw [e] at hb; exact .inl hb
    · rw [e] at hb
      simp at hb
      exact .inr (by omega)
  obtain ⟨h1, h2, h3, h4⟩ := h.put hi hlo hou hf hat'
  exact ⟨u, w1, hrun, hul, h1, h2, h3, h4, hb1, fun hb e => (hf.block _ (heap_lt hb) fun hm => row_neq hti hb e hm).trans hb⟩
end Go.Proofs.Ytmldiojlglpoiaa
