/- Rows of numbers in memory: sorted and each once, looked up, appended to. -/
import Derived.Test.YtmldiojlglpoiaaJnA
import Derived.Test.YtmldiojlglpoiaaJnE
import Derived.Test.YtmldiojlglpoiaaShelfI
namespace Go.Proofs.Ytmldiojlglpoiaa
open Go.RowKit Go.Maps Go.Sort

theorem compact_ris (zs : List Int) (hs : zs.Pairwise (· ≤ ·)) : RisI (Lib.compact zs) ∧ ∀ q, q ∈ Lib.compact zs ↔ q ∈ zs := by
  have hp := List.pairwise_iff_getElem.1 hs
  have hat : ∀ j (h : j < zs.length), zs.toArray[j]! = zs[j] := fun j h => by rw [getElem!_pos zs.toArray j (by simpa using h)]; simp
  have key : ∀ m, m ≤ zs.length → RisI (Lib.compactUpTo zs.toArray m) ∧ (∀ q, q ∈ Lib.compactUpTo zs.toArray m ↔ q ∈ zs.take m) ∧ ∀ q ∈ zs.take m, ∀ j (hj : j < zs.length), m - 1 ≤ j → q ≤ zs[j] := by
    intro m
    induction m with
    | zero => exact fun _ => ⟨.nil, fun q => by simp [Lib.compactUpTo], fun q hq => by simp at hq⟩
    | succ m ih =>
      intro hm
      obtain ⟨h1, h2, h3⟩ := ih (by omega)
      have hml : m < zs.length := by omega
      have htk : zs.take (m + 1) = zs.take m ++ [zs[m]] := List.take_succ_eq_append_getElem hml
      have hle : ∀ q ∈ zs.take (m + 1), ∀ j (hj : j < zs.length), m ≤ j → q ≤ zs[j] := by
        intro q hq j hj hmj
        obtain ⟨i, hi, e⟩ := List.getElem_of_mem hq
        rw [List.length_take] at hi
        rw [List.getElem_take] at e
        rw [← e]
        by_cases hij : i = j
        · subst hij; exact Int.le_refl _
        · exact hp i j (by omega) hj (by omega)
      refine ⟨?_, ?_, fun q hq j hj hmj => hle q hq j hj (by omega)⟩
      · rw [Lib.compactUpTo_succ]
        by_cases hk : Lib.keeps zs.toArray m = true
        · rw [if_pos hk]
          refine List.pairwise_append.2 ⟨h1, List.pairwise_singleton _ _, fun a ha b hb => ?_⟩
          rw [List.mem_singleton.1 hb, hat m hml]
          have ha' := (h2 a).1 ha
          unfold Lib.keeps at hk
          have hk := of_decide_eq_true hk
          rcases hk with rfl | hk
          · simp at ha'
          · have h0 : m ≠ 0 := fun e => by subst e; simp at ha'
            rw [hat m hml, hat (m - 1) (by omega)] at hk
            have k1 := h3 a ha' (m - 1) (by omega) (Nat.le_refl _)
            have k2 := hp (m - 1) m (by omega) hml (by omega)
            omega
        · rw [if_neg hk, List.append_nil]; exact h1
      · intro q
        rw [Lib.compactUpTo_succ, htk, List.mem_append, List.mem_append, h2]
        by_cases hk : Lib.keeps zs.toArray m = true
        · rw [if_pos hk, hat m hml]
        · rw [if_neg hk]
          constructor
          · rintro (h | h)
            · exact .inl h
            · cases h
          · rintro (h | h)
            · exact .inl h
            · left
              rw [List.mem_singleton.1 h]
              unfold Lib.keeps at hk
              have hk : ¬ (m = 0 ∨ zs.toArray[m]! ≠ zs.toArray[m - 1]!) := fun h => hk (decide_eq_true h)
              have h0 : m ≠ 0 := fun e => hk (.inl e)
              have he : zs.toArray[m]! = zs.toArray[m - 1]! := by
                rcases Decidable.em (zs.toArray[m]! = zs.toArray[m - 1]!) with h | h
                · exact h
                · exact absurd (.inr h) hk
              rw [hat m hml, hat (m - 1) (by omega)] at he
              rw [he]
              exact List.mem_take_iff_getElem.2 ⟨m - 1, by omega, rfl⟩
  obtain ⟨h1, h2, _⟩ := key zs.length (Nat.le_refl _)
  rw [List.take_length] at h2
  exact ⟨h1, h2⟩
/-- A row of numbers as the library's contracts want it. -/
theorem OwnI.blk {w : World} {base : Nat} {t : TV} (h : OwnI w base t) (hn : t.l.length ≠ 0) : ∃ g cur, t.A = some ⟨g, 0, none⟩ ∧ base ≤ g ∧ g < w.heap.size ∧ t.l.length ≤ t.c ∧ t.c ≤ maxLen ∧ w.heap[g]? = some (.cells cur 3 (0, 0)) ∧ cur.size = t.c ∧ cur.toList.take t.l.length = intsV t.l := by
  unfold OwnI TV.val World.ownsRow at h
  obtain ⟨h1, h2⟩ := h
  rcases h2 with ⟨_, e⟩ | ⟨g, cap', cur, hv, hb, hh, hle, hm, hs, ht⟩
  · exact absurd e hn
  · injection hv with e1 e2 e3
    subst e3
    refine ⟨g, cur, e1, hb, heap_lt hh, hle, hm, hh, by omega, by rw [Nat.mul_one] at ht; exact ht⟩
theorem OwnI.holds {w : World} {base g : Nat} {t : TV} (h : OwnI w base t) (hA : t.A = some ⟨g, 0, none⟩) (hn : t.l.length ≠ 0) : Holds (Value.int .i64) w g 0 t.l.toArray := by
  obtain ⟨g', cur, e, _, _, hle, _, hh, hs, ht⟩ := h.blk hn
  rw [hA] at e
  injection e with e
  injection e with e _ _
  subst e
  intro j hj
  have hj' : j < t.l.length := by simpa using hj
  refine ⟨?_, frozen_of_row w g _ _ _ hh⟩
  rw [Nat.zero_add, cell_of_row w g j _ _ _ hh]
  have e : cur.toList[j]? = (cur.toList.take t.l.length)[j]? := by rw [List.getElem?_take, if_pos hj']
  rw [← Array.getElem?_toList, e, ht, intsV_at t.l j hj', getElem!_pos t.l.toArray j hj]
  simp
/-- .. and back, cut to its first k. -/
theorem OwnI.put {w : World} {base g : Nat} {t : TV} (h : OwnI w base t) (hA : t.A = some ⟨g, 0, none⟩) (hn : t.l.length ≠ 0) (q : Nat) (d : List Int) (os : Array Obj) (hd : d.length = t.l.length) (k : Nat) (hk : k ≤ d.length) :
    OwnI (grow (putRow (Value.int .i64) (Sort.ahead w q) g 0 d.toArray) os) base ⟨t.A, d.take k, t.c⟩ := by
  obtain ⟨g', cur, e, hbase, hb, hle, hm, hh, hs, ht⟩ := h.blk hn
  rw [hA] at e
  injection e with e
  injection e with e _ _
  subst e
  have hlen : (d.take k).length = k := by simp; omega
  unfold OwnI TV.val
  rw [hA]
  dsimp only
  rw [hlen]
  refine ⟨by rw [intsV_len, hlen, Nat.mul_one], .inr ⟨g, t.c, putCells (Value.int .i64) 0 d.toArray cur, rfl, hbase, ?_, by omega, hm, by rw [Nat.mul_one]; simp [putCells, hs], ?_⟩⟩
  · rw [heap_grow_old _ _ (by rw [size_putRow]; exact hb)]
    simp [putRow, mapBlock, Array.getElem?_modify, onCells, Sort.ahead, hh]
  · rw [Nat.mul_one]
    apply List.ext_getElem?
    intro j
    simp only [intsV, List.getElem?_map, List.getElem?_take, Array.getElem?_toList]
    by_cases hj : j < k
    · rw [if_pos hj, if_pos hj]
      have hjd : j < d.length := by omega
      have hjc : j < cur.size := by omega
      simp only [putCells, Array.getElem?_mapIdx]
      rw [Array.getElem?_eq_getElem hjc, Option.map_some, if_pos ⟨by omega, by simp; omega⟩, Nat.sub_zero, getElem!_pos d.toArray j (by simpa using hjd)]
      rw [List.getElem?_eq_getElem hjd]
      simp
    · rw [if_neg hj, if_neg hj]; rfl
theorem fr_putI (w : World) (g n : Nat) (d : Array Int) (os : Array Obj) : Fr w (grow (putRow (Value.int .i64) (Sort.ahead w n) g 0 d) os) [g] := by
  refine ⟨rfl, rfl, rfl, ?_, fun k hk hs => ?_⟩
  · rw [size_grow, size_putRow]; exact Nat.le_add_right _ _
  · rw [heap_grow_old _ _ (by rw [size_putRow]; exact hk)]
    have hne : g ≠ k := fun e => hs (by rw [e]; exact List.mem_singleton.2 rfl)
    simp [putRow, mapBlock, Array.getElem?_modify, hne, Sort.ahead]
theorem ownBlock_at {t : TV} {g : Nat} (hA : t.A = some ⟨g, 0, none⟩) : t.val.ownBlock.toList = [g] := by unfold TV.val; rw [hA]; rfl
theorem sortI_any (w : World) (base : Nat) (t : TV) (h : OwnI w base t) (hs : t.l.length ≤ 5000) :
    Calls Try.prog 87 #[.slice t.A t.l.length t.c] w fun e w' => e = .returned (.tuple #[]) ∧ ∃ m : List Int, m.Perm t.l ∧ m.Pairwise (· ≤ ·) ∧ OwnI w' base ⟨t.A, m, t.c⟩ ∧ Fr w w' t.val.ownBlock.toList := by
  by_cases hn : t.l.length = 0
  · have h0 : t.l = [] := List.length_eq_zero_iff.1 hn
    have hc := Any.slices_Sort_int_none (P := Try.prog) Try.laysSortI t.A t.c w
    rw [hn]
    refine hc.mono ?_
    rintro e w' ⟨rfl, rfl⟩
    refine ⟨rfl, t.l, List.Perm.refl _, by rw [h0]; exact .nil, h, Fr.refl _ _⟩
  · obtain ⟨g, cur, hA, _, hb, _⟩ := h.blk hn
    have hc := Any.slices_Sort_int (P := Try.prog) Try.laysSortI g 0 t.c t.l w (h.holds hA hn) hb (by omega)
    rw [hA]
    refine hc.mono ?_
    rintro e w' ⟨rfl, n, os, rfl⟩
    have hperm := List.mergeSort_perm t.l (fun x y => decide (x ≤ y))
    have hsort := List.pairwise_mergeSort (le := fun x y : Int => decide (x ≤ y)) (fun a b c h1 h2 => by simp at h1 h2 ⊢; omega) (fun a b => by simp; omega) t.l
    generalize t.l.mergeSort (fun x y => decide (x ≤ y)) = m at hperm hsort
    have hput := h.put hA hn n m os hperm.length_eq m.length (Nat.le_refl _)
    rw [List.take_length, hA] at hput
    refine ⟨rfl, m, hperm, hsort.imp fun h => by simpa using h, hput, ?_⟩
    have hob : (TV.val t).ownBlock.toList = [g] := ownBlock_at hA
    rw [hob]
    exact fr_putI w g n m.toArray os
theorem compactI_any (w : World) (base : Nat) (t : TV) (h : OwnI w base t) (hs : t.l.length ≤ 5000) (hp : t.l.Pairwise (· ≤ ·)) :
    Calls Try.prog 88 #[.slice t.A t.l.length t.c] w fun e w' => ∃ m : List Int, e = .returned (.slice t.A m.length t.c) ∧ RisI m ∧ (∀ q, q ∈ m ↔ q ∈ t.l) ∧ OwnI w' base ⟨t.A, m, t.c⟩ ∧ Fr w w' t.val.ownBlock.toList := by
  by_cases hn : t.l.length = 0
  · have h0 : t.l = [] := List.length_eq_zero_iff.1 hn
    have hc := Any.slices_Compact_int_empty (P := Try.prog) Try.laysCompactI t.A t.c w
    rw [hn]
    refine hc.mono ?_
    rintro e w' ⟨rfl, rfl⟩
    exact ⟨t.l, by rw [hn], by rw [h0]; exact .nil, fun q => Iff.rfl, h, Fr.refl _ _⟩
  · obtain ⟨g, cur, hA, _, hb, hle, _⟩ := h.blk hn
    have hc := Any.slices_Compact_int (P := Try.prog) Try.laysCompactI g 0 t.c t.l w (h.holds hA hn) (by omega) hle
    rw [hA]
    refine hc.mono ?_
    rintro e w' ⟨rfl, q, rfl⟩
    obtain ⟨h1, h2⟩ := compact_ris t.l hp
    have hlen := nodup_len (risI_nodup h1) fun x hx => (h2 x).1 hx
    generalize Lib.compact t.l = m at h1 h2 hlen
    have hput := h.put hA hn q (m ++ List.replicate (t.l.length - m.length) 0) #[] (by rw [List.length_append, List.length_replicate]; omega) m.length (by rw [List.length_append]; omega)
    rw [grow_empty, List.take_left' rfl, hA] at hput
    refine ⟨m, rfl, h1, h2, hput, ?_⟩
    have hob : (TV.val t).ownBlock.toList = [g] := ownBlock_at hA
    rw [hob]
    have hf := fr_putI w g q (m ++ List.replicate (t.l.length - m.length) 0).toArray #[]
    rw [grow_empty] at hf
    exact hf
/-- What once answers. -/
def OcPost (w : World) (base : Nat) (t : TV) (e : Ending) (w' : World) : Prop := e = .returned (.slice t.A (onceI t.l).length t.c) ∧ OwnI w' base ⟨t.A, onceI t.l, t.c⟩ ∧ Fr w w' t.val.ownBlock.toList
set_option maxRecDepth 100000 in
set_option maxHeartbeats 1000000 in
theorem once13_any (w : World) (base : Nat) (t : TV) (h : OwnI w base t) (hs : t.l.length ≤ 5000) : Calls Try.prog 66 #[.slice t.A t.l.length t.c] w (OcPost w base t) := by
  have HS := Lib.hid (sortI_any w base t h hs)
  have HL := Lib.hid hs
  clear h hs
  go_enter Try.func66, Try.ntmps66
  go_wp2_with (first
    | (go_at_call 87; (with_reducible refine HS.out.mono ?_); rintro e w1 ⟨rfl, m, p1, s1, o1, f1⟩; have HC : Hid (Calls Try.prog 88 #[.slice t.A t.l.length t.c] w1 fun e w' => ∃ m' : List Int, e = .returned (.slice t.A m'.length t.c) ∧ RisI m' ∧ (∀ q, q ∈ m' ↔ q ∈ m) ∧ OwnI w' base ⟨t.A, m', t.c⟩ ∧ Fr w1 w' t.val.ownBlock.toList) := Lib.hid (by have hh := compactI_any w1 base ⟨t.A, m, t.c⟩ o1 (by rw [show (TV.mk t.A m t.c).l.length = t.l.length from p1.length_eq]; exact HL.out) s1; have hob : (TV.mk t.A m t.c).val.ownBlock.toList = t.val.ownBlock.toList := (by unfold TV.val; rcases t.A with _ | a <;> rfl); rw [hob] at hh; dsimp only at hh; rw [p1.length_eq] at hh; exact hh); have F1 := Lib.hid (And.intro f1 p1); clear p1 s1 o1 f1)
    | (go_at_call 88; (with_reducible refine HC.out.mono ?_); rintro e w2 ⟨m2, rfl, r2, q2, o2, f2⟩; have F2 := Lib.hid (And.intro (show m2 = onceI t.l from onceI_eq r2 fun q => (q2 q).trans F1.out.2.mem_iff) (And.intro o2 f2)); clear r2 q2 o2 f2))
  go_ret
  refine ⟨by rw [← F2.out.1]; rfl, by rw [← F2.out.1]; exact F2.out.2.1, F1.out.1.trans F2.out.2.2⟩
theorem bx3 {w : World} {b : Nat} {a0 a1 a2 : Value} {t : TypeId} (h : w.heap[b]? = some (.cells #[a0, a1, a2] t (0, 0))) : w.cell? ⟨b, 0, none⟩ = some a0 ∧ w.cell? ⟨b, 1, none⟩ = some a1 ∧ w.cell? ⟨b, 2, none⟩ = some a2 := ⟨cell_of_row _ _ 0 _ _ _ h, cell_of_row _ _ 1 _ _ _ h, cell_of_row _ _ 2 _ _ _ h⟩
/-- How many of a rising list are ahead of its p-th. -/
theorem cnt_lt : ∀ {l : List Int} {p : Nat} (_ : RisI l) (hp : p < l.length), l.countP (· < l[p]) = p
  | x :: l, 0, h, _ => by
    have hp := List.pairwise_cons.1 h
    rw [List.countP_eq_zero]
    intro a ha
    simp only [List.getElem_cons_zero, decide_eq_true_eq]
    rcases List.mem_cons.1 ha with rfl | ha
    · omega
    · have := hp.1 a ha; omega
  | x :: l, p + 1, h, hp => by
    have hq := List.pairwise_cons.1 h
    have ih := cnt_lt (l := l) (p := p) hq.2 (by simpa using hp)
    simp only [List.getElem_cons_succ]
    rw [List.countP_cons_of_pos (by simpa using hq.1 _ (List.getElem_mem (by simpa using hp))), ih]
end Go.Proofs.Ytmldiojlglpoiaa
