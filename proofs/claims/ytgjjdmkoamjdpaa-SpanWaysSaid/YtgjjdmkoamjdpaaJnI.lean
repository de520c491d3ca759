/- Joined: SpM SpN SpGB. -/
import Derived.Test.YtgjjdmkoamjdpaaJnF
import Derived.Test.YtgjjdmkoamjdpaaJnE
import Derived.Test.YtgjjdmkoamjdpaaShelfI
import Derived.Test.YtgjjdmkoamjdpaaJnG
import Derived.Test.YtgjjdmkoamjdpaaSpGA
import Derived.Test.YtgjjdmkoamjdpaaJnC
/- Rows of numbers in memory: sorted and each once, looked up, appended to. -/
namespace Go.Proofs.Ytgjjdmkoamjdpaa
open Go.RowKit Go.Maps Go.Sort

theorem compact_ris (zs : List Int) (hs : zs.Pairwise (· ≤ ·)) : RisI (Lib.compact zs) ∧ ∀ q, q ∈ Lib.compact zs ↔ q ∈ zs := by
  have hp := List.pairwise_iff_getElem.1 hs
  have hat : ∀ j (h : j < zs.length), zs.toArray[j]! = zs[j] := fun j h => by rw [getElem!_pos zs.toArray j (by simpa using h)]; simp
  have key : ∀ m, m ≤ zs.length → RisI (Lib.compactUpTo zs.toArray m) ∧ (∀ q, q ∈ Lib.compactUpTo zs.toArray m ↔ q ∈ zs.take m) ∧ ∀ q ∈ zs.take m, ∀ j (hj : j < zs.length), m - 1 ≤ j → q ≤ zs[j] := by
    intro m
    induction m with
    | zero => exact fun _ => ⟨.nil, fun q => by simp [Lib.compactUpTo], fun q hq => by simp at hq⟩
    | succ m ih =>
      intro hm
      obtain ⟨h1, h2, h3⟩ := ih (by omega)
      have hml : m < zs.length := by omega
      have htk : zs.take (m + 1) = zs.take m ++ [zs[m]] := List.take_succ_eq_append_getElem hml
      have hle : ∀ q ∈ zs.take (m + 1), ∀ j (hj : j < zs.length), m ≤ j → q ≤ zs[j] := by
        intro q hq j hj hmj
        obtain ⟨i, hi, e⟩ := List.getElem_of_mem hq
        rw [List.length_take] at hi
        rw [List.getElem_take] at e
        rw [← e]
        by_cases hij : i = j
        · subst hij; exact Int.le_refl _
        · exact hp i j (by omega) hj (by omega)
      refine ⟨?_, ?_, fun q hq j hj hmj => hle q hq j hj (by omega)⟩
      · rw [Lib.compactUpTo_succ]
        by_cases hk : Lib.keeps zs.toArray m = true
        · rw [if_pos hk]
          refine List.pairwise_append.2 ⟨h1, List.pairwise_singleton _ _, fun a ha b hb => ?_⟩
          rw [List.mem_singleton.1 hb, hat m hml]
          have ha' := (h2 a).1 ha
          unfold Lib.keeps at hk
          have hk := of_decide_eq_true hk
          rcases hk with rfl | hk
          · simp at ha'
          · have h0 : m ≠ 0 := fun e => by subst e; simp at ha'
            rw [hat m hml, hat (m - 1) (by omega)] at hk
            have k1 := h3 a ha' (m - 1) (by omega) (Nat.le_refl _)
            have k2 := hp (m - 1) m (by omega) hml (by omega)
            omega
        · rw [if_neg hk, List.append_nil]; exact h1
      · intro q
        rw [Lib.compactUpTo_succ, htk, List.mem_append, List.mem_append, h2]
        by_cases hk : Lib.keeps zs.toArray m = true
        · rw [if_pos hk, hat m hml]
        · rw [if_neg hk]
          constructor
          · rintro (h | h)
            · exact .inl h
            · cases h
          · rintro (h | h)
            · exact .inl h
            · left
              rw [List.mem_singleton.1 h]
              unfold Lib.keeps at hk
              have hk : ¬ (m = 0 ∨ zs.toArray[m]! ≠ zs.toArray[m - 1]!) := fun h => hk (decide_eq_true h)
              have h0 : m ≠ 0 := fun e => hk (.inl e)
              have he : zs.toArray[m]! = zs.toArray[m - 1]! := by
                rcases Decidable.em (zs.toArray[m]! = zs.toArray[m - 1]!) with h | h
                · exact h
                · exact absurd (.inr h) hk
              rw [hat m hml, hat (m - 1) (by omega)] at he
              rw [he]
              exact List.mem_take_iff_getElem.2 ⟨m - 1, by omega, rfl⟩
  obtain ⟨h1, h2, _⟩ := key zs.length (Nat.le_refl _)
  rw [List.take_length] at h2
  exact ⟨h1, h2⟩
/-- A row of numbers as the library's contracts want it. -/
theorem OwnI.blk {w : World} {base : Nat} {t : TV} (h : OwnI w base t) (hn : t.l.length ≠ 0) : ∃ g cur, t.A = some ⟨g, 0, none⟩ ∧ base ≤ g ∧ g < w.heap.size ∧ t.l.length ≤ t.c ∧ t.c ≤ maxLen ∧ w.heap[g]? = some (.cells cur 3 (0, 0)) ∧ cur.size = t.c ∧ cur.toList.take t.l.length = intsV t.l := by
  unfold OwnI TV.val World.ownsRow at h
  obtain ⟨h1, h2⟩ := h
  rcases h2 with ⟨_, e⟩ | ⟨g, cap', cur, hv, hb, hh, hle, hm, hs, ht⟩
  · exact absurd e hn
  · injection hv with e1 e2 e3
    subst e3
    refine ⟨g, cur, e1, hb, heap_lt hh, hle, hm, hh, by omega, by rw [Nat.mul_one] at ht; exact ht⟩
theorem OwnI.holds {w : World} {base g : Nat} {t : TV} (h : OwnI w base t) (hA : t.A = some ⟨g, 0, none⟩) (hn : t.l.length ≠ 0) : Holds (Value.int .i64) w g 0 t.l.toArray := by
  obtain ⟨g', cur, e, _, _, hle, _, hh, hs, ht⟩ := h.blk hn
  rw [hA] at e
  injection e with e
  injection e with e _ _
  subst e
  intro j hj
  have hj' : j < t.l.length := by simpa using hj
  refine ⟨?_, frozen_of_row w g _ _ _ hh⟩
  rw [Nat.zero_add, cell_of_row w g j _ _ _ hh]
  have e : cur.toList[j]? = (cur.toList.take t.l.length)[j]? := by rw [List.getElem?_take, if_pos hj']
  rw [← Array.getElem?_toList, e, ht, intsV_at t.l j hj', getElem!_pos t.l.toArray j hj]
  simp
/-- .. and back, cut to its first k. -/
theorem OwnI.put {w : World} {base g : Nat} {t : TV} (h : OwnI w base t) (hA : t.A = some ⟨g, 0, none⟩) (hn : t.l.length ≠ 0) (q : Nat) (d : List Int) (os : Array Obj) (hd : d.length = t.l.length) (k : Nat) (hk : k ≤ d.length) :
    OwnI (grow (putRow (Value.int .i64) (Sort.ahead w q) g 0 d.toArray) os) base ⟨t.A, d.take k, t.c⟩ := by
  obtain ⟨g', cur, e, hbase, hb, hle, hm, hh, hs, ht⟩ := h.blk hn
  rw [hA] at e
  injection e with e
  injection e with e _ _
  subst e
  have hlen : (d.take k).length = k := by simp; omega
  unfold OwnI TV.val
  rw [hA]
  dsimp only
  rw [hlen]
  refine ⟨by rw [intsV_len, hlen, Nat.mul_one], .inr ⟨g, t.c, putCells (Value.int .i64) 0 d.toArray cur, rfl, hbase, ?_, by omega, hm, by rw [Nat.mul_one]; simp [putCells, hs], ?_⟩⟩
  · rw [heap_grow_old _ _ (by rw [size_putRow]; exact hb)]
    simp [putRow, mapBlock, Array.getElem?_modify, onCells, Sort.ahead, hh]
  · rw [Nat.mul_one]
    apply List.ext_getElem?
    intro j
    simp only [intsV, List.getElem?_map, List.getElem?_take, Array.getElem?_toList]
    by_cases hj : j < k
    · rw [if_pos hj, if_pos hj]
      have hjd : j < d.length := by omega
      have hjc : j < cur.size := by omega
      simp only [putCells, Array.getElem?_mapIdx]
      rw [Array.getElem?_eq_getElem hjc, Option.map_some, if_pos ⟨by omega, by simp; omega⟩, Nat.sub_zero, getElem!_pos d.toArray j (by simpa using hjd)]
      rw [List.getElem?_eq_getElem hjd]
      simp
    · rw [if_neg hj, if_neg hj]; rfl
theorem fr_putI (w : World) (g n : Nat) (d : Array Int) (os : Array Obj) : Fr w (grow (putRow (Value.int .i64) (Sort.ahead w n) g 0 d) os) [g] := by
  refine ⟨rfl, rfl, rfl, ?_, fun k hk hs => ?_⟩
  · rw [size_grow, size_putRow]; exact Nat.le_add_right _ _
  · rw [heap_grow_old _ _ (by rw [size_putRow]; exact hk)]
    have hne : g ≠ k := fun e => hs (by rw [e]; exact List.mem_singleton.2 rfl)
    simp [putRow, mapBlock, Array.getElem?_modify, hne, Sort.ahead]
theorem ownBlock_at {t : TV} {g : Nat} (hA : t.A = some ⟨g, 0, none⟩) : t.val.ownBlock.toList = [g] := by unfold TV.val; rw [hA]; rfl
theorem sortI_any (w : World) (base : Nat) (t : TV) (h : OwnI w base t) (hs : t.l.length ≤ 5000) :
    Calls Try.prog 36 #[.slice t.A t.l.length t.c] w fun e w' => e = .returned (.tuple #[]) ∧ ∃ m : List Int, m.Perm t.l ∧ m.Pairwise (· ≤ ·) ∧ OwnI w' base ⟨t.A, m, t.c⟩ ∧ Fr w w' t.val.ownBlock.toList := by
  by_cases hn : t.l.length = 0
  · have h0 : t.l = [] := List.length_eq_zero_iff.1 hn
    have hc := Any.slices_Sort_int_none (P := Try.prog) Try.laysSortI t.A t.c w
    rw [hn]
    refine hc.mono ?_
    rintro e w' ⟨rfl, rfl⟩
    refine ⟨rfl, t.l, List.Perm.refl _, by rw [h0]; exact .nil, h, Fr.refl _ _⟩
  · obtain ⟨g, cur, hA, _, hb, _⟩ := h.blk hn
    have hc := Any.slices_Sort_int (P := Try.prog) Try.laysSortI g 0 t.c t.l w (h.holds hA hn) hb (by omega)
    rw [hA]
    refine hc.mono ?_
    rintro e w' ⟨rfl, n, os, rfl⟩
    have hperm := List.mergeSort_perm t.l (fun x y => decide (x ≤ y))
    have hsort := List.pairwise_mergeSort (le := fun x y : Int => decide (x ≤ y)) (fun a b c h1 h2 => by simp at h1 h2 ⊢; omega) (fun a b => by simp; omega) t.l
    generalize t.l.mergeSort (fun x y => decide (x ≤ y)) = m at hperm hsort
    have hput := h.put hA hn n m os hperm.length_eq m.length (Nat.le_refl _)
    rw [List.take_length, hA] at hput
    refine ⟨rfl, m, hperm, hsort.imp fun h => by simpa using h, hput, ?_⟩
    have hob : (TV.val t).ownBlock.toList = [g] := ownBlock_at hA
    rw [hob]
    exact fr_putI w g n m.toArray os
theorem compactI_any (w : World) (base : Nat) (t : TV) (h : OwnI w base t) (hs : t.l.length ≤ 5000) (hp : t.l.Pairwise (· ≤ ·)) :
    Calls Try.prog 37 #[.slice t.A t.l.length t.c] w fun e w' => ∃ m : List Int, e = .returned (.slice t.A m.length t.c) ∧ RisI m ∧ (∀ q, q ∈ m ↔ q ∈ t.l) ∧ OwnI w' base ⟨t.A, m, t.c⟩ ∧ Fr w w' t.val.ownBlock.toList := by
  by_cases hn : t.l.length = 0
  · have h0 : t.l = [] := List.length_eq_zero_iff.1 hn
    have hc := Any.slices_Compact_int_empty (P := Try.prog) Try.laysCompactI t.A t.c w
    rw [hn]
    refine hc.mono ?_
    rintro e w' ⟨rfl, rfl⟩
    exact ⟨t.l, by rw [hn], by rw [h0]; exact .nil, fun q => Iff.rfl, h, Fr.refl _ _⟩
  · obtain ⟨g, cur, hA, _, hb, hle, _⟩ := h.blk hn
    have hc := Any.slices_Compact_int (P := Try.prog) Try.laysCompactI g 0 t.c t.l w (h.holds hA hn) (by omega) hle
    rw [hA]
    refine hc.mono ?_
    rintro e w' ⟨rfl, q, rfl⟩
    obtain ⟨h1, h2⟩ := compact_ris t.l hp
    have hlen := nodup_len (risI_nodup h1) fun x hx => (h2 x).1 hx
    generalize Lib.compact t.l = m at h1 h2 hlen
    have hput := h.put hA hn q (m ++ List.replicate (t.l.length - m.length) 0) #[] (by rw [List.length_append, List.length_replicate]; omega) m.length (by rw [List.length_append]; omega)
    rw [grow_empty, List.take_left' rfl, hA] at hput
    refine ⟨m, rfl, h1, h2, hput, ?_⟩
    have hob : (TV.val t).ownBlock.toList = [g] := ownBlock_at hA
    rw [hob]
    have hf := fr_putI w g q (m ++ List.replicate (t.l.length - m.length) 0).toArray #[]
    rw [grow_empty] at hf
    exact hf
/-- What once answers. -/
def OcPost (w : World) (base : Nat) (t : TV) (e : Ending) (w' : World) : Prop := e = .returned (.slice t.A (onceI t.l).length t.c) ∧ OwnI w' base ⟨t.A, onceI t.l, t.c⟩ ∧ Fr w w' t.val.ownBlock.toList
set_option maxRecDepth 100000 in
set_option maxHeartbeats 1000000 in
theorem once13_any (w : World) (base : Nat) (t : TV) (h : OwnI w base t) (hs : t.l.length ≤ 5000) : Calls Try.prog 22 #[.slice t.A t.l.length t.c] w (OcPost w base t) := by
  have HS := Lib.hid (sortI_any w base t h hs)
  have HL := Lib.hid hs
  clear h hs
  go_enter Try.func22, Try.ntmps22
  go_wp2_with (first
    | (go_at_call 36; (with_reducible refine HS.out.mono ?_); rintro e w1 ⟨rfl, m, p1, s1, o1, f1⟩; have HC : Hid (Calls Try.prog 37 #[.slice t.A t.l.length t.c] w1 fun e w' => ∃ m' : List Int, e = .returned (.slice t.A m'.length t.c) ∧ RisI m' ∧ (∀ q, q ∈ m' ↔ q ∈ m) ∧ OwnI w' base ⟨t.A, m', t.c⟩ ∧ Fr w1 w' t.val.ownBlock.toList) := Lib.hid (by have hh := compactI_any w1 base ⟨t.A, m, t.c⟩ o1 (by rw [show (TV.mk t.A m t.c).l.length = t.l.length from p1.length_eq]; exact HL.out) s1; have hob : (TV.mk t.A m t.c).val.ownBlock.toList = t.val.ownBlock.toList := (by unfold TV.val; rcases t.A with _ | a <;> rfl); rw [hob] at hh; dsimp only at hh; rw [p1.length_eq] at hh; exact hh); have F1 := Lib.hid (And.intro f1 p1); clear p1 s1 o1 f1)
    | (go_at_call 37; (with_reducible refine HC.out.mono ?_); rintro e w2 ⟨m2, rfl, r2, q2, o2, f2⟩; have F2 := Lib.hid (And.intro (show m2 = onceI t.l from onceI_eq r2 fun q => (q2 q).trans F1.out.2.mem_iff) (And.intro o2 f2)); clear r2 q2 o2 f2))
  go_ret
  refine ⟨by rw [← F2.out.1]; rfl, by rw [← F2.out.1]; exact F2.out.2.1, F1.out.1.trans F2.out.2.2⟩
theorem bx3 {w : World} {b : Nat} {a0 a1 a2 : Value} {t : TypeId} (h : w.heap[b]? = some (.cells #[a0, a1, a2] t (0, 0))) : w.cell? ⟨b, 0, none⟩ = some a0 ∧ w.cell? ⟨b, 1, none⟩ = some a1 ∧ w.cell? ⟨b, 2, none⟩ = some a2 := ⟨cell_of_row _ _ 0 _ _ _ h, cell_of_row _ _ 1 _ _ _ h, cell_of_row _ _ 2 _ _ _ h⟩
/-- How many of a rising list are ahead of its p-th. -/
theorem cnt_lt : ∀ {l : List Int} {p : Nat} (_ : RisI l) (hp : p < l.length), l.countP (· < l[p]) = p
  | x :: l, 0, h, _ => by
    have hp := List.pairwise_cons.1 h
    rw [List.countP_eq_zero]
    intro a ha
    simp only [List.getElem_cons_zero, decide_eq_true_eq]
    rcases List.mem_cons.1 ha with rfl | ha
    · omega
    · have := hp.1 a ha; omega
  | x :: l, p + 1, h, hp => by
    have hq := List.pairwise_cons.1 h
    have ih := cnt_lt (l := l) (p := p) hq.2 (by simpa using hp)
    simp only [List.getElem_cons_succ]
    rw [List.countP_cons_of_pos (by simpa using hq.1 _ (List.getElem_mem (by simpa using hp))), ih]
end Go.Proofs.Ytgjjdmkoamjdpaa
/- Edges of a label, their nodes: span.nodesOf; where a node stands: place. -/
namespace Go.Proofs.Ytgjjdmkoamjdpaa
open Go.RowKit Go.Maps Go.Sort

/-- Edges as a slice, more of them. -/
structure Es (w : World) (A : Option Addr) (c : Nat) (l : List Ed) : Prop where
  rd : Rd w w.heap.size A (edsC l)
  cap : l.length ≤ c
  sm : l.length ≤ 1000
theorem Es.below {w w' : World} {A : Option Addr} {c : Nat} {l : List Ed} (h : Es w A c l) (hb : Below w.heap.size w w') : Es w' A c l :=
  ⟨(h.rd.below hb (Nat.le_refl _)).more hb.size, h.cap, h.sm⟩
theorem Es.cell {w : World} {A : Option Addr} {c : Nat} {l : List Ed} (h : Es w A c l) {k : Nat} (hk : k < l.length) : ∃ b o, A = some ⟨b, o, none⟩ ∧ b < w.heap.size ∧ w.cell? ⟨b, o + k * 3, none⟩ = some (.int .i64 l[k].f) ∧ w.cell? ⟨b, o + k * 3 + 1, none⟩ = some (.string ⟨l[k].lab.toArray⟩) ∧ w.cell? ⟨b, o + k * 3 + 2, none⟩ = some (.int .i64 l[k].t) := by
  have hne : edsC l ≠ [] := fun e => by have := edsC_len l; rw [e] at this; simp at this; omega
  obtain ⟨b, o, e, hb, hc⟩ := h.rd hne
  have hat := fun j hj => flat3_at edC (fun _ => rfl) l k j hk hj
  refine ⟨b, o, e, hb, hc (k * 3) _ (hat 0 (by omega)), ?_, ?_⟩
  · rw [Nat.add_assoc]; exact hc (k * 3 + 1) _ (hat 1 (by omega))
  · rw [Nat.add_assoc]; exact hc (k * 3 + 2) _ (hat 2 (by omega))
/-- append of numbers onto a row of the call's own. -/
theorem run_appN (w : World) (lo : Nat) (u : TV) (ys : List Int) (h : OwnI w lo u) (hb : lo ≤ w.heap.size) (hl : u.l.length + ys.length ≤ 20000) :
    ∃ u' : TV, ∃ w', (Builtin.append_ #[25, 25] 25 #[.slice u.A u.l.length u.c, .slice (some ⟨w.heap.size, 0, none⟩) ys.length ys.length]).run Try.prog (w.alloc (.cells (intsV ys).toArray 3)) = .ok (.slice u'.A u'.l.length u'.c) w' ∧ u'.l = u.l ++ ys ∧ OwnI w' lo u' ∧ Fr (w.alloc (.cells (intsV ys).toArray 3)) w' u.val.ownBlock.toList ∧ (u'.val.ownBlock = u.val.ownBlock ∨ u'.val.ownBlock = some (w.heap.size + 1)) ∧ Below lo w w' := by
  obtain ⟨i, hi, hz0, hz1, hz2⟩ := info_parts infoInt
  have hb4 : Below w.heap.size w (w.alloc (.cells (intsV ys).toArray 3)) := (Below.refl _ _).alloc (Nat.le_refl _) _
  have hr4 := own_below h hb4 (Nat.le_refl _)
  have hrd : Rd (w.alloc (.cells (intsV ys).toArray 3)) (w.heap.size + 1) (some ⟨w.heap.size, 0, none⟩) (intsV ys) := Rd.new w (intsV ys).toArray 3 (0, 0)
  obtain ⟨v5, w5, hrun, g1, g2, g3⟩ := run_appR (P := Try.prog) _ lo 25 25 3 i _ 1 8 Try.underlying25 hi hz0 hz1 hz2 rfl (by omega) u.val u.l.length (intsV u.l) hr4 (w.heap.size + 1) (some ⟨w.heap.size, 0, none⟩) ys.length ys.length (intsV ys) (by rw [intsV_len, Nat.mul_one]) hrd (intsV_one _) (by omega) (by omega) (Nat.le_trans hb hb4.size)
  have e1 : intsV u.l ++ intsV ys = intsV (u.l ++ ys) := (List.map_append).symm
  rw [e1] at g1
  rw [alloc1_size] at g3
  obtain ⟨A, c, rfl, _, _, _⟩ := own_shape g1
  refine ⟨⟨A, u.l ++ ys, c⟩, w5, ?_, rfl, ?_, fr_grown g2, ?_, (lower' hb4 hb).trans (grown_below' g2 (fun z hz => (World.ownsRow.lt hr4 z hz).1) (Nat.le_trans hb hb4.size))⟩
  · rw [List.length_append]
    exact hrun
  · unfold OwnI TV.val
    rw [List.length_append]
    exact g1
  · rcases g3 with g3 | g3
    · exact .inl (by unfold TV.val; rw [List.length_append]; exact g3)
    · exact .inr (by unfold TV.val; rw [List.length_append]; exact g3)
/-- A row of numbers is answered, new. -/
def NwPost (w : World) (L : List Int) (e : Ending) (w' : World) : Prop := ∃ u : TV, e = .returned (.slice u.A u.l.length u.c) ∧ u.l = L ∧ OwnI w' w.heap.size u ∧ Below w.heap.size w w'
set_option maxRecDepth 100000 in
set_option maxHeartbeats 4000000 in
theorem nodesOf_any (lab : Nm) (A : Option Addr) (c : Nat) (es : List Ed) (w : World) (h : Es w A c es) : Calls Try.prog 20 #[.string ⟨lab.toArray⟩, .slice A es.length c] w (NwPost w (nodesL lab es)) := by
  have hs := h.sm
  have HA := Lib.hid h
  clear h
  go_enter Try.func20, Try.ntmps20
  go_wp2_with (fail)
  go_loopw [5, 10] (fun out i wr => ∃ (k : Nat) (u : TV), k ≤ es.length ∧ i = .int .i64 (k : Int) ∧ out = .slice u.A u.l.length u.c ∧ Hid (OwnI wr w.heap.size u ∧ u.l = endsL lab (es.take k) ∧ Below w.heap.size w wr)) (fun _ i _ => es.length - (intOf i).toNat)
  case atStart => exact ⟨0, ⟨none, [], 0⟩, by omega, rfl, rfl, Lib.hid ⟨World.ownsRow_nil _ _ _ _, rfl, Below.refl _ _⟩⟩
  case round =>
    obtain ⟨k, u, hk, rfl, rfl, hrel⟩ := hrel
    by_cases hlt : k < es.length
    · obtain ⟨b, o, hA, _, c0, c1, c2⟩ := (HA.out.below hrel.out.2.2).cell hlt
      have hlI : (k : Int) < (es.length : Int) := by omega
      have htk := endsL_take (lab := lab) hlt
      have hul : u.l.length ≤ 2000 := by
        rw [hrel.out.2.1]
        have h1 := endsL_len lab (es.take k)
        rw [List.length_take] at h1
        omega
      rw [hA]
      generalize es[k] = y at c0 c1 c2 htk
      have hg1 := heap_alloc_new wr (.cells #[.int .i64 y.f, .string ⟨y.lab.toArray⟩, .int .i64 y.t] 34)
      have hb1 := Below.alloc (Below.refl wr.heap.size wr) (Nat.le_refl _) (.cells #[.int .i64 y.f, .string ⟨y.lab.toArray⟩, .int .i64 y.t] 34)
      obtain ⟨d0, d1, d2⟩ := bx3 hg1
      have hu1 := hrel.out.1.below hb1
      have HR := Lib.hid (And.intro hrel.out.2.1 (And.intro htk (And.intro hu1 (hrel.out.2.2.trans (lower' hb1 hrel.out.2.2.size)))))
      clear hb1 hg1 hu1 htk hrel
      by_cases hlab : y.lab = lab
      · have hl : (y.lab == lab) = true := beq_iff_eq.2 hlab
        obtain ⟨u', w5, hrun, hul', hou, _, _, hb5⟩ := run_appN (wr.alloc (.cells #[.int .i64 y.f, .string ⟨y.lab.toArray⟩, .int .i64 y.t] 34)) w.heap.size u [y.f, y.t] HR.out.2.2.1 HR.out.2.2.2.size (by simp; omega)
        have hrun : (Builtin.append_ #[25, 25] 25 #[.slice u.A u.l.length u.c, .slice (some ⟨(wr.alloc (.cells #[.int .i64 y.f, .string ⟨y.lab.toArray⟩, .int .i64 y.t] 34)).heap.size, 0, none⟩) 2 2]).run Try.prog ((wr.alloc (.cells #[.int .i64 y.f, .string ⟨y.lab.toArray⟩, .int .i64 y.t] 34)).alloc (.cells #[.int .i64 y.f, .int .i64 y.t] 3)) = .ok (.slice u'.A u'.l.length u'.c) w5 := hrun
        rw [alloc1_size] at hrun
        have HN := Lib.hid (And.intro hou (And.intro (show u'.l = endsL lab (es.take (k + 1)) from by rw [hul', HR.out.1, HR.out.2.1, if_pos hlab]) (HR.out.2.2.2.trans hb5)))
        clear hlab hul' hou hb5
        go_wp2_with (at_builtin; refine wpL_appK _ rfl (.tmp 18) (.tmp 23) 25 rfl rfl _ _ _ _ rfl rfl hrun ?_)
        go_roundw
        case rel => exact ⟨k + 1, u', by omega, by go_num, rfl, HN⟩
        case measure => simp [intOf]; omega
      · have hl : (y.lab == lab) = false := beq_eq_false_iff_ne.2 hlab
        have HN := Lib.hid (show u.l = endsL lab (es.take (k + 1)) from by rw [HR.out.1, HR.out.2.1, if_neg hlab, List.append_nil])
        clear hlab
        go_wp2_with (fail)
        go_roundw
        case rel => exact ⟨k + 1, u, by omega, by go_num, rfl, Lib.hid ⟨HR.out.2.2.1, HN.out, HR.out.2.2.2⟩⟩
        case measure => simp [intOf]; omega
    · have hlI : ¬ (k : Int) < (es.length : Int) := by omega
      have hul := hrel.out.2.1
      rw [List.take_of_length_le (by omega)] at hul
      have hlen := endsL_len lab es
      have hoc := once13_any wr w.heap.size u hrel.out.1 (by rw [hul]; omega)
      have HF := Lib.hid (And.intro hul (And.intro hrel.out.1 hrel.out.2.2))
      have HC := Lib.hid hoc
      clear hul hlen hoc hrel
      go_wp2_with (go_at_call 22; (with_reducible refine HC.out.mono ?_); rintro e w9 ⟨rfl, o9, f9⟩; have H9 := Lib.hid (And.intro o9 f9); clear o9 f9)
      go_ret
      refine ⟨⟨u.A, onceI u.l, u.c⟩, rfl, by dsimp only; rw [HF.out.1]; rfl, H9.out.1, HF.out.2.2.trans (H9.out.2.below HF.out.2.2.size fun s hs => (World.ownsRow.lt HF.out.2.1 s (by simpa using hs)).1)⟩
/-- A struct of roads: its nodes, where they lead, where they are led from. -/
structure RV where
  nA : Option Addr
  nc : Nat
  N : List Int
  o : LV
  i : LV
def rvA (x : RV) : Array Value := #[.slice x.nA x.N.length x.nc, .slice x.o.A x.o.ts.length x.o.c, .slice x.i.A x.i.ts.length x.i.c]
structure RV.Ok (w : World) (x : RV) : Prop where
  nd : TV.Ok w ⟨x.nA, x.N, x.nc⟩
  o : x.o.Ok w
  i : x.i.Ok w
theorem RV.Ok.below {w w' : World} {x : RV} (h : x.Ok w) (hb : Below w.heap.size w w') : x.Ok w' := ⟨h.nd.below hb, LV.Ok.below h.o hb, LV.Ok.below h.i hb⟩
/-- Rows of places, out of memory's numbers. -/
def plR (ts : List TV) : Rows := ts.map fun t => t.l.map Int.toNat
structure RV.Rd (x : RV) (E : List Pr) : Prop where
  roads : Roads x.N (plR x.o.ts) (plR x.i.ts) E
  po : ∀ t ∈ x.o.ts, ∀ v ∈ t.l, 0 ≤ v
  pi : ∀ t ∈ x.i.ts, ∀ v ∈ t.l, 0 ≤ v
theorem plR_at {ts : List TV} {p : Nat} (h : p < ts.length) : (plR ts).getD p [] = ts[p].l.map Int.toNat := by
  unfold plR
  rw [List.getD_eq_getElem?_getD, List.getElem?_eq_getElem (by simpa using h)]
  simp
theorem atR_lt {ts : List TV} {p q : Nat} (h : AtR (plR ts) p q) : p < ts.length := by
  unfold AtR at h
  rw [List.getD_eq_getElem?_getD] at h
  rcases Nat.lt_or_ge p ts.length with h1 | h1
  · exact h1
  · rw [List.getElem?_eq_none (by unfold plR; simpa using h1)] at h
    cases h
set_option maxRecDepth 100000 in
set_option maxHeartbeats 1000000 in
theorem place_yes (x : RV) (w : World) (hx : x.Ok w) (hN : RisI x.N) (p : Nat) (hp : p < x.N.length) : Calls Try.prog 21 #[.agg (rvA x), .int .i64 x.N[p]] w fun e w' => e = .returned (.tuple #[.int .i64 (p : Int), .bool true]) ∧ Below w.heap.size w w' := by
  have hb1 : Below w.heap.size w (w.alloc (.cells (rvA x) 43)) := (Below.refl _ _).alloc (Nat.le_refl _) _
  obtain ⟨q0, q1, q2⟩ := bx3 (heap_alloc_new w (.cells (rvA x) 43))
  obtain ⟨b, o, hA, _, _⟩ := hx.nd.cell (k := p) hp
  have hc := Any.slices_BinarySearch_int (P := Try.prog) Try.laysSearchI b o x.N.length x.nc x.N x.N[p] (w.alloc (.cells (rvA x) 43)) (Nat.le_refl _) (by have := hx.nd.sm; dsimp only at this; omega)
    (fun j hj => by
      obtain ⟨b', o', hA', _, hcl⟩ := (hx.nd.below hb1).cell (k := j) hj
      dsimp only at hA hA'
      rw [hA] at hA'
      injection hA' with hA'
      injection hA' with e8 e9
      subst e8 e9
      rw [hcl, List.getD_eq_getElem?_getD, List.getElem?_eq_getElem hj]
      rfl) (by rw [List.take_length]; exact hN.imp fun h => Int.le_of_lt h)
  have hcnt : (x.N.take x.N.length).countP (· < x.N[p]) = p := by
    rw [List.take_length]
    exact cnt_lt hN hp
  have hcon : (x.N.take x.N.length).contains x.N[p] = true := by rw [List.take_length]; exact List.contains_iff_mem.2 (List.getElem_mem hp)
  rw [hcnt, hcon] at hc
  dsimp only at hA
  have hc : Calls Try.prog 35 #[.slice x.nA x.N.length x.nc, .int .i64 x.N[p]] (w.alloc (.cells (rvA x) 43)) fun e w' => e = .returned (.tuple #[.int .i64 (p : Int), .bool true]) ∧ ∃ q, w' = (w.alloc (.cells (rvA x) 43)).drewN q := by rw [hA]; exact hc
  generalize x.N[p] = a at hc ⊢
  unfold rvA at hb1 q0 q1 q2 hc ⊢
  have HB := Lib.hid hb1
  have HC := Lib.hid hc
  clear hx hN hA hb1 hcnt hcon hc q1 q2
  go_enter Try.func21, Try.ntmps21
  go_wp2_with (go_at_call 35; (with_reducible refine HC.out.mono ?_); rintro e w2 ⟨rfl, hd⟩; have B2 := Lib.hid (below_drawn hd); clear hd)
  go_ret2
  exact ⟨rfl, HB.out.trans (lower' B2.out HB.out.size)⟩
set_option maxRecDepth 100000 in
set_option maxHeartbeats 1000000 in
theorem place_no (x : RV) (w : World) (hx : x.Ok w) (hN : RisI x.N) (a : Int) (ha : a ∉ x.N) : Calls Try.prog 21 #[.agg (rvA x), .int .i64 a] w fun e w' => ∃ i : Nat, e = .returned (.tuple #[.int .i64 (i : Int), .bool false]) ∧ Below w.heap.size w w' := by
  have hb1 : Below w.heap.size w (w.alloc (.cells (rvA x) 43)) := (Below.refl _ _).alloc (Nat.le_refl _) _
  obtain ⟨q0, q1, q2⟩ := bx3 (heap_alloc_new w (.cells (rvA x) 43))
  have hc : Calls Try.prog 35 #[.slice x.nA x.N.length x.nc, .int .i64 a] (w.alloc (.cells (rvA x) 43)) fun e w' => ∃ i : Nat, e = .returned (.tuple #[.int .i64 (i : Int), .bool false]) ∧ ∃ q, w' = (w.alloc (.cells (rvA x) 43)).drewN q := by
    by_cases h0 : x.N.length = 0
    · rw [h0]
      refine (Any.slices_BinarySearch_int_empty (P := Try.prog) Try.laysSearchI x.nA x.nc a _).mono ?_
      rintro e w' ⟨rfl, rfl⟩
      exact ⟨0, rfl, 0, rfl⟩
    · obtain ⟨b, o, hA, _, _⟩ := hx.nd.cell (k := 0) (by dsimp only; omega)
      have hc := Any.slices_BinarySearch_int (P := Try.prog) Try.laysSearchI b o x.N.length x.nc x.N a (w.alloc (.cells (rvA x) 43)) (Nat.le_refl _) (by have := hx.nd.sm; dsimp only at this; omega)
        (fun j hj => by
          obtain ⟨b', o', hA', _, hcl⟩ := (hx.nd.below hb1).cell (k := j) hj
          dsimp only at hA hA'
          rw [hA] at hA'
          injection hA' with hA'
          injection hA' with e8 e9
          subst e8 e9
          rw [hcl, List.getD_eq_getElem?_getD, List.getElem?_eq_getElem hj]
          rfl) (by rw [List.take_length]; exact hN.imp fun h => Int.le_of_lt h)
      rw [show (x.N.take x.N.length).contains a = false from by rw [List.take_length, ← Bool.not_eq_true, List.contains_iff_mem]; exact ha] at hc
      dsimp only at hA
      rw [hA]
      exact hc.mono fun e w' h => ⟨_, h.1, h.2⟩
  unfold rvA at hb1 q0 q1 q2 hc ⊢
  have HB := Lib.hid hb1
  have HC := Lib.hid hc
  clear hx hN hb1 hc q1 q2
  go_enter Try.func21, Try.ntmps21
  go_wp2_with (go_at_call 35; (with_reducible refine HC.out.mono ?_); rintro e w2 ⟨i, rfl, hd⟩; have B2 := Lib.hid (below_drawn hd); clear hd)
  go_ret2
  exact ⟨i, rfl, HB.out.trans (lower' B2.out HB.out.size)⟩
end Go.Proofs.Ytgjjdmkoamjdpaa
/- The document's Edges. -/
namespace Go.Proofs.Ytgjjdmkoamjdpaa
open Go.RowKit Go.Maps Go.Sort

def addP (out : List Pr) (p : Pr) : List Pr := if p ∈ out then out else out ++ [p]
def edsP (lab : Nm) (es : List Ed) : List Pr := (prsL lab es).foldl addP []
theorem prsL_take {lab : Nm} {es : List Ed} {k : Nat} (h : k < es.length) : prsL lab (es.take (k + 1)) = prsL lab (es.take k) ++ if es[k].lab = lab then [(es[k].f, es[k].t)] else [] := by
  unfold prsL
  rw [List.take_succ_eq_append_getElem h, List.filter_append, List.map_append]
  by_cases hl : es[k].lab = lab <;> simp [hl]
theorem edsP_take {lab : Nm} {es : List Ed} {k : Nat} (h : k < es.length) : edsP lab (es.take (k + 1)) = if es[k].lab = lab then addP (edsP lab (es.take k)) (es[k].f, es[k].t) else edsP lab (es.take k) := by
  unfold edsP
  rw [prsL_take h]
  by_cases hl : es[k].lab = lab
  · rw [if_pos hl, if_pos hl, List.foldl_append]; rfl
  · rw [if_neg hl, if_neg hl, List.append_nil]
theorem addP_mem {out : List Pr} {p q : Pr} : q ∈ addP out p ↔ q ∈ out ∨ q = p := by
  unfold addP
  split
  · rename_i h
    exact ⟨.inl, fun g => g.elim id fun e => e ▸ h⟩
  · simp
theorem addP_nodup {out : List Pr} {p : Pr} (h : out.Nodup) : (addP out p).Nodup := by
  unfold addP
  split
  · exact h
  · rename_i hp
    rw [List.nodup_append]
    exact ⟨h, by simp, fun a ha b hb => by rw [List.mem_singleton.1 hb]; rintro rfl; exact hp ha⟩
theorem foldP_mem {q : Pr} : ∀ {l out : List Pr}, q ∈ l.foldl addP out ↔ q ∈ out ∨ q ∈ l
  | [], out => by simp
  | a :: l, out => by
    rw [List.foldl_cons, foldP_mem, addP_mem, List.mem_cons, or_assoc]
theorem foldP_nodup : ∀ {l out : List Pr}, out.Nodup → (l.foldl addP out).Nodup
  | [], _, h => h
  | _ :: l, _, h => foldP_nodup (l := l) (addP_nodup h)
theorem mem_edsP {lab : Nm} {es : List Ed} {q : Pr} : q ∈ edsP lab es ↔ q ∈ prsL lab es := by
  unfold edsP
  rw [foldP_mem]
  simp
theorem edsP_nodup (lab : Nm) (es : List Ed) : (edsP lab es).Nodup := foldP_nodup (by simp)
theorem edsP_len (lab : Nm) (es : List Ed) : (edsP lab es).length ≤ es.length :=
  Nat.le_trans (nodup_len (edsP_nodup lab es) fun _ h => mem_edsP.1 h) (prsL_len lab es)
/-- What Edges answers. -/
def EgPost (w : World) (l : List Pr) (e : Ending) (w' : World) : Prop := ∃ A c, e = .returned (.slice A l.length c) ∧ Prs w' A c l ∧ Below w.heap.size w w'
set_option maxRecDepth 100000 in
set_option maxHeartbeats 4000000 in
theorem redges_any (lab : Nm) (A : Option Addr) (c : Nat) (es : List Ed) (w : World) (h : Es w A c es) : Calls Try.prog 14 #[.string ⟨lab.toArray⟩, .slice A es.length c] w (EgPost w (edsP lab es)) := by
  have hs := h.sm
  have HA := Lib.hid h
  clear h
  go_enter Try.func14, Try.ntmps14
  go_wp2_with (fail)
  go_loopw [5, 10] (fun out i wr => ∃ k : Nat, k ≤ es.length ∧ i = .int .i64 (k : Int) ∧ Hid (PrRow w.heap.size wr out (edsP lab (es.take k)) ∧ Below w.heap.size w wr)) (fun _ i _ => es.length - (intOf i).toNat)
  case atStart => exact ⟨0, by omega, rfl, Lib.hid ⟨PrRow.nil _ _, Below.refl _ _⟩⟩
  case round =>
    obtain ⟨k, hk, rfl, hrel⟩ := hrel
    rename World => wr
    by_cases hlt : k < es.length
    · obtain ⟨b, o, hA, hbl, c0, c1, c2⟩ := (HA.out.below hrel.out.2).cell hlt
      have hlI : (k : Int) < (es.length : Int) := by omega
      have hot := Lib.hid (edsP_take (lab := lab) hlt)
      have hol : (edsP lab (es.take k)).length ≤ 3000 := by
        have h1 := edsP_len lab (es.take k)
        rw [List.length_take] at h1
        omega
      rw [hA]
      generalize es[k] = y at c0 c1 c2 hot
      generalize edsP lab (es.take k) = L at hrel hot hol
      go_upto_region 5 with (fail)
      have KS := Lib.hid fun W' (h : Below wr.heap.size wr W') => (⟨(h.cell (p := ⟨b, o + k * 3, none⟩) hbl).trans c0, (h.cell (p := ⟨b, o + k * 3 + 2, none⟩) hbl).trans c2⟩ : W'.cell? ⟨b, o + k * 3, none⟩ = some (.int .i64 y.f) ∧ W'.cell? ⟨b, o + k * 3 + 2, none⟩ = some (.int .i64 y.t))
      go_region_held3 (fun W => W.cell? ⟨b, o + k * 3, none⟩ = some (.int .i64 y.f) ∧ W.cell? ⟨b, o + k * 3 + 2, none⟩ = some (.int .i64 y.t)) (first | with_reducible assumption | exact KS.out _ (Below.refl _ _).drew | exact KS.out _ ((Below.refl _ _).alloc (Nat.le_refl _) _).drew | exact KS.out _ ((Below.refl _ _).alloc (Nat.le_refl _) _) | exact ⟨keep_set2 (KS.out _ ((Below.refl _ _).alloc (Nat.le_refl _) _).drew).1 (Nat.ne_of_lt hbl) _ _, keep_set2 (KS.out _ ((Below.refl _ _).alloc (Nat.le_refl _) _).drew).2 (Nat.ne_of_lt hbl) _ _⟩) (fail)
      have hb1 : Below wr.heap.size wr (wr.alloc (.cells #[.int .i64 y.f, .int .i64 y.t] 49)).drew := ((Below.refl _ _).alloc (Nat.le_refl _) _).drew
      have hg1 : (wr.alloc (.cells #[.int .i64 y.f, .int .i64 y.t] 49)).drew.heap[wr.heap.size]? = some (.cells #[.int .i64 y.f, .int .i64 y.t] 49) := heap_alloc_new wr _
      have KL := hb1.cell (p := ⟨b, o + k * 3 + 1, none⟩) hbl
      rw [c1] at KL
      obtain ⟨A5, c5, rfl, hP⟩ := hrel.out.1.prs (by omega)
      generalize (wr.alloc (.cells #[.int .i64 y.f, .int .i64 y.t] 49)).drew = w1 at hb1 hg1 KL ⊢
      have hh := has13_any A5 c5 L y.f y.t w1 (hP.below hb1)
      have HD := Lib.hid fun W' (h : Below w1.heap.size w1 W') => (⟨cell_of_row W' wr.heap.size 0 _ _ _ ((h.block _ (heap_lt hg1)).trans hg1), cell_of_row W' wr.heap.size 1 _ _ _ ((h.block _ (heap_lt hg1)).trans hg1)⟩ : W'.cell? ⟨wr.heap.size, 0, none⟩ = some (.int .i64 y.f) ∧ W'.cell? ⟨wr.heap.size, 1, none⟩ = some (.int .i64 y.t))
      have HB1 := Lib.hid (hrel.out.2.trans (lower' hb1 hrel.out.2.size))
      have HR1 := Lib.hid (hrel.out.1.kept hb1)
      obtain ⟨d0, d1⟩ := HD.out w1 (Below.refl _ _)
      clear c0 c1 c2 KS hb1 hg1 hP hrel hA hbl
      by_cases hl : y.lab = lab
      · by_cases hm : (y.f, y.t) ∈ L
        · rw [decide_eq_true hm] at hh
          have HT := Lib.hid (show edsP lab (es.take (k + 1)) = L from by rw [hot.out, if_pos hl, addP, if_pos hm])
          have HH := Lib.hid hh
          clear hh hm hot
          go_wp2_with (go_at_call 25; (with_reducible refine HH.out.mono ?_); rintro e w6 ⟨rfl, b6⟩; have H6 := Lib.hid (And.intro (HR1.out.kept b6) (HB1.out.trans (lower' b6 HB1.out.size))); clear b6)
          go_roundw
          case rel => exact ⟨k + 1, by omega, by go_num, Lib.hid (by rw [HT.out]; exact H6.out)⟩
          case measure => simp [intOf]; omega
        · rw [decide_eq_false hm] at hh
          have HT := Lib.hid (show edsP lab (es.take (k + 1)) = L ++ [(y.f, y.t)] from by rw [hot.out, if_pos hl, addP, if_neg hm])
          have HH := Lib.hid hh
          have HP := Lib.hid fun W' (h : Below w1.heap.size w1 W') => (HR1.out.kept h).push (y.f, y.t) (by omega) (HB1.out.trans (lower' h HB1.out.size)).size
          clear hh hm hot
          go_wp2_with (first
            | (go_at_call 25; (with_reducible refine HH.out.mono ?_); rintro e w6 ⟨rfl, b6⟩; obtain ⟨v5, w7, hrun, p7, b7⟩ := HP.out w6 b6; obtain ⟨d0, d1⟩ := HD.out w6 b6; have H7 := Lib.hid (And.intro p7 ((HB1.out.trans (lower' b6 HB1.out.size)).trans b7)); clear b6 p7 b7)
            | (at_builtin; refine wpL_appK _ rfl (.tmp 37) (.tmp 39) 46 rfl rfl _ _ _ _ rfl rfl hrun ?_))
          go_roundw
          case rel => exact ⟨k + 1, by omega, by go_num, Lib.hid (by rw [HT.out]; exact H7.out)⟩
          case measure => simp [intOf]; omega
      · have HT := Lib.hid (show edsP lab (es.take (k + 1)) = L from by rw [hot.out, if_neg hl])
        clear hh hot
        go_wp2_with (fail)
        go_roundw
        case rel => exact ⟨k + 1, by omega, by go_num, Lib.hid (by rw [HT.out]; exact ⟨HR1.out, HB1.out⟩)⟩
        case measure => simp [intOf]; omega
    · obtain rfl : k = es.length := by omega
      have hlI : ¬ (es.length : Int) < (es.length : Int) := by omega
      rw [List.take_of_length_le (Nat.le_refl _)] at hrel
      obtain ⟨A5, c5, rfl, hP⟩ := hrel.out.1.prs (by have := edsP_len lab es; omega)
      have HF := Lib.hid (And.intro hP hrel.out.2)
      clear hrel hP
      go_wp2_with (fail)
      go_ret
      exact ⟨A5, c5, rfl, HF.out.1, HF.out.2⟩
end Go.Proofs.Ytgjjdmkoamjdpaa
