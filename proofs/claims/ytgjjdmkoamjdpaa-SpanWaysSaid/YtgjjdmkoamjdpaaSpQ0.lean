/- What span.roadsOf wants: rows of rows made, places of edges. -/
import Derived.Test.YtgjjdmkoamjdpaaJnJ
namespace Go.Proofs.Ytgjjdmkoamjdpaa
open Go.RowKit Go.Maps Go.Sort

section
variable {P : Program} {md : Region.Mode} {ops : Array Oper} {Q : Exit → Act → World → Prop} {S : World → Prop} {pre : Nat → Bool}
/-- Three may come up. -/
theorem wpAnyM_three {i j k : Nat} {o o' o'' : Oper} {fuel : Nat} {listed : Array Bool} {a : Act} {w : World} (hr : Region.ready md ops listed = [i, j, k]) (ho : ops[i]? = some o) (ho' : ops[j]? = some o') (ho'' : ops[k]? = some o'')
    (h : ∀ K' : Act → World → Prop, Shut (∀ a w, (pre i = true → S w) → wpAnyM P md ops Q S pre fuel (listed.setIfInBounds i true) a w → K' a w) → if Region.wanted o (yielded ops a.tmps) = true then Oper.wp P o a w K' Q else K' (a.put o.dst undef) w)
    (h' : ∀ K' : Act → World → Prop, Shut (∀ a w, (pre j = true → S w) → wpAnyM P md ops Q S pre fuel (listed.setIfInBounds j true) a w → K' a w) → if Region.wanted o' (yielded ops a.tmps) = true then Oper.wp P o' a w K' Q else K' (a.put o'.dst undef) w)
    (h'' : ∀ K' : Act → World → Prop, Shut (∀ a w, (pre k = true → S w) → wpAnyM P md ops Q S pre fuel (listed.setIfInBounds k true) a w → K' a w) → if Region.wanted o'' (yielded ops a.tmps) = true then Oper.wp P o'' a w K' Q else K' (a.put o''.dst undef) w) :
    wpAnyM P md ops Q S pre (fuel + 1) listed a w := by
  refine ⟨fun h0 => (by rw [h0] at hr; cases hr), fun q hq => ?_⟩
  rw [hr] at hq
  have hk' : q = i ∨ q = j ∨ q = k := by simpa using hq
  by_cases hki : q = i
  · subst hki
    exact wpOp_step ho (fun K' hK => h K' (fun a w hS hW => hK a w ⟨hS, hW⟩))
  · by_cases hkj : q = j
    · subst hkj
      exact wpOp_step ho' (fun K' hK => h' K' (fun a w hS hW => hK a w ⟨hS, hW⟩))
    · obtain rfl : q = k := (hk'.resolve_left hki).resolve_left hkj
      exact wpOp_step ho'' (fun K' hK => h'' K' (fun a w hS hW => hK a w ⟨hS, hW⟩))
end
abbrev nil13 : Value := .slice none 0 0
theorem made13 (n : Nat) : madeCells #[nil13] n = (List.replicate n nil13).toArray := by
  apply Array.toList_inj.1
  rw [toList_madeCells_one]
theorem makeRR (n : Nat) (hn : n ≤ 20000) (w : World) : (Instr.makeSlice 38 (.int .i64 (n : Int)) (.int .i64 (n : Int))).run Try.prog w = .ok (.slice (some ⟨w.heap.size, 0, none⟩) n n) (w.alloc (.cells (List.replicate n nil13).toArray 25)) := by
  have h := run_make_row' (P := Try.prog) 38 25 (.slice none 0 0) 24 Try.underlying38 infoRow rfl .i64 .i64 n (by omega) (by omega) w
  rw [made13] at h
  exact h
theorem nest_made {w : World} {lo g n : Nat} (h : w.heap[g]? = some (.cells (Array.replicate n nil13) 25 (0, 0))) (hlo : lo ≤ g) (hn : n ≤ 5000) : Nest w lo g (List.replicate n ⟨none, [], 0⟩) := by
  have hv : vals (List.replicate n ⟨none, [], 0⟩) = List.replicate n nil13 := by unfold vals; rw [List.map_replicate]; rfl
  refine ⟨?_, fun t ht => ?_, ?_⟩
  · rw [List.length_replicate, hv]
    refine ⟨by simp, .inr ⟨g, n, Array.replicate n nil13, rfl, hlo, h, Nat.le_refl _, by simp [maxLen]; omega, by simp, by rw [Nat.mul_one]; simp⟩⟩
  · rw [(List.mem_replicate.1 ht).2]
    exact World.ownsRow_nil _ _ _ _
  · rw [List.pairwise_replicate]
    right
    intro a b ha
    cases ha
theorem two_made {w : World} {lo og ig n : Nat} (h1 : w.heap[og]? = some (.cells (Array.replicate n nil13) 25 (0, 0))) (h2 : w.heap[ig]? = some (.cells (Array.replicate n nil13) 25 (0, 0))) (l1 : lo ≤ og) (l2 : lo ≤ ig) (hne : og ≠ ig) (hn : n ≤ 5000) : Two2 w lo og ig (List.replicate n ⟨none, [], 0⟩) (List.replicate n ⟨none, [], 0⟩) :=
  ⟨nest_made h1 l1 hn, nest_made h2 l2 hn, hne, fun t ht u hu a b ha => by rw [(List.mem_replicate.1 ht).2] at ha; cases ha⟩
theorem al3 (w : World) (o1 o2 o3 : Obj) : (((w.alloc o1).alloc o2).alloc o3).drew.heap[w.heap.size]? = some o1 ∧ (((w.alloc o1).alloc o2).alloc o3).drew.heap[w.heap.size + 1]? = some o2 ∧ (((w.alloc o1).alloc o2).alloc o3).drew.heap[w.heap.size + 1 + 1]? = some o3 ∧ Below w.heap.size w (((w.alloc o1).alloc o2).alloc o3).drew := by
  have b1 : Below (w.alloc o1).heap.size (w.alloc o1) (((w.alloc o1).alloc o2).alloc o3) := two_bel _ _ _
  have b2 : Below ((w.alloc o1).alloc o2).heap.size ((w.alloc o1).alloc o2) (((w.alloc o1).alloc o2).alloc o3) := (Below.refl _ _).alloc (Nat.le_refl _) _
  have h0 : Below w.heap.size w (w.alloc o1) := (Below.refl _ _).alloc (Nat.le_refl _) _
  refine ⟨(b1.block w.heap.size (by simp)).trans (heap_alloc_new w o1), ?_, ?_, (h0.trans (lower' b1 h0.size)).drew⟩
  · have h2 := heap_alloc_new (w.alloc o1) o2
    rw [alloc1_size] at h2
    exact (b2.block (w.heap.size + 1) (by simp)).trans h2
  · have := heap_alloc_new ((w.alloc o1).alloc o2) o3
    rw [alloc1_size, alloc1_size] at this
    exact this
theorem vals_nil (n : Nat) : tus (List.replicate n ⟨none, [], 0⟩) = List.replicate n [] := by unfold tus; rw [List.map_replicate]
/-- What roadsOf answers. -/
def RoadsPost (w : World) (lab : Nm) (es : List Ed) (e : Ending) (w' : World) : Prop := ∃ x : RV, e = .returned (.agg (rvA x)) ∧ x.Ok w' ∧ x.N = nodesL lab es ∧ tus x.o.ts = mixO (nodesL lab es) lab es (nodesL lab es).length ∧ tus x.i.ts = insO (nodesL lab es) lab es (nodesL lab es).length 0 ∧ Below w.heap.size w w'
theorem resRoads {w : World} {b : Nat} {v0 v1 v2 : Value} (h : w.heap[b]? = some (.cells #[v0, v1, v2] 43 (0, 0))) (tmps : Array Value) (h2 : tmps.getD 4 undef = .pointer (some ⟨b, 0, none⟩)) :
    (results Try.f11 tmps).run Try.prog w = .ok (.agg #[v0, v1, v2]) w := by
  obtain ⟨e0, e1, e2⟩ := bx3 h
  have h2' := h2
  simp only [Array.getD_eq_getD_getElem?] at h2'
  simp [results, Try.results11, go_sem, h2', e0, e1, e2]
theorem put3 {w : World} {b : Nat} {a0 a1 a2 : Value} {t : TypeId} (h : w.heap[b]? = some (.cells #[a0, a1, a2] t (0, 0))) (v0 v1 v2 : Value) :
    (((w.setCell ⟨b, 0, none⟩ v0).setCell ⟨b, 1, none⟩ v1).setCell ⟨b, 2, none⟩ v2).heap[b]? = some (.cells #[v0, v1, v2] t (0, 0)) := by
  have h1 := heap_setCell_same _ b 0 _ _ v0 h
  have h2 := heap_setCell_same _ b 1 _ _ v1 h1
  exact heap_setCell_same _ b 2 _ _ v2 h2
theorem Nest.frS {w w' : World} {lo g : Nat} {us : List TV} {S : List Nat} (h : Nest w lo g us) (hf : Fr w w' S) (hS : ∀ s ∈ S, s < lo) : Nest w' lo g us :=
  ⟨rowFrS h.row hf fun s hs hm => by
    have h1 := (World.ownsRow.lt h.row s (by simpa using hs)).1
    have h2 := hS s hm
    omega, fun t ht => (h.tup t ht).fr hf fun a ha hm => by
    have h1 := ((h.tup t ht).lo a ha).1
    have h2 := hS _ hm
    omega, h.off⟩
theorem fr_set3 (w : World) (b : Nat) (v0 v1 v2 : Value) : Fr w (((w.setCell ⟨b, 0, none⟩ v0).setCell ⟨b, 1, none⟩ v1).setCell ⟨b, 2, none⟩ v2) [b] :=
  (((Fr.refl w [b]).setCell (p := ⟨b, 0, none⟩) (by simp) _).setCell (p := ⟨b, 1, none⟩) (by simp) _).setCell (p := ⟨b, 2, none⟩) (by simp) _
theorem tus_set (us : List TV) (i : Nat) (u : TV) : tus (us.set i u) = (tus us).set i u.l := by simp [tus, List.map_set]
end Go.Proofs.Ytgjjdmkoamjdpaa
