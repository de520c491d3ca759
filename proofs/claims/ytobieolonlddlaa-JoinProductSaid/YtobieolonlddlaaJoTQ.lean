/- TupQ, what this seat can fill of it. -/
import Derived.Test.YtobieolonlddlaaJoTM
namespace Go.Proofs.Ytobieolonlddlaa
/- The law's awake, few, Own, spoil. -/
open Go.RowKit Go.Maps

theorem rd_lit {W : World} {b : Nat} {xs : List Value} {t : TypeId} {fr : Nat × Nat} (h : W.heap[b]? = some (.cells xs.toArray t fr)) : Rd W W.heap.size (some ⟨b, 0, none⟩) xs := fun _ =>
  ⟨b, 0, rfl, heap_lt h, fun j u hu => by rw [Nat.zero_add, cell_of_row W b j _ _ _ h, ← hu, List.getElem?_toArray]⟩
theorem tv_lit {W : World} {b : Nat} {l : Tu} (h : W.heap[b]? = some (.cells (intsV l).toArray 3 (0, 0))) (hl : l.length ≤ 5000) : TV.Ok W ⟨some ⟨b, 0, none⟩, l, l.length⟩ := ⟨rd_lit h, Nat.le_refl _, hl⟩
theorem lv_lit {W : World} {b : Nat} {ts : List TV} (h : W.heap[b]? = some (.cells (vals ts).toArray 43 (0, 0))) (hk : ∀ t ∈ ts, t.Ok W) (hs : ts.length ≤ 5000) : LV.Ok W ⟨some ⟨b, 0, none⟩, ts, ts.length⟩ := ⟨rd_lit h, hk, Nat.le_refl _, hs⟩
/-- A list of one tuple of one number. -/
theorem one_num {W : World} {x : LV} {n : Int} (h : x.Ok W) (e : tus x.ts = [[n]]) : ∃ b o b' o' c', x.A = some ⟨b, o, none⟩ ∧ x.ts.length = 1 ∧ b < W.heap.size ∧ b' < W.heap.size ∧ W.cell? ⟨b, o, none⟩ = some (.slice (some ⟨b', o', none⟩) 1 c') ∧ W.cell? ⟨b', o', none⟩ = some (.int .i64 n) := by
  obtain ⟨A, ts, c⟩ := x
  rcases ts with _ | ⟨t, r⟩
  · cases e
  · injection e with e1 e2
    have hr : r = [] := List.map_eq_nil_iff.1 e2
    subst hr
    obtain ⟨b, o, hA, hb, hc⟩ := Lst.cell h (k := 0) (by simp)
    obtain ⟨b', o', hA', hb', hc'⟩ := (Lst.at h (k := 0) (by simp)).cell (k := 0) (by simp [e1])
    simp only [List.getElem_cons_zero] at hc hA' hc'
    refine ⟨b, o, b', o', t.c, hA, rfl, hb, hb', ?_, ?_⟩
    · rw [hA', e1] at hc
      exact hc
    · simp only [e1, List.getElem_cons_zero] at hc'
      exact hc'
theorem keepA {W : World} {k : Nat} {o o' : Obj} (h : W.heap[k]? = some o) : (W.alloc o').heap[k]? = some o := (Below.heap_alloc _ _ _ (heap_lt h)).trans h
theorem newA {W : World} {n : Nat} {o : Obj} (h : W.heap.size = n) : (W.alloc o).heap[n]? = some o := by
  subst h
  exact heap_alloc_new W o
theorem at6 (w : World) (o0 o1 o2 o3 o4 o5 : Obj) : let W := (((((w.alloc o0).alloc o1).alloc o2).alloc o3).alloc o4).alloc o5
    W.heap[w.heap.size]? = some o0 ∧ W.heap[w.heap.size + 1]? = some o1 ∧ W.heap[w.heap.size + 1 + 1]? = some o2 ∧ W.heap[w.heap.size + 1 + 1 + 1]? = some o3 ∧ W.heap[w.heap.size + 1 + 1 + 1 + 1]? = some o4 ∧ W.heap[w.heap.size + 1 + 1 + 1 + 1 + 1]? = some o5 ∧ Below w.heap.size w W := by
  have s1 := alloc1_size w o0
  have s2 := (alloc1_size (w.alloc o0) o1).trans (congrArg (· + 1) s1)
  have s3 := (alloc1_size ((w.alloc o0).alloc o1) o2).trans (congrArg (· + 1) s2)
  have s4 := (alloc1_size (((w.alloc o0).alloc o1).alloc o2) o3).trans (congrArg (· + 1) s3)
  have s5 := (alloc1_size ((((w.alloc o0).alloc o1).alloc o2).alloc o3) o4).trans (congrArg (· + 1) s4)
  refine ⟨keepA (keepA (keepA (keepA (keepA (newA rfl))))), keepA (keepA (keepA (keepA (newA s1)))), keepA (keepA (keepA (newA s2))), keepA (keepA (newA s3)), keepA (newA s4), newA s5, ?_⟩
  exact (((((((Below.refl w.heap.size w).alloc (Nat.le_refl _) _).alloc (by simp) _).alloc (by simp; omega) _).alloc (by simp; omega) _).alloc (by simp; omega) _).alloc (by simp; omega) _)
theorem diff_lit : diffP [[1], [2]] [[2], [3]] = (0, [[3]], [[1]]) := by decide +kernel
theorem then_lit : thenP [[3]] [] [[4]] [[3]] = (0, [[4]], []) := by decide +kernel
end Go.Proofs.Ytobieolonlddlaa
