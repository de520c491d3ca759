/- The rows of the document's Way: how they are read, how they begin. -/
import Derived.Test.YtgjjdmkoamjdpaaJnM
import Derived.Test.YtgjjdmkoamjdpaaSpGK
import Derived.Test.YtgjjdmkoamjdpaaJnJ
namespace Go.Proofs.Ytgjjdmkoamjdpaa
open Go.RowKit Go.Maps Go.Sort

theorem RowM.at {w : World} {lo : Nat} {v : Value} {us : List TV} (h : RowM w lo v us) {i : Nat} (hi : i < us.length) :
    ∃ g c, v = .slice (some ⟨g, 0, none⟩) us.length c ∧ g < w.heap.size ∧ w.cell? ⟨g, i, none⟩ = some (.slice us[i].A us[i].l.length us[i].c) := by
  obtain ⟨g, c, hv, hg1, hg2, _, _⟩ := own_form h (by omega)
  have ho := h
  unfold RowM at ho
  rw [hv] at ho
  have hc := World.ownsRow.cellAt ho i (by omega)
  exact ⟨g, c, hv, hg2, by rw [hc]; simp [vals, TV.val, hi]⟩
/-- A row of the rows, and its last number. -/
theorem RowM.last {w : World} {lo lo' : Nat} {A : Option Addr} {c : Nat} {us : List TV} (h : RowM w lo (.slice A us.length c) us) {i m : Nat} (hi : i < us.length) (hm : us[i].l.length = m + 1) (ho : OwnI w lo' us[i]) (hs : us[i].l.length ≤ 5000) :
    ∃ g tb, A = some ⟨g, 0, none⟩ ∧ us[i].A = some ⟨tb, 0, none⟩ ∧ g < w.heap.size ∧ tb < w.heap.size ∧ ∀ W' B, Below B w W' → w.heap.size ≤ B → W'.cell? ⟨g, i, none⟩ = some (.slice (some ⟨tb, 0, none⟩) (m + 1) us[i].c) ∧ W'.cell? ⟨tb, m, none⟩ = some (.int .i64 (endI us[i].l)) := by
  obtain ⟨g, c', hv, hg, hc⟩ := h.at hi
  injection hv with hA _ _
  obtain ⟨tb, cur, hT, _, htb, _⟩ := ho.blk (by omega)
  obtain ⟨b, o, hb, hbl, hx⟩ := (ho.ok hs).cell (k := m) (by omega)
  rw [hT] at hb
  injection hb with hb
  injection hb with e1 e2
  subst e1 e2
  rw [hT, hm] at hc
  rw [Nat.zero_add] at hx
  have he : us[i].l[m]'(by omega) = endI us[i].l := by
    rw [endI_at (w := us[i].l) (by intro e; rw [e] at hm; simp at hm)]
    congr 1
    omega
  rw [he] at hx
  exact ⟨g, tb, hA, hT, hg, htb, fun W' B hb hB => ⟨(World.cell?_of_block (hb.block g (Nat.lt_of_lt_of_le hg hB))).trans hc, (World.cell?_of_block (hb.block tb (Nat.lt_of_lt_of_le htb hB))).trans hx⟩⟩
theorem way_start (w : World) (a : Int) : RtAt13 w.heap.size w ((w.alloc (.cells #[.int .i64 a] 3)).alloc (.cells #[.slice (some ⟨w.heap.size, 0, none⟩) 1 1] 25)) (.slice (some ⟨w.heap.size + 1, 0, none⟩) 1 1) [⟨some ⟨w.heap.size, 0, none⟩, [a], 1⟩] ⟨none, [], 0⟩ := by
  have e : (w.alloc (.cells #[.int .i64 a] 3)).heap.size = w.heap.size + 1 := alloc1_size w _
  have h1 : ((w.alloc (.cells #[.int .i64 a] 3)).alloc (.cells #[.slice (some ⟨w.heap.size, 0, none⟩) 1 1] 25)).heap[w.heap.size]? = some (.cells (intsV [a]).toArray 3 (0, 0)) :=
    (Below.block ((Below.refl (w.heap.size + 1) (w.alloc (.cells #[.int .i64 a] 3))).alloc (by omega) _) w.heap.size (by omega)).trans (heap_alloc_new w _)
  have h2 : ((w.alloc (.cells #[.int .i64 a] 3)).alloc (.cells #[.slice (some ⟨w.heap.size, 0, none⟩) 1 1] 25)).heap[w.heap.size + 1]? = some (.cells #[.slice (some ⟨w.heap.size, 0, none⟩) 1 1] 25 (0, 0)) := by
    have := heap_alloc_new (w.alloc (.cells #[.int .i64 a] 3)) (.cells #[.slice (some ⟨w.heap.size, 0, none⟩) 1 1] 25)
    rw [e] at this
    exact this
  refine ⟨World.ownsRow_nil _ _ _ _, ?_, fun t ht => ?_, two_bel w _ _⟩
  · unfold RowM
    exact ⟨by simp [vals], .inr ⟨w.heap.size + 1, 1, _, rfl, by omega, h2, Nat.le_refl _, by simp [maxLen], by simp, by simp [vals, TV.val]⟩⟩
  · rw [List.mem_singleton.1 ht]
    exact ⟨own_heap h1 (Nat.le_refl _) (by simp), fun _ _ hm => by simp [TV.val, Value.ownBlock] at hm⟩
theorem own_snoc {w : World} {lo : Nat} {A : Option Addr} {c : Nat} {P : Tu} {x : Int} (h : w.ownsRow lo 3 1 (.slice A (P.length + 1) c) (P.length + 1) (intsV (P ++ [x]))) : OwnI w lo ⟨A, P ++ [x], c⟩ := by
  unfold OwnI TV.val
  dsimp only
  rw [show (P ++ [x]).length = P.length + 1 by simp]
  exact h
section
variable {W : World} {t : TV} {tb m : Nat} (ht : t.Ok W) (hA : t.A = some ⟨tb, 0, none⟩) (hm : t.l.length = m + 1) (hs : m ≤ 20) (x : Int)
include ht hA hm hs
theorem ordW1 :
    ∃ A5 c5 w5 A6 c6 w6, (Builtin.append_ #[25, 25] 25 #[.slice (some ⟨W.heap.size, 0, none⟩) 0 0, .slice (some ⟨tb, 0, none⟩) (m + 1) t.c]).run Try.prog (W.alloc (.cells #[] 3)).drew = .ok (.slice A5 (m + 1) c5) w5 ∧ (Builtin.append_ #[25, 25] 25 #[.slice A5 (m + 1) c5, .slice (some ⟨w5.heap.size, 0, none⟩) 1 1]).run Try.prog (w5.alloc (.cells #[.int .i64 x] 3)) = .ok (.slice A6 (m + 1 + 1) c6) w6 ∧ OwnI w6 W.heap.size ⟨A6, t.l ++ [x], c6⟩ ∧ Below W.heap.size W w6 ∧ Below W.heap.size W w5 := by
  obtain ⟨A5, c5, w5, A6, c6, w6, h1, h2, h3, h4, h5⟩ := ordI13_1d (W := W) (A := t.A) (c := t.c) (P := t.l) ht.rd (Nat.le_refl _) (by omega) x
  have h3' := own_snoc h3
  rw [hm, hA] at h1
  rw [hm] at h2
  exact ⟨A5, c5, w5, A6, c6, w6, h1, h2, h3', h4, h5⟩
theorem ordW2 :
    ∃ A5 c5 w5 A6 c6 w6, (Builtin.append_ #[25, 25] 25 #[.slice (some ⟨W.heap.size, 0, none⟩) 0 0, .slice (some ⟨tb, 0, none⟩) (m + 1) t.c]).run Try.prog ((W.alloc (.cells #[] 3)).alloc (.cells #[.int .i64 x] 3)).drew = .ok (.slice A5 (m + 1) c5) w5 ∧ (Builtin.append_ #[25, 25] 25 #[.slice A5 (m + 1) c5, .slice (some ⟨W.heap.size + 1, 0, none⟩) 1 1]).run Try.prog w5 = .ok (.slice A6 (m + 1 + 1) c6) w6 ∧ OwnI w6 W.heap.size ⟨A6, t.l ++ [x], c6⟩ ∧ Below W.heap.size W w6 ∧ Below W.heap.size W w5 := by
  obtain ⟨A5, c5, w5, A6, c6, w6, h1, h2, h3, h4, h5⟩ := ordI13_2d (W := W) (A := t.A) (c := t.c) (P := t.l) ht.rd (Nat.le_refl _) (by omega) x
  have h3' := own_snoc h3
  rw [hm, hA] at h1
  rw [hm] at h2
  exact ⟨A5, c5, w5, A6, c6, w6, h1, h2, h3', h4, h5⟩
theorem ordW3 :
    ∃ A5 c5 w5 A6 c6 w6, (Builtin.append_ #[25, 25] 25 #[.slice (some ⟨W.heap.size + 1, 0, none⟩) 0 0, .slice (some ⟨tb, 0, none⟩) (m + 1) t.c]).run Try.prog ((W.alloc (.cells #[.int .i64 x] 3)).alloc (.cells #[] 3)).drew = .ok (.slice A5 (m + 1) c5) w5 ∧ (Builtin.append_ #[25, 25] 25 #[.slice A5 (m + 1) c5, .slice (some ⟨W.heap.size, 0, none⟩) 1 1]).run Try.prog w5 = .ok (.slice A6 (m + 1 + 1) c6) w6 ∧ OwnI w6 W.heap.size ⟨A6, t.l ++ [x], c6⟩ ∧ Below W.heap.size W w6 ∧ Below W.heap.size W w5 := by
  obtain ⟨A5, c5, w5, A6, c6, w6, h1, h2, h3, h4, h5⟩ := ordI13_3d (W := W) (A := t.A) (c := t.c) (P := t.l) ht.rd (Nat.le_refl _) (by omega) x
  have h3' := own_snoc h3
  rw [hm, hA] at h1
  rw [hm] at h2
  exact ⟨A5, c5, w5, A6, c6, w6, h1, h2, h3', h4, h5⟩
end
/-- Where the loop over the next layer's ways stands. -/
def AtI (ns : List TV) (e : Int) (j : Nat) (x : Int) : Prop := (x = -1 ∧ ∀ t ∈ ns.take j, endI t.l ≠ e) ∨ ∃ (j0 : Nat) (h : j0 < ns.length), x = (j0 : Int) ∧ endI ns[j0].l = e
theorem AtI.start (ns : List TV) (e : Int) : AtI ns e 0 (-1) := .inl ⟨rfl, by simp⟩
theorem AtI.hit {ns : List TV} {e : Int} {j : Nat} (hj : j < ns.length) (h : endI ns[j].l = e) : AtI ns e (j + 1) (j : Int) := .inr ⟨j, hj, rfl, h⟩
theorem AtI.miss {ns : List TV} {e x : Int} {j : Nat} (hj : j < ns.length) (h : ¬ endI ns[j].l = e) (k : AtI ns e j x) : AtI ns e (j + 1) x := by
  rcases k with ⟨h1, h2⟩ | h1
  · refine .inl ⟨h1, fun t ht => ?_⟩
    rw [List.take_succ_eq_append_getElem hj] at ht
    rcases List.mem_append.1 ht with g | g
    · exact h2 t g
    · rw [List.mem_singleton.1 g]; exact h
  · exact .inr h1
end Go.Proofs.Ytgjjdmkoamjdpaa
