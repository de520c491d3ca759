/- A row of truth values, a row of rows that is cut from the front; a row of numbers cut at its end; slices.Clone of rows. -/
import Derived.Test.YtgjjdmkoamjdpaaSpLA
import Derived.Test.YtgjjdmkoamjdpaaJnL
namespace Go.Proofs.Ytgjjdmkoamjdpaa
open Go.RowKit Go.Maps Go.Sort

/-- A row of truth values of the call's own. -/
def OwnSeen (w : World) (lo g : Nat) (bs : List Bool) : Prop := w.ownsRow lo 4 1 (.slice (some ⟨g, 0, none⟩) bs.length bs.length) bs.length (bs.map Value.bool)
theorem makeB (n : Nat) (hn : n ≤ 20000) (w : World) : (Instr.makeSlice 95 (.int .i64 (n : Int)) (.int .i64 (n : Int))).run Try.prog w = .ok (.slice (some ⟨w.heap.size, 0, none⟩) n n) (w.alloc (.cells ((List.replicate n false).map Value.bool).toArray 4)) := by
  have h := run_make_row' (P := Try.prog) 95 4 (.bool false) 1 Try.underlying95 infoBool rfl .i64 .i64 n (by omega) (by omega) w
  have e : madeCells #[.bool false] n = ((List.replicate n false).map Value.bool).toArray := by
    apply Array.toList_inj.1
    rw [toList_madeCells_one, List.toList_toArray, List.map_replicate]
  rw [e] at h
  exact h
theorem ownSeen_heap {w : World} {g lo : Nat} {l : List Bool} (h : w.heap[g]? = some (.cells (l.map Value.bool).toArray 4 (0, 0))) (hlo : lo ≤ g) (hl : l.length ≤ 5000) : OwnSeen w lo g l := by
  unfold OwnSeen
  refine ⟨by rw [List.length_map, Nat.mul_one], .inr ⟨g, l.length, (l.map Value.bool).toArray, rfl, hlo, h, Nat.le_refl _, by simp [maxLen]; omega, by simp, by rw [Nat.mul_one]; exact List.take_of_length_le (by simp)⟩⟩
theorem OwnSeen.below {w w' : World} {lo g : Nat} {bs : List Bool} (h : OwnSeen w lo g bs) (hb : Below w.heap.size w w') : OwnSeen w' lo g bs := own_below h hb (Nat.le_refl _)
theorem OwnSeen.fr {w w' : World} {lo g : Nat} {bs : List Bool} {S : List Nat} (h : OwnSeen w lo g bs) (hf : Fr w w' S) (hS : g ∉ S) : OwnSeen w' lo g bs := rowFrS h hf fun s hs => by
  simp [Value.ownBlock] at hs
  rw [hs]
  exact hS
theorem OwnSeen.lt {w : World} {lo g : Nat} {bs : List Bool} (h : OwnSeen w lo g bs) : lo ≤ g ∧ g < w.heap.size := World.ownsRow.lt h g rfl
theorem OwnSeen.at {w : World} {lo g : Nat} {bs : List Bool} (h : OwnSeen w lo g bs) {p : Nat} (hp : p < bs.length) (v : Bool) :
    w.cell? ⟨g, p, none⟩ = some (.bool bs[p]) ∧ w.frozen? ⟨g, p, none⟩ = false ∧ OwnSeen (w.setCell ⟨g, p, none⟩ (.bool v)) lo g (bs.set p v) ∧ Fr w (w.setCell ⟨g, p, none⟩ (.bool v)) [g] := by
  obtain ⟨hst, hgr⟩ := World.ownsRow.stored h p (.bool v)
  refine ⟨?_, World.ownsRow.frozenAt h p, ?_, Fr.of_grown hgr⟩
  · rw [World.ownsRow.cellAt h p (by rw [Nat.mul_one]; exact hp)]
    simp
  · unfold OwnSeen
    rw [List.length_set, List.map_set]
    exact hst
/-- A row of numbers cut at its end. -/
theorem OwnI.pop {w : World} {lo : Nat} {A : Option Addr} {l : List Int} {a : Int} {c : Nat} (h : OwnI w lo ⟨A, l ++ [a], c⟩) : OwnI w lo ⟨A, l, c⟩ := by
  have hlo := h.lo
  obtain ⟨g, cur, e, h1, h2, h3, h4, h5, h6, h7⟩ := OwnI.blk h (by simp)
  dsimp only at e h1 h2 h3 h4 h5 h6 h7
  rw [List.length_append, List.length_singleton] at h3 h7
  subst e
  unfold OwnI TV.val
  dsimp only
  refine ⟨by rw [intsV_len, Nat.mul_one], .inr ⟨g, c, cur, rfl, h1, h5, by omega, h4, by omega, ?_⟩⟩
  rw [Nat.mul_one]
  have e2 : cur.toList.take l.length = (cur.toList.take (l.length + 1)).take l.length := by rw [List.take_take]; congr 1; omega
  rw [e2, h7]
  unfold intsV
  rw [List.map_append, List.take_left' (by simp)]
/-- A row of numbers cut at its front. -/
def tailA (A : Option Addr) (c : Nat) : Option Addr := if c = 1 then A else A.map fun p => p.add 1
theorem TV.Ok.tail {w : World} {A : Option Addr} {q : Int} {l : List Int} {c : Nat} (h : TV.Ok w ⟨A, q :: l, c⟩) : TV.Ok w ⟨tailA A c, l, c - 1⟩ := by
  have hc := h.cap
  have hs := h.sm
  simp only [List.length_cons] at hc hs
  refine ⟨?_, by dsimp only; omega, by dsimp only; omega⟩
  intro hne
  obtain ⟨b, o, e, hb, hat⟩ := h.rd (by simp [intsV])
  dsimp only at e hne hat ⊢
  have hl : l ≠ [] := fun e => by rw [e] at hne; exact hne rfl
  have hl1 : 0 < l.length := List.length_pos_iff.2 hl
  unfold tailA
  rw [if_neg (by omega), e]
  refine ⟨b, o + 1, by simp [Addr.add], hb, fun j u hj => ?_⟩
  rw [show o + 1 + j = o + (j + 1) by omega]
  exact hat (j + 1) u (by unfold intsV at hj ⊢; rw [List.map_cons, List.getElem?_cons_succ]; exact hj)
/-- A row of rows of numbers, of the call's own; the numbers stand elsewhere. -/
def OwnMore (w : World) (lo g c : Nat) (ms : List TV) : Prop := w.ownsRow lo 25 1 (.slice (some ⟨g, 0, none⟩) ms.length c) ms.length (vals ms)
theorem OwnMore.below {w w' : World} {lo g c : Nat} {ms : List TV} (h : OwnMore w lo g c ms) (hb : Below w.heap.size w w') : OwnMore w' lo g c ms := own_below h hb (Nat.le_refl _)
theorem OwnMore.fr {w w' : World} {lo g c : Nat} {ms : List TV} {S : List Nat} (h : OwnMore w lo g c ms) (hf : Fr w w' S) (hS : g ∉ S) : OwnMore w' lo g c ms := rowFrS h hf fun s hs => by
  simp [Value.ownBlock] at hs
  rw [hs]
  exact hS
theorem OwnMore.lt {w : World} {lo g c : Nat} {ms : List TV} (h : OwnMore w lo g c ms) : lo ≤ g ∧ g < w.heap.size := World.ownsRow.lt h g rfl
theorem OwnMore.at {w : World} {lo g c : Nat} {ms : List TV} (h : OwnMore w lo g c ms) {p : Nat} (hp : p < ms.length) (u : TV) :
    w.cell? ⟨g, p, none⟩ = some (.slice ms[p].A ms[p].l.length ms[p].c) ∧ w.frozen? ⟨g, p, none⟩ = false ∧ OwnMore (w.setCell ⟨g, p, none⟩ (.slice u.A u.l.length u.c)) lo g c (ms.set p u) ∧ Fr w (w.setCell ⟨g, p, none⟩ (.slice u.A u.l.length u.c)) [g] := by
  obtain ⟨hst, hgr⟩ := World.ownsRow.stored h p u.val
  refine ⟨?_, World.ownsRow.frozenAt h p, ?_, Fr.of_grown hgr⟩
  · rw [World.ownsRow.cellAt h p (by rw [Nat.mul_one]; exact hp)]
    simp [vals, TV.val, hp]
  · unfold OwnMore
    rw [List.length_set, vals_set]
    exact hst
end Go.Proofs.Ytgjjdmkoamjdpaa
