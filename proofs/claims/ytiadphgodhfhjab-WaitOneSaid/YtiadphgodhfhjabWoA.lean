/- A row of sessions, and the ring that it makes: plainly. -/
import Derived.Test.YtiadphgodhfhjabWtR
namespace Go.Proofs.Ytiadphgodhfhjab
open Go.RowKit

theorem nodup_at {l : List Nat} (h : l.Nodup) {i j : Nat} (hi : i < l.length) (hj : j < l.length) (e : l.getD i 0 = l.getD j 0) : i = j := by
  rw [List.getD_eq_getElem?_getD, List.getD_eq_getElem?_getD, List.getElem?_eq_getElem hi, List.getElem?_eq_getElem hj, Option.getD_some, Option.getD_some] at e
  have hp := List.pairwise_iff_getElem.1 h
  rcases Nat.lt_trichotomy i j with k | k | k
  · exact absurd e (hp i j hi hj k)
  · exact k
  · exact absurd e.symm (hp j i hj hi k)
theorem idx_at {l : List Nat} (h : l.Nodup) {j : Nat} (hj : j < l.length) : l.idxOf (l.getD j 0) = j := by
  have hm : l.getD j 0 ∈ l := getD_mem0 hj
  have hlt := List.idxOf_lt_length_of_mem hm
  refine nodup_at h hlt hj ?_
  rw [List.getD_eq_getElem?_getD (l := l) (i := l.idxOf (l.getD j 0)), List.getElem?_eq_getElem hlt, Option.getD_some, List.getElem_idxOf]
theorem no_ring {R : Nat → Nat → Prop} (f : Nat → Nat) (h : ∀ a b, R a b → f a < f b) : caughtL R = [] := by
  have hl : ∀ {a b : Nat}, Ld R a b → f a < f b := by
    intro a b k
    induction k with
    | one k => exact h _ _ k
    | snoc _ k ih => exact Nat.lt_trans ih (h _ _ k)
  rw [List.eq_nil_iff_forall_not_mem]
  intro s hs
  exact absurd (hl (mem_caughtL.1 hs).2) (Nat.lt_irrefl _)
/-- The first i edges of a row. -/
def rowE (l : List Nat) (i : Nat) : List (Int × Int) := (List.range i).map fun j => (((l.getD j 0 : Nat) : Int), ((l.getD (j + 1) 0 : Nat) : Int))
theorem rowE_succ (l : List Nat) (i : Nat) : rowE l (i + 1) = rowE l i ++ [(((l.getD i 0 : Nat) : Int), ((l.getD (i + 1) 0 : Nat) : Int))] := by
  unfold rowE
  rw [List.range_succ, List.map_append]
  rfl
theorem rowE_len (l : List Nat) (i : Nat) : (rowE l i).length = i := by simp [rowE]
def ringE (l : List Nat) : List (Int × Int) := rowE l (l.length - 1) ++ [(((l.getD (l.length - 1) 0 : Nat) : Int), ((l.getD 0 0 : Nat) : Int))]
theorem rowE_ed {l : List Nat} {i a b : Nat} : EdR (rowE l i) a b ↔ ∃ j, j < i ∧ a = l.getD j 0 ∧ b = l.getD (j + 1) 0 := by
  unfold EdR rowE
  rw [List.mem_map]
  constructor
  · rintro ⟨j, hj, e⟩
    rw [Prod.mk.injEq] at e
    exact ⟨j, List.mem_range.1 hj, by omega, by omega⟩
  · rintro ⟨j, hj, rfl, rfl⟩
    exact ⟨j, List.mem_range.2 hj, rfl⟩
theorem ringE_ed {l : List Nat} {a b : Nat} : EdR (ringE l) a b ↔ (∃ j, j + 1 < l.length ∧ a = l.getD j 0 ∧ b = l.getD (j + 1) 0) ∨ (a = l.getD (l.length - 1) 0 ∧ b = l.getD 0 0) := by
  have h : EdR (ringE l) a b ↔ EdR (rowE l (l.length - 1)) a b ∨ (a = l.getD (l.length - 1) 0 ∧ b = l.getD 0 0) := by
    unfold EdR ringE
    rw [List.mem_append, List.mem_singleton, Prod.mk.injEq]
    exact or_congr Iff.rfl ⟨fun e => ⟨by omega, by omega⟩, fun e => by rw [e.1, e.2]; exact ⟨rfl, rfl⟩⟩
  rw [h, rowE_ed]
  exact or_congr ⟨fun ⟨j, h1, h2⟩ => ⟨j, by omega, h2⟩, fun ⟨j, h1, h2⟩ => ⟨j, by omega, h2⟩⟩ Iff.rfl
/-- Sessions, each once. -/
structure Ses (l : List Nat) : Prop where
  nd : l.Nodup
  bnd : ∀ x ∈ l, 1 ≤ x ∧ x ≤ 16
theorem Ses.len {l : List Nat} (h : Ses l) : l.length ≤ 16 := by
  have := nodup_lenW (m := (List.range 16).map (· + 1)) h.nd fun x hx => List.mem_map.2 ⟨x - 1, List.mem_range.2 (by have := h.bnd x hx; omega), by have := h.bnd x hx; omega⟩
  simpa using this
theorem Ses.row_good {l : List Nat} (h : Ses l) : goodE (rowE l (l.length - 1)) := by
  refine ⟨by rw [rowE_len]; have := h.len; omega, fun e he => ?_⟩
  unfold rowE at he
  obtain ⟨j, hj, rfl⟩ := List.mem_map.1 he
  have hj := List.mem_range.1 hj
  have h1 := h.bnd _ (getD_mem0 (l := l) (i := j) (by omega))
  have h2 := h.bnd _ (getD_mem0 (l := l) (i := j + 1) (by omega))
  dsimp only
  omega
theorem Ses.ring_good {l : List Nat} (h : Ses l) (hp : 0 < l.length) : goodE (ringE l) := by
  have hr := h.row_good
  refine ⟨by unfold ringE; rw [List.length_append, rowE_len]; have := h.len; simp; omega, fun e he => ?_⟩
  unfold ringE at he
  rcases List.mem_append.1 he with he | he
  · exact hr.2 e he
  · rw [List.mem_singleton.1 he]
    have h1 := h.bnd _ (getD_mem0 (l := l) (i := l.length - 1) (by omega))
    have h2 := h.bnd _ (getD_mem0 (l := l) (i := 0) hp)
    dsimp only
    omega
theorem Ses.row_none {l : List Nat} (h : Ses l) : caughtL (EdR (rowE l (l.length - 1))) = [] :=
  no_ring (fun a => l.idxOf a) fun a b k => by
    obtain ⟨j, hj, rfl, rfl⟩ := rowE_ed.1 k
    rw [idx_at h.nd (by omega), idx_at h.nd (by omega)]
    omega
theorem Ses.ring_walk (l : List Nat) : Walk (EdR (ringE l)) l := fun i hi => ringE_ed.2 (.inl ⟨i, hi, rfl, rfl⟩)
theorem Ses.ring_in {l : List Nat} (hp : 0 < l.length) {i : Nat} (hi : i < l.length) : InRing (EdR (ringE l)) (l.getD i 0) := by
  have hw := Ses.ring_walk l
  have hb : EdR (ringE l) (l.getD (l.length - 1) 0) (l.getD 0 0) := ringE_ed.2 (.inr ⟨rfl, rfl⟩)
  have h1 : Ld (EdR (ringE l)) (l.getD i 0) (l.getD 0 0) := by
    by_cases e : i = l.length - 1
    · rw [e]; exact .one hb
    · exact (hw.lead (i := i) (j := l.length - 1) (by omega) (by omega)).snoc hb
  by_cases e : i = 0
  · rw [e] at h1 ⊢; exact h1
  · exact h1.trans (hw.lead (by omega) hi)
theorem Ses.ring_mem {l : List Nat} (h : Ses l) (hp : 0 < l.length) (s : Nat) : s ∈ caughtL (EdR (ringE l)) ↔ s ∈ l := by
  rw [mem_caughtL]
  constructor
  · rintro ⟨_, hr⟩
    obtain ⟨c, hc⟩ := Ld.first hr
    rcases ringE_ed.1 hc with ⟨j, hj, rfl, _⟩ | ⟨rfl, _⟩
    · exact getD_mem0 (by omega)
    · exact getD_mem0 (by omega)
  · intro hs
    obtain ⟨i, hi, e⟩ := List.getElem_of_mem hs
    have e2 : s = l.getD i 0 := by rw [← e, List.getD_eq_getElem?_getD, List.getElem?_eq_getElem hi]; rfl
    exact ⟨h.bnd s hs, e2 ▸ Ses.ring_in hp hi⟩
theorem Ses.ring_len {l : List Nat} (h : Ses l) (hp : 0 < l.length) : (caughtL (EdR (ringE l))).length = l.length := by
  have hn : (caughtL (EdR (ringE l))).Nodup := (caughtL_rise _).imp fun k => Nat.ne_of_lt k
  exact Nat.le_antisymm (nodup_lenW hn fun x hx => (h.ring_mem hp x).1 hx) (nodup_lenW h.nd fun x hx => (h.ring_mem hp x).2 hx)
theorem Ses.ring_vics {l : List Nat} (h : Ses l) (hp : 0 < l.length) {b : Nat → Int} {v : Nat} (hv : Yst b l v) : AllVics (EdR (ringE l)) b [v] := by
  have hy : Yst b (caughtL (EdR (ringE l))) v := ⟨(h.ring_mem hp v).2 hv.mem, fun s hs => hv.top s ((h.ring_mem hp s).1 hs)⟩
  refine ⟨Vics.snoc (Vics.nil _ _) (by rw [off_nil]; exact hy), ?_⟩
  obtain ⟨p, hpl, e⟩ := List.getElem_of_mem hv.mem
  have ev : v = l.getD p 0 := by rw [← e, List.getD_eq_getElem?_getD, List.getElem?_eq_getElem hpl]; rfl
  refine no_ring (fun a => if l.idxOf a < p then l.idxOf a + l.length else l.idxOf a) fun a c k => ?_
  have ha : a ≠ v := fun e => k.2.1 (List.mem_singleton.2 e)
  have hc : c ≠ v := fun e => k.2.2 (List.mem_singleton.2 e)
  rcases ringE_ed.1 k.1 with ⟨j, hj, rfl, rfl⟩ | ⟨rfl, rfl⟩
  · rw [idx_at h.nd (by omega), idx_at h.nd (by omega)]
    have h1 : j ≠ p := fun e => ha (by rw [e, ev])
    have h2 : j + 1 ≠ p := fun e => hc (by rw [e, ev])
    split <;> split <;> omega
  · rw [idx_at h.nd (by omega), idx_at h.nd hp]
    have h1 : l.length - 1 ≠ p := fun e => ha (by rw [e, ev])
    have h2 : 0 ≠ p := fun e => hc (by rw [ev, ← e])
    split <;> split <;> omega
/-- The youngest so far. -/
structure BestW (b : Nat → Int) (l : List Nat) (k v : Nat) : Prop where
  mem : v ∈ l
  top : ∀ s ∈ l.take k, b s < b v ∨ (b s = b v ∧ s ≤ v)
theorem BestW.start {b : Nat → Int} {l : List Nat} (hp : 0 < l.length) : BestW b l 0 (l.getD 0 0) := ⟨getD_mem0 hp, fun s hs => by simp at hs⟩
theorem BestW.turn {b : Nat → Int} {l : List Nat} {k v x : Nat} (h : BestW b l k v) (hk : k < l.length) (hx : x = l.getD k 0) (hq : b v < b x ∨ (b x = b v ∧ v < x)) : BestW b l (k + 1) x := by
  have htk : l.take (k + 1) = l.take k ++ [x] := by rw [List.take_succ_eq_append_getElem hk, hx, List.getD_eq_getElem?_getD, List.getElem?_eq_getElem hk]; rfl
  refine ⟨by rw [hx]; exact getD_mem0 hk, fun s hs => ?_⟩
  rw [htk] at hs
  rcases List.mem_append.1 hs with hs | hs
  · have := h.top s hs; omega
  · rw [List.mem_singleton.1 hs]; exact .inr ⟨rfl, Nat.le_refl _⟩
theorem BestW.keep {b : Nat → Int} {l : List Nat} {k v x : Nat} (h : BestW b l k v) (hk : k < l.length) (hx : x = l.getD k 0) (hq : ¬ (b v < b x ∨ (b x = b v ∧ v < x))) : BestW b l (k + 1) v := by
  have htk : l.take (k + 1) = l.take k ++ [x] := by rw [List.take_succ_eq_append_getElem hk, hx, List.getD_eq_getElem?_getD, List.getElem?_eq_getElem hk]; rfl
  refine ⟨h.mem, fun s hs => ?_⟩
  rw [htk] at hs
  rcases List.mem_append.1 hs with hs | hs
  · exact h.top s hs
  · rw [List.mem_singleton.1 hs]; omega
theorem BestW.fin {b : Nat → Int} {l : List Nat} {v : Nat} (h : BestW b l l.length v) : Yst b l v := ⟨h.mem, fun s hs => h.top s (by rw [List.take_length]; exact hs)⟩
end Go.Proofs.Ytiadphgodhfhjab
