/- A walk that stands in a list, plainly: what it has left, on whom it stands, where it may go yet. -/
import Derived.Test.YtgjjdmkoamjdpaaJnF
namespace Go.Proofs.Ytgjjdmkoamjdpaa

/-- The way on which the walk stands, its end first. -/
def ChainTo (O : Rows) : List Nat → Prop
  | [] => True
  | [_] => True
  | b :: a :: l => AtR O a b ∧ ChainTo O (a :: l)
theorem ChainTo.tail {O : Rows} {a : Nat} {l : List Nat} (h : ChainTo O (a :: l)) : ChainTo O l := by
  cases l with
  | nil => trivial
  | cons b l => exact h.2
theorem ChainTo.cons {O : Rows} {a b : Nat} {l : List Nat} (h : ChainTo O (a :: l)) (k : AtR O a b) : ChainTo O (b :: a :: l) := ⟨k, h⟩
theorem ChainTo.lead {O : Rows} : ∀ {l : List Nat} {a q : Nat}, ChainTo O (a :: l) → q ∈ l → Lead (AtR O) q a
  | [], _, _, _, h => nomatch h
  | b :: l, a, q, h, hq => by
    rcases List.mem_cons.1 hq with rfl | hq
    · exact .one h.1
    · exact (ChainTo.lead h.2 hq).snoc h.1
/-- What has been left (L), on whom the walk stands (R, its end first), where each may lead it yet (M). -/
structure Dfs (O : Rows) (n : Nat) (L R : List Nat) (M : Rows) : Prop where
  ml : M.length = n
  nd : (L ++ R).Nodup
  bnd : ∀ q, q ∈ L ++ R → q < n
  tk : ∀ p, ∃ T, O.getD p [] = T ++ M.getD p [] ∧ ∀ q ∈ T, q ∈ L ++ R
  fin : ∀ p ∈ L, M.getD p [] = []
  chain : ChainTo O R
  back : ∀ (i : Nat) (hi : i < L.length), ∀ x ∈ L.take (i + 1), ∀ q, AtR O x q → q ∉ L.take (i + 1) → Lead (AtR O) q L[i]
theorem Dfs.start {O : Rows} {n : Nat} (h : O.length = n) : Dfs O n [] [] O :=
  ⟨h, .nil, fun _ h => by simp at h, fun p => ⟨[], rfl, fun _ h => by simp at h⟩, fun _ h => by simp at h, trivial, fun i hi => absurd hi (Nat.not_lt_zero _)⟩
theorem Dfs.push {O : Rows} {n : Nat} {L : List Nat} {M : Rows} (h : Dfs O n L [] M) {q : Nat} (hq : q < n) (hn : q ∉ L) : Dfs O n L [q] M := by
  refine ⟨h.ml, ?_, fun z hz => ?_, fun p => ?_, h.fin, trivial, h.back⟩
  · have h1 := h.nd
    rw [List.append_nil] at h1
    rw [List.nodup_append]
    exact ⟨h1, List.pairwise_singleton _ _, fun a ha b hb => by rw [List.mem_singleton.1 hb]; exact fun e => hn (e ▸ ha)⟩
  · rcases List.mem_append.1 hz with hz | hz
    · exact h.bnd z (List.mem_append.2 (.inl hz))
    · rw [List.mem_singleton.1 hz]; exact hq
  · obtain ⟨T, h1, h2⟩ := h.tk p
    exact ⟨T, h1, fun z hz => by have := h2 z hz; rw [List.append_nil] at this; exact List.mem_append.2 (.inl this)⟩
/-- The walk leaves a place. -/
theorem Dfs.leave {O : Rows} {n a : Nat} {L R : List Nat} {M : Rows} (h : Dfs O n L (a :: R) M) (hm : M.getD a [] = []) : Dfs O n (L ++ [a]) R M := by
  have hmem : ∀ q, q ∈ L ++ (a :: R) ↔ q ∈ (L ++ [a]) ++ R := fun q => by simp
  have hgone : ∀ x ∈ L ++ [a], ∀ q, AtR O x q → q ∉ L ++ [a] → Lead (AtR O) q a := by
    intro x hx q hq hn
    obtain ⟨T, h1, h2⟩ := h.tk x
    have hmx : M.getD x [] = [] := by
      rcases List.mem_append.1 hx with hx | hx
      · exact h.fin x hx
      · rw [List.mem_singleton.1 hx]; exact hm
    unfold AtR at hq
    rw [h1, hmx, List.append_nil] at hq
    have h3 := h2 q hq
    rw [List.mem_append] at h3
    rcases h3 with h3 | h3
    · exact absurd (List.mem_append.2 (.inl h3)) hn
    · rcases List.mem_cons.1 h3 with rfl | h3
      · exact absurd (List.mem_append.2 (.inr (List.mem_singleton.2 rfl))) hn
      · exact h.chain.lead h3
  refine ⟨h.ml, ?_, fun z hz => h.bnd z ((hmem z).2 hz), fun p => ?_, fun p hp => ?_, h.chain.tail, fun i hi x hx q hq hn => ?_⟩
  · have h1 := h.nd
    rw [List.append_assoc]
    exact h1
  · obtain ⟨T, h1, h2⟩ := h.tk p
    exact ⟨T, h1, fun z hz => (hmem z).1 (h2 z hz)⟩
  · rcases List.mem_append.1 hp with hp | hp
    · exact h.fin p hp
    · rw [List.mem_singleton.1 hp]; exact hm
  · rw [List.length_append, List.length_singleton] at hi
    by_cases e : i < L.length
    · rw [List.take_append_of_le_length (by omega)] at hx hn
      rw [List.getElem_append_left e]
      exact h.back i e x hx q hq hn
    · have e2 : i = L.length := by omega
      subst e2
      rw [List.take_of_length_le (by simp)] at hx hn
      rw [show (L ++ [a])[L.length]'(by simp) = a from by simp]
      exact hgone x hx q hq hn
theorem getD_setR {M : Rows} {a : Nat} {m : List Nat} (ha : a < M.length) (p : Nat) : (M.set a m).getD p [] = if p = a then m else M.getD p [] := by
  rw [List.getD_eq_getElem?_getD, List.getElem?_set, List.getD_eq_getElem?_getD]
  by_cases e : a = p
  · subst e; rw [if_pos rfl, if_pos ha, if_pos rfl]; rfl
  · rw [if_neg e, if_neg (fun h => e h.symm)]
/-- It looks along an edge, to a place that is known. -/
theorem Dfs.skip {O : Rows} {n a q : Nat} {L R m : List Nat} {M : Rows} (h : Dfs O n L (a :: R) M) (hm : M.getD a [] = q :: m) (hq : q ∈ L ++ (a :: R)) : Dfs O n L (a :: R) (M.set a m) := by
  have ha : a < M.length := by rw [h.ml]; exact h.bnd a (by simp)
  refine ⟨by rw [List.length_set]; exact h.ml, h.nd, h.bnd, fun p => ?_, fun p hp => ?_, h.chain, h.back⟩
  · obtain ⟨T, h1, h2⟩ := h.tk p
    rw [getD_setR ha]
    by_cases e : p = a
    · subst e
      rw [if_pos rfl]
      exact ⟨T ++ [q], by rw [h1, hm, List.append_assoc]; rfl, fun z hz => by
        rcases List.mem_append.1 hz with hz | hz
        · exact h2 z hz
        · rw [List.mem_singleton.1 hz]; exact hq⟩
    · rw [if_neg e]; exact ⟨T, h1, h2⟩
  · rw [getD_setR ha]
    by_cases e : p = a
    · subst e
      have := h.fin p hp
      rw [hm] at this
      cases this
    · rw [if_neg e]; exact h.fin p hp
/-- .. to a place that is new. -/
theorem Dfs.go {O : Rows} {n a q : Nat} {L R m : List Nat} {M : Rows} (h : Dfs O n L (a :: R) M) (hm : M.getD a [] = q :: m) (hq : q < n) (hn : q ∉ L ++ (a :: R)) : Dfs O n L (q :: a :: R) (M.set a m) := by
  have ha : a < M.length := by rw [h.ml]; exact h.bnd a (by simp)
  have hmem : ∀ z, z ∈ L ++ (q :: a :: R) ↔ z = q ∨ z ∈ L ++ (a :: R) := fun z => by
    simp only [List.mem_append, List.mem_cons]
    constructor
    · rintro (h | h | h)
      · exact .inr (.inl h)
      · exact .inl h
      · exact .inr (.inr h)
    · rintro (h | h | h)
      · exact .inr (.inl h)
      · exact .inl h
      · exact .inr (.inr h)
  have hat : AtR O a q := by
    obtain ⟨T, h1, _⟩ := h.tk a
    unfold AtR
    rw [h1, hm]
    simp
  refine ⟨by rw [List.length_set]; exact h.ml, ?_, fun z hz => ?_, fun p => ?_, fun p hp => ?_, h.chain.cons hat, h.back⟩
  · have h1 := List.nodup_append.1 h.nd
    rw [List.nodup_append]
    refine ⟨h1.1, List.nodup_cons.2 ⟨fun hm => hn (List.mem_append.2 (.inr hm)), h1.2.1⟩, fun x hx b hb => ?_⟩
    rcases List.mem_cons.1 hb with rfl | hb
    · exact fun e => hn (List.mem_append.2 (.inl (e ▸ hx)))
    · exact h1.2.2 x hx b hb
  · rcases (hmem z).1 hz with rfl | hz
    · exact hq
    · exact h.bnd z hz
  · obtain ⟨T, h1, h2⟩ := h.tk p
    rw [getD_setR ha]
    by_cases e : p = a
    · subst e
      rw [if_pos rfl]
      exact ⟨T ++ [q], by rw [h1, hm, List.append_assoc]; rfl, fun z hz => by
        rcases List.mem_append.1 hz with hz | hz
        · exact (hmem z).2 (.inr (h2 z hz))
        · rw [List.mem_singleton.1 hz]; exact (hmem q).2 (.inl rfl)⟩
    · rw [if_neg e]; exact ⟨T, h1, fun z hz => (hmem z).2 (.inr (h2 z hz))⟩
  · rw [getD_setR ha]
    by_cases e : p = a
    · subst e
      have := h.fin p hp
      rw [hm] at this
      cases this
    · rw [if_neg e]; exact h.fin p hp
/-- Behind the whole walk. -/
theorem Dfs.done {O : Rows} {n : Nat} {L : List Nat} {M : Rows} (h : Dfs O n L [] M) (hall : ∀ q, q < n → q ∈ L) : LeftOk O n L := by
  have h1 := h.nd
  rw [List.append_nil] at h1
  exact ⟨h1, fun q => ⟨fun hq => h.bnd q (List.mem_append.2 (.inl hq)), hall q⟩, h.back⟩
theorem Dfs.len {O : Rows} {n : Nat} {L R : List Nat} {M : Rows} (h : Dfs O n L R M) : L.length + R.length ≤ n := by
  have := nodup_len (m := List.range n) h.nd fun x hx => List.mem_range.2 (h.bnd x hx)
  rw [List.length_append, List.length_range] at this
  exact this
/-- How much is to do yet. -/
def leftM (M : Rows) (R : List Nat) : Nat := 2 * (M.map List.length).sum + R.length
theorem sum_set : ∀ {M : Rows} {a : Nat} {q : Nat} {m : List Nat}, M.getD a [] = q :: m → ((M.set a m).map List.length).sum + 1 = (M.map List.length).sum
  | [], a, q, m, h => by simp at h
  | x :: M, 0, q, m, h => by
    simp only [List.getD_cons_zero] at h
    subst h
    simp
    omega
  | x :: M, a + 1, q, m, h => by
    have ih := sum_set (M := M) (a := a) (q := q) (m := m) (by simpa using h)
    rw [List.set_cons_succ, List.map_cons, List.map_cons, List.sum_cons, List.sum_cons]
    omega
end Go.Proofs.Ytgjjdmkoamjdpaa
