/- A part, as it grows: what leads to a place, and is in no part yet. -/
import Derived.Test.YtgjjdmkoamjdpaaSpLA
namespace Go.Proofs.Ytgjjdmkoamjdpaa

structure Grow (O : Rows) (n t : Nat) (P0 : List Int) (B : List Nat) (P : List Int) (i : Nat) : Prop where
  len : P.length = n
  nodup : B.Nodup
  here : t ∈ B
  bnd : ∀ x ∈ B, x < n ∧ P0.getD x (-1) < 0
  way : ∀ x ∈ B, ∃ l, WayTo (AtR O) x l t ∧ ∀ y ∈ l, y ∈ B
  done : ∀ j, j < i → ∀ q, AtR O q (B.getD j t) → P0.getD q (-1) < 0 → q < n → q ∈ B
  yes : ∀ x ∈ B, P.getD x (-1) = (t : Int)
  no : ∀ x, x ∉ B → P.getD x (-1) = P0.getD x (-1)
theorem getD_setI {P : List Int} {a : Nat} {v : Int} (ha : a < P.length) (p : Nat) : (P.set a v).getD p (-1) = if p = a then v else P.getD p (-1) := by
  rw [List.getD_eq_getElem?_getD, List.getElem?_set, List.getD_eq_getElem?_getD]
  by_cases e : a = p
  · subst e; rw [if_pos rfl, if_pos ha, if_pos rfl]; rfl
  · rw [if_neg e, if_neg (fun h => e h.symm)]
theorem Grow.start (O : Rows) {n t : Nat} {P0 : List Int} (hl : P0.length = n) (ht : t < n) (h : P0.getD t (-1) < 0) : Grow O n t P0 [t] (P0.set t (t : Int)) 0 := by
  refine ⟨by rw [List.length_set]; exact hl, List.pairwise_singleton _ _, List.mem_singleton.2 rfl, fun x hx => by rw [List.mem_singleton.1 hx]; exact ⟨ht, h⟩, fun x hx => ⟨[], List.mem_singleton.1 hx, fun _ h => nomatch h⟩, fun j hj => absurd hj (Nat.not_lt_zero _), fun x hx => ?_, fun x hx => ?_⟩
  · rw [List.mem_singleton.1 hx, getD_setI (by omega), if_pos rfl]
  · rw [getD_setI (by omega), if_neg (fun e => hx (List.mem_singleton.2 e))]
theorem Grow.open {O : Rows} {n t : Nat} {P0 P : List Int} {B : List Nat} {i : Nat} (h : Grow O n t P0 B P i) (q : Nat) : P.getD q (-1) < 0 ↔ q ∉ B ∧ P0.getD q (-1) < 0 := by
  by_cases hq : q ∈ B
  · rw [h.yes q hq]
    constructor
    · intro hh; omega
    · exact fun hh => absurd hq hh.1
  · rw [h.no q hq]
    exact ⟨fun hh => ⟨hq, hh⟩, fun hh => hh.2⟩
theorem Grow.add {O : Rows} {n t : Nat} {P0 P : List Int} {B : List Nat} {i : Nat} (h : Grow O n t P0 B P i) (hi : i ≤ B.length) {p q : Nat} (hp : p ∈ B) (hqp : AtR O q p) (hq : q < n) (hneg : P.getD q (-1) < 0) : Grow O n t P0 (B ++ [q]) (P.set q (t : Int)) i := by
  obtain ⟨hqB, hq0⟩ := (h.open q).1 hneg
  have hlen := h.len
  refine ⟨by rw [List.length_set]; exact h.len, ?_, List.mem_append.2 (.inl h.here), fun x hx => ?_, fun x hx => ?_, fun j hj z hz h0 hn => ?_, fun x hx => ?_, fun x hx => ?_⟩
  · rw [List.nodup_append]
    exact ⟨h.nodup, List.pairwise_singleton _ _, fun a ha b hb => by rw [List.mem_singleton.1 hb]; exact fun e => hqB (e ▸ ha)⟩
  · rcases List.mem_append.1 hx with hx | hx
    · exact h.bnd x hx
    · rw [List.mem_singleton.1 hx]; exact ⟨hq, hq0⟩
  · rcases List.mem_append.1 hx with hx | hx
    · obtain ⟨l, h1, h2⟩ := h.way x hx
      exact ⟨l, h1, fun y hy => List.mem_append.2 (.inl (h2 y hy))⟩
    · obtain ⟨l, h1, h2⟩ := h.way p hp
      rw [List.mem_singleton.1 hx]
      refine ⟨p :: l, ⟨hqp, h1⟩, fun y hy => ?_⟩
      rcases List.mem_cons.1 hy with rfl | hy
      · exact List.mem_append.2 (.inl hp)
      · exact List.mem_append.2 (.inl (h2 y hy))
  · have e : (B ++ [q]).getD j t = B.getD j t := by
      rw [List.getD_eq_getElem?_getD, List.getD_eq_getElem?_getD, List.getElem?_append_left (by omega)]
    rw [e] at hz
    exact List.mem_append.2 (.inl (h.done j hj z hz h0 hn))
  · rw [getD_setI (by omega)]
    by_cases e : x = q
    · rw [if_pos e]
    · rw [if_neg e]
      rcases List.mem_append.1 hx with hx | hx
      · exact h.yes x hx
      · exact absurd (List.mem_singleton.1 hx) e
  · rw [getD_setI (by omega), if_neg (fun e => hx (List.mem_append.2 (.inr (List.mem_singleton.2 e))))]
    exact h.no x fun hm => hx (List.mem_append.2 (.inl hm))
theorem Grow.next {O : Rows} {n t : Nat} {P0 P : List Int} {B : List Nat} {i : Nat} (h : Grow O n t P0 B P i) (hd : ∀ q, AtR O q (B.getD i t) → q < n → ¬ P.getD q (-1) < 0) : Grow O n t P0 B P (i + 1) :=
  ⟨h.len, h.nodup, h.here, h.bnd, h.way, fun j hj q hq h0 hn => by
    by_cases e : j = i
    · subst e
      have h1 := hd q hq hn
      rw [h.open q] at h1
      by_cases hm : q ∈ B
      · exact hm
      · exact absurd ⟨hm, h0⟩ h1
    · exact h.done j (by omega) q hq h0 hn, h.yes, h.no⟩
theorem Grow.size {O : Rows} {n t : Nat} {P0 P : List Int} {B : List Nat} {i : Nat} (h : Grow O n t P0 B P i) : B.length ≤ n := by
  have := nodup_len (m := List.range n) h.nodup fun x hx => List.mem_range.2 (h.bnd x hx).1
  rwa [List.length_range] at this
theorem Grow.fin {O : Rows} {n : Nat} {L : List Nat} {P0 P : List Int} {B : List Nat} {i k : Nat} (hL : LeftOk O n L) (hk : k < L.length) (h0 : PartAt O n L (k + 1) P0) (h : Grow O n L[k] P0 B P i) (hi : B.length ≤ i) (hO : ∀ p q, AtR O p q → p < n ∧ q < n) : PartAt O n L k P := by
  refine h0.step hL hk (h.bnd _ h.here).2 h.len h.here h.bnd h.way (fun x hx q hq hn hqn => ?_) h.yes h.no hO
  obtain ⟨j, hj, e⟩ := List.getElem_of_mem hx
  refine h.done j (by omega) q ?_ hn hqn
  rw [List.getD_eq_getElem?_getD, List.getElem?_eq_getElem hj, Option.getD_some, e]
  exact hq
end Go.Proofs.Ytgjjdmkoamjdpaa
