/- TupX, what this seat can fill of it. -/
import Derived.Test.YtmldiojlglpoiaaJoTV
namespace Go.Proofs.Ytmldiojlglpoiaa
/- Of neighbours that are the same one stays, plainly: a row's places that are kept; what a sorted row keeps is its set. -/
open Go.RowKit Go.Maps Go.Shelf Go.Sort Go.Lib

/-- A place is kept: the first, or one that reads otherwise than the one ahead of it. -/
def kp (d : Array TV) (j : Nat) : Bool := decide (j = 0 ∨ d[j]!.l ≠ d[j - 1]!.l)
/-- Of the first m places those that are kept. -/
def cpN (d : Array TV) (m : Nat) : List TV := ((List.range m).filter (kp d)).map (d[·]!)
theorem kp_one (d : Array TV) (j : Nat) (h : j < 1) : kp d j = true := decide_eq_true (.inl (by omega))
theorem kp_pos {d : Array TV} {m : Nat} (h : cmpI d[m]!.l d[m - 1]!.l ≠ 0) : kp d m = true := decide_eq_true (.inr fun e => h (cmpI_zero.2 e))
theorem kp_neg {d : Array TV} {m : Nat} (hm : 0 < m) (h : cmpI d[m]!.l d[m - 1]!.l = 0) : kp d m = false := decide_eq_false fun e => e.elim (by omega) fun k => k (cmpI_eq h)
theorem cpN_succ (d : Array TV) (m : Nat) : cpN d (m + 1) = cpN d m ++ if kp d m = true then [d[m]!] else [] := by
  unfold cpN
  rw [List.range_succ, List.filter_append, List.map_append]
  congr 1
  by_cases h : kp d m = true
  · rw [if_pos h, List.filter_cons_of_pos h]; rfl
  · rw [if_neg h, List.filter_cons_of_neg h]; rfl
theorem cpN_all (d : Array TV) (m : Nat) (h : ∀ j, j < m → kp d j = true) : cpN d m = (List.range m).map (d[·]!) := by
  unfold cpN
  rw [List.filter_eq_self.2 fun j hj => h j (List.mem_range.1 hj)]
theorem cpN_sub (d : Array TV) : (cpN d d.size).Sublist d.toList := by
  rw [← range_map_get d]
  exact List.filter_sublist.map _
/-- The second loop: m places looked at, k kept and laid at the row's head, from place k on the row as it was. -/
structure CpI (d : Array TV) (m k : Nat) (dk : Array TV) : Prop where
  size : dk.size = d.size
  len : (cpN d m).length = k
  lt : k < m
  low : ∀ j, j < k → (cpN d m)[j]? = some dk[j]!
  high : ∀ j, k ≤ j → dk[j]! = d[j]!
theorem CpI.start {d : Array TV} {k0 : Nat} (hall : ∀ j, j < k0 → kp d j = true) (hdup : kp d k0 = false) : CpI d (k0 + 1) k0 d := by
  have e : cpN d (k0 + 1) = (List.range k0).map (d[·]!) := by rw [cpN_succ, hdup, cpN_all d k0 hall]; simp
  refine ⟨rfl, by rw [e]; simp, Nat.lt_succ_self _, fun j hj => by rw [e]; simp [hj], fun _ _ => rfl⟩
theorem CpI.skip {d dk : Array TV} {m k : Nat} (h : CpI d m k dk) (hk : kp d m = false) : CpI d (m + 1) k dk := by
  have e : cpN d (m + 1) = cpN d m := by rw [cpN_succ, hk]; simp
  exact ⟨h.size, by rw [e]; exact h.len, by have := h.lt; omega, fun j hj => by rw [e]; exact h.low j hj, h.high⟩
theorem CpI.keep {d dk : Array TV} {m k : Nat} (h : CpI d m k dk) (hm : m < d.size) (hk : kp d m = true) : CpI d (m + 1) (k + 1) (dk.setIfInBounds k d[m]!) := by
  have e : cpN d (m + 1) = cpN d m ++ [d[m]!] := by rw [cpN_succ, if_pos hk]
  have hkd : k < dk.size := by have := h.lt; have := h.size; omega
  refine ⟨by rw [Array.size_setIfInBounds]; exact h.size, by rw [e, List.length_append, h.len]; rfl, by have := h.lt; omega, fun j hj => ?_, fun j hj => ?_⟩
  · rw [e]
    by_cases hj0 : j = k
    · subst hj0
      rw [List.getElem?_append_right (Nat.le_of_eq h.len), h.len, Nat.sub_self, getElem!_set_same dk j _ hkd]
      rfl
    · rw [List.getElem?_append_left (by rw [h.len]; omega), h.low j (by omega), getElem!_set_other dk k j _ hj0]
  · rw [getElem!_set_other dk k j _ (by omega)]; exact h.high j (by omega)
/-- What is laid from place k on leaves the places ahead of it. -/
theorem lay_low (xs : List TV) : ∀ (d : Array TV) (k j : Nat), j < k → (lay d k xs)[j]! = d[j]! := by
  induction xs with
  | nil => intro d k j _; rfl
  | cons x r ih =>
    intro d k j hj
    show (lay (d.setIfInBounds k x) (k + 1) r)[j]! = _
    rw [ih _ _ _ (by omega), getElem!_set_other d k j x (by omega)]
theorem lay_size (xs : List TV) : ∀ (d : Array TV) (k : Nat), (lay d k xs).size = d.size := by
  induction xs with
  | nil => intro d k; rfl
  | cons x r ih =>
    intro d k
    show (lay (d.setIfInBounds k x) (k + 1) r).size = _
    rw [ih, Array.size_setIfInBounds]
/-- What a row that doesn't fall keeps, rises. -/
theorem cpN_ris (d : Array TV) (hu : UpL d.toList) : ∀ m, m ≤ d.size → Ris (tus (cpN d m)) ∧ (∀ q, q ∈ cpN d m → ∃ j, j < m ∧ q = d[j]!) ∧ ∀ j, j < m → ∃ q, q ∈ cpN d m ∧ q.l = d[j]!.l
  | 0, _ => ⟨.nil, fun q hq => (nomatch hq), fun j hj => by omega⟩
  | m + 1, hm => by
    obtain ⟨h1, h2, h3⟩ := cpN_ris d hu m (by omega)
    rw [cpN_succ]
    have hup : ∀ i j, i < j → j < d.size → cmpI d[i]!.l d[j]!.l ≤ 0 := fun i j hij hj => by
      have := (List.pairwise_iff_getElem.1 hu) i j (by simp; omega) (by simpa using hj) hij
      simp only [Array.getElem_toList] at this
      rw [getElem!_pos d i (by omega), getElem!_pos d j hj]
      exact this
    by_cases hk : kp d m = true
    · rw [if_pos hk]
      refine ⟨?_, fun q hq => ?_, fun j hj => ?_⟩
      · rw [tus_app]
        unfold Ris
        rw [List.pairwise_append]
        refine ⟨h1, List.pairwise_singleton _ _, fun a ha b hb => ?_⟩
        obtain ⟨t, ht, rfl⟩ := List.mem_map.1 ha
        have hb' : b = d[m]!.l := List.mem_singleton.1 hb
        subst hb'
        obtain ⟨j, hj, rfl⟩ := h2 t ht
        have hne : d[m]!.l ≠ d[m - 1]!.l := (of_decide_eq_true hk).resolve_left (by omega)
        have hlt : cmpI d[m - 1]!.l d[m]!.l < 0 := by
          have hle := hup (m - 1) m (by omega) (by omega)
          have hnz : cmpI d[m - 1]!.l d[m]!.l ≠ 0 := fun e => hne (cmpI_eq e).symm
          omega
        by_cases hjm : j = m - 1
        · rw [hjm]; exact hlt
        · have hle := hup j (m - 1) (by omega) (by omega)
          by_cases h0 : cmpI d[j]!.l d[m - 1]!.l = 0
          · rw [cmpI_eq h0]; exact hlt
          · exact cmpI_trans (by omega) hlt
      · rcases List.mem_append.1 hq with hq | hq
        · obtain ⟨j, hj, e⟩ := h2 q hq
          exact ⟨j, by omega, e⟩
        · exact ⟨m, Nat.lt_succ_self _, List.mem_singleton.1 hq⟩
      · by_cases hjm : j = m
        · exact ⟨d[m]!, List.mem_append_right _ (List.mem_singleton.2 rfl), by rw [hjm]⟩
        · obtain ⟨q, hq, e⟩ := h3 j (by omega)
          exact ⟨q, List.mem_append_left _ hq, e⟩
    · rw [if_neg hk, List.append_nil]
      refine ⟨h1, fun q hq => ?_, fun j hj => ?_⟩
      · obtain ⟨j, hj, e⟩ := h2 q hq
        exact ⟨j, by omega, e⟩
      · by_cases hjm : j = m
        · have hkf : ¬ (m = 0 ∨ d[m]!.l ≠ d[m - 1]!.l) := fun h => hk (decide_eq_true h)
          have hm0 : m ≠ 0 := fun e => hkf (.inl e)
          have he : d[m]!.l = d[m - 1]!.l := Decidable.byContradiction fun h => hkf (.inr h)
          obtain ⟨q, hq, e⟩ := h3 (m - 1) (by omega)
          exact ⟨q, hq, by rw [hjm, he, e]⟩
        · exact h3 j (by omega)
/-- So it is the set of its tuples. -/
theorem cpN_set (d : Array TV) (hu : UpL d.toList) (L : List Tu) (hp : (tus d.toList).Perm L) : tus (cpN d d.size) = setL L := by
  obtain ⟨h1, h2, h3⟩ := cpN_ris d hu d.size (Nat.le_refl _)
  refine ris_ext h1 (ris_set L) fun q => ?_
  rw [mem_set, ← hp.mem_iff]
  constructor
  · intro hq
    obtain ⟨t, ht, rfl⟩ := List.mem_map.1 hq
    exact mem_tus ((cpN_sub d).subset ht)
  · intro hq
    obtain ⟨t, ht, rfl⟩ := List.mem_map.1 hq
    obtain ⟨i, hi, rfl⟩ := List.getElem_of_mem ht
    have hi' : i < d.size := by simpa using hi
    obtain ⟨q, hq, e⟩ := h3 i hi'
    rw [Array.getElem_toList, ← getElem!_pos d i hi', ← e]
    exact mem_tus hq
end Go.Proofs.Ytmldiojlglpoiaa
