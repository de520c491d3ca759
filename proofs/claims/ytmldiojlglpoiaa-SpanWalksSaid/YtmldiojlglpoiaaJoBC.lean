/- JoBC, what this seat can fill of it. -/
import Derived.Test.YtmldiojlglpoiaaJnE
namespace Go.Proofs.Ytmldiojlglpoiaa
/- What the law JoinMore wants of rows, plainly. -/
theorem len_sub {α : Type} [DecidableEq α] : ∀ (l m : List α), l.Nodup → (∀ a ∈ l, a ∈ m) → l.length ≤ m.length
  | [], _, _, _ => Nat.zero_le _
  | a :: l, m, hn, hs => by
    rw [List.nodup_cons] at hn
    have h1 : a ∈ m := hs a (by simp)
    have h2 := len_sub l (m.erase a) hn.2 (fun b hb => (List.mem_erase_of_ne (fun (e : b = a) => hn.1 (e ▸ hb))).2 (hs b (List.mem_cons_of_mem _ hb)))
    rw [List.length_erase_of_mem h1] at h2
    have h3 := List.length_pos_of_mem h1
    simp only [List.length_cons]
    omega
theorem fit_sub {s : Stp} {es es' : List Ed} (h : ∀ e ∈ es, e ∈ es') : ∀ e ∈ fitL s es, e ∈ fitL s es' := by
  intro e he
  unfold fitL at he ⊢
  obtain ⟨x, hx, rfl⟩ := List.mem_map.1 he
  obtain ⟨h1, h2⟩ := List.mem_filter.1 hx
  exact List.mem_map.2 ⟨x, List.mem_filter.2 ⟨h x h1, h2⟩, rfl⟩
theorem with_sub {s : Stp} {rows rows' : List Tu} {es es' : List Ed} (h1 : ∀ r ∈ rows, r ∈ rows') (h2 : ∀ e ∈ es, e ∈ es') : ∀ r ∈ withL s rows es, r ∈ withL s rows' es' := by
  intro r hr
  unfold withL foundL at hr ⊢
  obtain ⟨q, hq, hr⟩ := List.mem_flatMap.1 hr
  obtain ⟨e, he, rfl⟩ := List.mem_map.1 hr
  obtain ⟨h3, h4⟩ := List.mem_filter.1 he
  exact List.mem_flatMap.2 ⟨q, h1 q hq, List.mem_map.2 ⟨e, List.mem_filter.2 ⟨fit_sub h2 e h3, h4⟩, rfl⟩⟩
theorem low_sub {es es' : List Ed} (he : es.Nodup) (h2 : ∀ e ∈ es, e ∈ es') : ∀ (ss : List Stp) (kn : Nat) (rows rows' : List Tu), ChainOk kn ss → (∀ r ∈ rows, r.length = kn) → rows.Nodup → (∀ r ∈ rows, r ∈ rows') → LowL es' ss rows' → LowL es ss rows
  | [], _, _, _, _, _, _, _, _ => trivial
  | s :: r, kn, rows, rows', hc, hl, hn, h1, hlow => by
    obtain ⟨rfl, c1, c2, c3⟩ := hc
    have hs := with_sub (s := s) h1 h2
    have hnw := nodup_with hl c1 c2 hn he
    exact ⟨Nat.le_trans (len_sub _ _ hnw hs) hlow.1, low_sub he h2 r s.next _ _ c3 (with_lens hl c1 c2) hnw hs hlow.2⟩
theorem lowP_sub {ats : List Atm} {es es' : List Ed} (h : ∀ e ∈ es, e ∈ es') (hl : LowP ats es') : LowP ats es :=
  low_sub (onceL_nodup es) (fun e he => onceL_mem.2 (h e (onceL_mem.1 he))) _ 0 _ _ (chain_ok ats) (by simp) (by simp) (fun _ h => h) hl
theorem code_more {v : Vw} {es es' : List Ed} (h : ∀ e ∈ es, e ∈ es') (h0 : rowsC v es ≠ 0 ∨ rowsC v es' ≠ 0) : rowsC v es = rowsC v es' ∨ rowsC v es' = 5 := by
  unfold rowsC at h0 ⊢
  by_cases hg : goodP v = true
  · simp only [if_pos hg] at h0 ⊢
    by_cases hl : (rowsOfL v.atoms es').length ≤ 3000
    · have := lowP_iff.1 (lowP_sub h (lowP_iff.2 hl))
      rw [if_pos this, if_pos hl] at h0
      simp at h0
    · rw [if_neg hl]; exact .inr rfl
  · rw [if_neg hg, if_neg hg]
    exact .inl rfl
theorem mem_rowsR {v : Vw} {es : List Ed} (h0 : rowsC v es = 0) {r : Tu} : r ∈ rowsR v es ↔ IsRow v.atoms es r := by
  have hg := rows_good h0
  unfold rowsC at h0
  rw [if_pos hg] at h0
  have hl : (rowsOfL v.atoms es).length ≤ 3000 := by
    by_cases hl : (rowsOfL v.atoms es).length ≤ 3000
    · exact hl
    · rw [if_neg hl] at h0; cases h0
  unfold rowsR
  rw [if_pos hg, if_pos hl, mem_set]
  unfold rowsOfL
  rw [rowsN_low _ _ (lowP_iff.2 hl)]
  exact mem_rows
theorem row_more {v : Vw} {es es' : List Ed} (h : ∀ e ∈ es, e ∈ es') (h0 : rowsC v es = 0) (h1 : rowsC v es' = 0) {r : Tu} (hr : r ∈ rowsR v es) : r ∈ rowsR v es' := by
  rw [mem_rowsR h0] at hr
  rw [mem_rowsR h1]
  exact ⟨hr.1, fun a ha => h _ (hr.2 a ha)⟩
/-- The edge that a row has at an atom. -/
def rowEd (ats : List Atm) (r : Tu) (a : Atm) : Ed := ⟨r.getD ((varsL ats).idxOf a.fr) 0, a.lab, r.getD ((varsL ats).idxOf a.to) 0⟩
theorem row_new {v : Vw} {es : List Ed} {m : Ed} (h0 : rowsC v es = 0) (h1 : rowsC v (es ++ [m]) = 0) {r : Tu} (hr : r ∈ rowsR v (es ++ [m])) (hn : r ∉ rowsR v es) : (v.atoms.any fun a => decide (m = rowEd v.atoms r a)) = true := by
  rw [mem_rowsR h0] at hn
  rw [mem_rowsR h1] at hr
  rw [List.any_eq_true]
  apply Classical.byContradiction
  intro hc
  refine hn ⟨hr.1, fun a ha => ?_⟩
  rcases List.mem_append.1 (hr.2 a ha) with h | h
  · exact h
  · exact absurd ⟨a, ha, decide_eq_true (List.mem_singleton.1 h).symm⟩ hc
end Go.Proofs.Ytmldiojlglpoiaa
