/- Words for the walks of WordsAgain and WordsMoved: what Split answers, plainly; the blanks of the statements. -/
import Derived.Test.YtfgojbfdjbochaaDoorWdL
import Derived.Test.YtfgojbfdjbochaaDoorWdJ
namespace Go.Proofs.YtfgojbfdjbochaaDoor
open Go.RowKit Go.Maps

theorem mach_len : ∀ (rs : List Nat) (s : Sp) (k : Nat) (ws : List Wd), Good s k → mach s rs = .ok ws → ws.length ≤ k + rs.length ∧ ∀ x ∈ ws, x.ln + x.co ≤ 2 + k + rs.length
  | [], s, k, ws, hg, h => by
    cases h
    exact ⟨hg.len, fun x hx => (hg.txt x hx).2⟩
  | r :: rs, s, k, ws, hg, h => by
    rw [mach_cons] at h
    rcases ht : tk s r with q | s'
    · rw [ht] at h; cases h
    · rw [ht] at h
      have := mach_len rs s' (k + 1) ws (hg.step ht) h
      simp only [List.length_cons]
      refine ⟨by omega, fun x hx => ?_⟩
      have := this.2 x hx
      omega
theorem split_len (l : List UInt8) : (splitW l).1.length ≤ 1024 ∧ ∀ x ∈ (splitW l).1, x.ln + x.co ≤ 2000 := by
  unfold splitW
  split
  · exact ⟨by simp, fun x hx => by cases hx⟩
  rename_i h
  split
  · exact ⟨by simp, fun x hx => by cases hx⟩
  · rcases hm : mach spl0 (rns l) with q | ws
    · exact ⟨by simp [endW], fun x hx => by cases hx⟩
    · have h1 := mach_len _ _ 0 ws good0 hm
      have h2 := rns_len l.length l (Nat.le_refl _)
      refine ⟨?_, fun x hx => ?_⟩
      · show ws.length ≤ 1024; omega
      · have := h1.2 x hx; omega
theorem split_code (l : List UInt8) : ((splitW l).2.2.2 = 0 ∧ (splitW l).2 = (0, 0, 0)) ∨ ((splitW l).2.2.2 ≠ 0 ∧ (splitW l).1 = [] ∧ ((splitW l).2.2.2 = 3 ∨ (splitW l).2.2.2 = 7 ∨ (splitW l).2.2.2 = 80)) := by
  unfold splitW
  split
  · exact .inr ⟨by simp, rfl, .inl rfl⟩
  split
  · exact .inr ⟨by simp, rfl, .inr (.inl rfl)⟩
  · rcases mach spl0 (rns l) with q | ws
    · exact .inr ⟨by simp [endW], rfl, .inr (.inr rfl)⟩
    · exact .inl ⟨rfl, rfl⟩
theorem againT_take (ws : List Wd) (k : Nat) (h : k < ws.length) : againT (ws.take (k + 1)) = againT (ws.take k) ++ (ws[k].tx ++ [32]) := by
  unfold againT
  rw [List.take_succ_eq_append_getElem h, List.flatMap_append, List.flatMap_singleton]
theorem againT_len : ∀ (ws : List Wd), (∀ x ∈ ws, x.tx.length ≤ 16) → (againT ws).length ≤ 17 * ws.length
  | [], _ => by simp [againT]
  | x :: ws, h => by
    have h1 := h x (by simp)
    have h2 := againT_len ws fun y hy => h y (by simp [hy])
    have : (againT (x :: ws)).length = x.tx.length + 1 + (againT ws).length := by simp [againT]; omega
    rw [this, List.length_cons]
    omega
theorem wf_short {x : Wd} (h : wfW x) : 1 ≤ x.tx.length ∧ x.tx.length ≤ 16 := by
  rcases h with ⟨_, h2, h3, _⟩ | ⟨_, h⟩
  · exact ⟨h2, h3⟩
  · rcases h with h | h | h | h | h <;> (rw [h]; simp)
theorem relab_at : ∀ (ws : List Wd) (c k : Nat) (h : k < ws.length), (relab c ws)[k]? = some ⟨ws[k].nm, ws[k].tx, 1, c + (againT (ws.take k)).length⟩
  | [], _, _, h => by simp at h
  | x :: ws, c, 0, _ => by simp [relab, againT]
  | x :: ws, c, k + 1, h => by
    have := relab_at ws (c + x.tx.length + 1) k (by simpa using h)
    simp only [relab, List.getElem?_cons_succ, this, List.getElem_cons_succ, List.take_succ_cons]
    have e : (againT (x :: ws.take k)).length = x.tx.length + 1 + (againT (ws.take k)).length := by simp [againT]; omega
    rw [e]
    congr 2
    omega
theorem app_lists' (a b : List UInt8) : (⟨a.toArray⟩ : ByteArray) ++ ⟨b.toArray⟩ = ⟨(a ++ b).toArray⟩ := app_lists a b
end Go.Proofs.YtfgojbfdjbochaaDoor
