/- JoK, what this seat can fill of it. -/
import Derived.Test.YtmldiojlglpoiaaJoJ
import Derived.Test.YtmldiojlglpoiaaJnC
namespace Go.Proofs.Ytmldiojlglpoiaa
/- query.Vars. -/
open Go.RowKit Go.Maps

theorem goodP_names {v : Vw} (h : goodP v = true) : v.kind = 1 ∧ v.atoms.length ≤ 8 ∧ v.out.length ≤ 6 ∧ (∀ a ∈ v.atoms, a.fr.length ≤ 16 ∧ a.lab.length ≤ 16 ∧ a.to.length ≤ 16) ∧ (∀ o ∈ v.out, o ∈ varsL v.atoms) ∧ 1 ≤ v.atoms.length := by
  unfold goodP patOk atsOk outsOk at h
  simp only [Bool.and_eq_true, decide_eq_true_eq, List.all_eq_true] at h
  obtain ⟨_, ⟨⟨h1, _⟩, ⟨⟨h2', h2⟩, h3⟩⟩, ⟨_, h4⟩, h5⟩ := h
  refine ⟨h1, h2, h4, fun a ha => ?_, ?_, h2'⟩
  · have h6 := h3 a ha
    unfold atOk at h6
    simp only [Bool.and_eq_true] at h6
    exact ⟨(isNm_len h6.1.1).2, (isNm_len h6.1.2).2, (isNm_len h6.2).2⟩
  · have hgo : ∀ (l pre : List Nm), outsGo v.atoms pre l = true → ∀ o ∈ l, o ∈ varsL v.atoms := by
      intro l
      induction l with
      | nil => intro pre _ o ho; cases ho
      | cons q r ih =>
        intro pre hq o ho
        unfold outsGo at hq
        simp only [Bool.and_eq_true] at hq
        rcases List.mem_cons.1 ho with rfl | ho
        · exact boundB_iff.1 hq.1.2
        · exact ih _ hq.2 o ho
    exact hgo _ _ h5
theorem varsL_take {ats : List Atm} {k : Nat} (h : k < ats.length) : varsL (ats.take (k + 1)) = vars1 (varsL (ats.take k)) ats[k] := by
  unfold varsL varsFrom
  rw [List.take_succ_eq_append_getElem h, List.foldl_append]
  rfl
theorem take_len_vars {ats : List Atm} {k : Nat} (h : k ≤ 8) : (varsL (ats.take k)).length ≤ 16 := by
  have h1 := varsL_len (ats.take k)
  rw [List.length_take] at h1
  omega
theorem own_lt' {w : World} {base size n : Nat} {e : TypeId} {v : Value} {xs : List Value} (h : w.ownsRow base e size v n xs) : ∀ s ∈ v.ownBlock.toList, s < w.heap.size := fun s hs => (World.ownsRow.lt h s (by simpa using hs)).2
theorem SeenS.ne {w : World} {b : Nat} {vs : List Nm} (h : SeenS w b vs) {q : Nat} {cs : Array Value} {t : TypeId} {fr : Nat × Nat} (hq : w.heap[q]? = some (.cells cs t fr)) : b ≠ q := by
  rintro rfl
  obtain ⟨g, ⟨D, ⟨es, clock, hb, _⟩, _⟩, _⟩ := h
  rw [hb] at hq
  cases hq
/-- What Vars answers. -/
def VaPost (w : World) (vs : List Nm) (e : Ending) (w' : World) : Prop := ∃ A c, e = .returned (.slice A vs.length c) ∧ w'.ownsRow w.heap.size 9 1 (.slice A vs.length c) vs.length (strs vs) ∧ Sts w' A c vs ∧ Below w.heap.size w w'
end Go.Proofs.Ytmldiojlglpoiaa
