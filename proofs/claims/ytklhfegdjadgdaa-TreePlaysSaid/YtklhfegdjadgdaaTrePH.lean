/- Plain facts for play; Clone with where its bytes lie. -/
import Derived.Test.YtklhfegdjadgdaaTrePF
namespace Go.Proofs.Ytklhfegdjadgdaa
open Go.RowKit Go.Maps

theorem ins_new (k v : List UInt8) : ∀ {L : List Pr}, Rises L → decide (L.length < (insL k v L).length) = (getL k L).isNone
  | [], _ => rfl
  | p :: r, hr => by
    have hr2 := List.pairwise_cons.1 hr
    rw [getL_cons, insL]
    by_cases h1 : cmpB k p.1 < 0
    · rw [if_pos h1]
      have hne : p.1 ≠ k := fun e => by rw [e, cmp_refl] at h1; omega
      have hn : getL k r = none := getL_none fun q hq e => by
        have := cmp_trans h1 (hr2.1 q hq)
        rw [e, cmp_refl] at this
        omega
      rw [if_neg hne, hn]
      simp
    · rw [if_neg h1]
      by_cases h2 : 0 < cmpB k p.1
      · rw [if_pos h2]
        have hne : p.1 ≠ k := fun e => by rw [e, cmp_refl] at h2; omega
        rw [if_neg hne, ← ins_new k v hr2.2]
        simp
      · rw [if_neg h2]
        have he : k = p.1 := cmp_eq (by omega)
        rw [if_pos he.symm]
        simp
theorem del_is (k : List UInt8) (L : List Pr) : decide ((delL k L).length < L.length) = (getL k L).isSome := by
  rcases h : getL k L with _ | x
  · have hn : delL k L = L := by
      refine delL_none fun p hp e => ?_
      have hm : ∀ {M : List Pr}, p ∈ M → getL k M ≠ none := by
        intro M
        induction M with
        | nil => intro h; cases h
        | cons q M ih =>
          intro hq
          rw [getL_cons]
          by_cases hqk : q.1 = k
          · rw [if_pos hqk]; simp
          · rw [if_neg hqk]
            rcases List.mem_cons.1 hq with rfl | hq
            · exact absurd e hqk
            · exact ih hq
      exact hm hp h
    rw [hn]
    simp
  · have := delL_less (k := k) (L := L) (by rw [h]; simp)
    simp [this]
theorem zclone_any {w : World} {lo p : Nat} {L : List Pr} {Z : Nat → Prop} (h : TreeW w lo p L) (hZ : ∀ z, w.heap.size ≤ z → Z z) : Calls Try.prog 22 #[.pointer (some ⟨p, 0, none⟩)] w fun e w' => ∃ q : Nat, e = .returned (.pointer (some ⟨q, 0, none⟩)) ∧ TreeZ w' w.heap.size q Z L ∧ Below w.heap.size w w' := by
  obtain ⟨t, h1, rfl, _⟩ := h
  have hc := clone_nodes t w h1.nodes h1.bal
  have HC := Lib.hid hc
  have HR := Lib.hid h1.ris
  obtain ⟨c0, _⟩ := h1.root
  clear h1 hc
  go_enter Try.func22, Try.ntmps22
  go_wp2_with (go_at_call 30; (with_reducible refine HC.out.mono ?_); rintro e w1 ⟨t', rfl, p1, p2, p3, p4, p5, p6, p7, p8, p9⟩; have HP := Lib.hid (And.intro p1 (And.intro p2 (And.intro p4 (And.intro p5 (And.intro p6 (And.intro p7 p9)))))); clear p1 p2 p3 p4 p5 p6 p7 p8 p9)
  go_ret
  obtain ⟨p1, p2, p4, p5, p6, p7, p9⟩ := HP.out
  have hb := (Below.refl w1.heap.size w1).alloc (Nat.le_refl _) (.cells #[.pointer t'.adr] 39)
  exact ⟨w1.heap.size, rfl, ⟨t', ⟨heap_alloc_new w1 _, p1.below hb, p5, p4, by rw [p2]; exact HR.out⟩, p2, p7.size, p6, fun z hz => hZ z (p9 z hz)⟩, p7.trans (lower' hb p7.size)⟩
end Go.Proofs.Ytklhfegdjadgdaa
