/- span.roadsOf. -/
import Derived.Test.YtgjjdmkoamjdpaaSpQ0
namespace Go.Proofs.Ytgjjdmkoamjdpaa
open Go.RowKit Go.Maps Go.Sort

set_option maxRecDepth 100000 in
set_option maxHeartbeats 8000000 in
theorem roadsOf_any (lab : Nm) (A : Option Addr) (c : Nat) (es : List Ed) (w : World) (h : Es w A c es) : Calls Try.prog 11 #[.string ⟨lab.toArray⟩, .slice A es.length c] w (RoadsPost w lab es) := by
  have hb0 : Below w.heap.size w (w.alloc (.cells #[.slice none 0 0, .slice none 0 0, .slice none 0 0] 43)) := (Below.refl _ _).alloc (Nat.le_refl _) _
  have hg0 := heap_alloc_new w (.cells #[.slice none 0 0, .slice none 0 0, .slice none 0 0] 43)
  have hn := nodesOf_any lab A c es _ (h.below hb0)
  have HN := Lib.hid hn
  have HA := Lib.hid (And.intro h (And.intro hb0 hg0))
  have hes := h.sm
  have hnl := nodesL_len lab es
  clear hn h hb0 hg0
  go_enter Try.func11, Try.ntmps11
  go_upto_region 2 with (go_at_call 20; (with_reducible refine HN.out.mono ?_); rintro e w1 ⟨⟨uA, ul, uc⟩, rfl, h1, o1, b1⟩; dsimp only at h1; subst h1; have H1 := Lib.hid (And.intro o1 (And.intro (HA.out.2.1.trans (lower' b1 HA.out.2.1.size)) ((b1.block w.heap.size (by simp)).trans HA.out.2.2))); clear o1 b1)
  clear HN
  obtain ⟨N, hN⟩ : ∃ N, N = nodesL lab es := ⟨_, rfl⟩
  rw [← hN] at H1 hnl ⊢
  have HNE := Lib.hid hN
  clear hN
  have hmk := fun W => makeRR N.length (by omega) W
  go_cut [6] from 19 to 26 (fun r w' => ∃ br og ig : Nat, r = .pointer (some ⟨br, 0, none⟩) ∧ Hid (w'.heap[br]? = some (.cells #[.slice uA N.length uc, .slice (some ⟨og, 0, none⟩) N.length N.length, .slice (some ⟨ig, 0, none⟩) N.length N.length] 43 (0, 0)) ∧ Two2 w' w1.heap.size og ig (List.replicate N.length ⟨none, [], 0⟩) (List.replicate N.length ⟨none, [], 0⟩) ∧ Below w1.heap.size w1 w'))
  case first =>
    refine wp_region_M (fun _ => true) (fun _ => True) (by kernel_rfl) ?_
    refine wpAnyM_take (i := 0) (v := ?_) rfl (by kernel_rfl) (by kernel_rfl) (by kernel_rfl) (by kernel_rfl) (fun _ _ _ h => h) (Or.inl ⟨by rfl, ?_⟩) trivial ?_
    rotate_left
    · intro w hSw; (try dsimp only at hSw); go_simp; (try with_reducible rfl)
    simp only [Act.put, List.getElem_toArray, List.getElem_cons_zero, List.getElem_cons_succ, List.setIfInBounds_toArray, List.set_cons_zero, List.set_cons_succ]
    refine wpAnyM_take (i := 1) (v := ?_) rfl (by kernel_rfl) (by kernel_rfl) (by kernel_rfl) (by kernel_rfl) (fun _ _ _ h => h) (Or.inl ⟨by rfl, ?_⟩) trivial ?_
    rotate_left
    · intro w hSw; (try dsimp only at hSw); go_simp; (try with_reducible rfl)
    simp only [Act.put, List.getElem_toArray, List.getElem_cons_zero, List.getElem_cons_succ, List.setIfInBounds_toArray, List.set_cons_zero, List.set_cons_succ]
    refine wpAnyM_take (i := 2) (v := ?_) rfl (by kernel_rfl) (by kernel_rfl) (by kernel_rfl) (by kernel_rfl) (fun _ _ _ h => h) (Or.inl ⟨by rfl, ?_⟩) trivial ?_
    rotate_left
    · intro w hSw; (try dsimp only at hSw); go_simp; (try with_reducible rfl)
    simp only [Act.put, List.getElem_toArray, List.getElem_cons_zero, List.getElem_cons_succ, List.setIfInBounds_toArray, List.set_cons_zero, List.set_cons_succ]
    refine wpAnyM_take (i := 4) (v := ?_) rfl (by kernel_rfl) (by kernel_rfl) (by kernel_rfl) (by kernel_rfl) (fun _ _ _ h => h) (Or.inl ⟨by rfl, ?_⟩) trivial ?_
    rotate_left
    · intro w hSw; (try dsimp only at hSw); go_simp; (try with_reducible rfl)
    simp only [Act.put, List.getElem_toArray, List.getElem_cons_zero, List.getElem_cons_succ, List.setIfInBounds_toArray, List.set_cons_zero, List.set_cons_succ]
    refine wpAnyM_take (i := 5) (v := ?_) rfl (by kernel_rfl) (by kernel_rfl) (by kernel_rfl) (by kernel_rfl) (fun _ _ _ h => h) (Or.inl ⟨by rfl, ?_⟩) trivial ?_
    rotate_left
    · intro w hSw; (try dsimp only at hSw); go_simp; (try with_reducible rfl)
    simp only [Act.put, List.getElem_toArray, List.getElem_cons_zero, List.getElem_cons_succ, List.setIfInBounds_toArray, List.set_cons_zero, List.set_cons_succ]
    refine wpAnyM_three (i := 3) (j := 6) (k := 8) (by kernel_rfl) rfl rfl rfl (fun K hK => ?_) (fun K hK => ?_) (fun K hK => ?_)
    · go_simp
      refine hK.out _ _ (fun _ => trivial) ?_
      clear hK K
      refine wpAnyM_two (i := 6) (j := 8) (by kernel_rfl) rfl rfl (fun K hK => ?_) (fun K hK => ?_)
      · go_simp
        refine hK.out _ _ (fun _ => trivial) ?_
        clear hK K
        refine wpAnyM_take (i := 7) (v := ?_) rfl (by kernel_rfl) (by kernel_rfl) (by kernel_rfl) (by kernel_rfl) (fun _ _ _ h => h) (Or.inl ⟨by rfl, ?_⟩) trivial ?_
        rotate_left
        · intro w hSw; (try dsimp only at hSw); go_simp; (try with_reducible rfl)
        simp only [Act.put, List.getElem_toArray, List.getElem_cons_zero, List.getElem_cons_succ, List.setIfInBounds_toArray, List.set_cons_zero, List.set_cons_succ]
        refine wpAnyM_one (i := 8) (by kernel_rfl) rfl (fun K hK => ?_)
        go_simp
        refine hK.out _ _ (fun _ => trivial) ?_
        clear hK K
        refine wpAnyM_one (i := 9) (by kernel_rfl) rfl (fun K hK => ?_)
        go_simp
        refine hK.out _ _ (fun _ => trivial) ?_
        clear hK K
        refine wpAnyM_done (by kernel_rfl) ?_ _
        go_wp2_with (fail)
        go_meet
        case rel => first
          | (exact ⟨_, _, _, rfl, Lib.hid ⟨(al3 w1 _ _ _).1, two_made (al3 w1 _ _ _).2.1 (al3 w1 _ _ _).2.2.1 (by omega) (by omega) (by omega) (by omega), (al3 w1 _ _ _).2.2.2⟩⟩)
          | (exact ⟨_, _, _, rfl, Lib.hid ⟨(al3 w1 _ _ _).1, two_made (al3 w1 _ _ _).2.2.1 (al3 w1 _ _ _).2.1 (by omega) (by omega) (by omega) (by omega), (al3 w1 _ _ _).2.2.2⟩⟩)
          | (exact ⟨_, _, _, rfl, Lib.hid ⟨(al3 w1 _ _ _).2.1, two_made (al3 w1 _ _ _).1 (al3 w1 _ _ _).2.2.1 (by omega) (by omega) (by omega) (by omega), (al3 w1 _ _ _).2.2.2⟩⟩)
          | (exact ⟨_, _, _, rfl, Lib.hid ⟨(al3 w1 _ _ _).2.1, two_made (al3 w1 _ _ _).2.2.1 (al3 w1 _ _ _).1 (by omega) (by omega) (by omega) (by omega), (al3 w1 _ _ _).2.2.2⟩⟩)
          | (exact ⟨_, _, _, rfl, Lib.hid ⟨(al3 w1 _ _ _).2.2.1, two_made (al3 w1 _ _ _).1 (al3 w1 _ _ _).2.1 (by omega) (by omega) (by omega) (by omega), (al3 w1 _ _ _).2.2.2⟩⟩)
          | (exact ⟨_, _, _, rfl, Lib.hid ⟨(al3 w1 _ _ _).2.2.1, two_made (al3 w1 _ _ _).2.1 (al3 w1 _ _ _).1 (by omega) (by omega) (by omega) (by omega), (al3 w1 _ _ _).2.2.2⟩⟩)
      · go_simp
        refine hK.out _ _ (fun _ => trivial) ?_
        clear hK K
        refine wpAnyM_one (i := 6) (by kernel_rfl) rfl (fun K hK => ?_)
        go_simp
        refine hK.out _ _ (fun _ => trivial) ?_
        clear hK K
        refine wpAnyM_take (i := 7) (v := ?_) rfl (by kernel_rfl) (by kernel_rfl) (by kernel_rfl) (by kernel_rfl) (fun _ _ _ h => h) (Or.inl ⟨by rfl, ?_⟩) trivial ?_
        rotate_left
        · intro w hSw; (try dsimp only at hSw); go_simp; (try with_reducible rfl)
        simp only [Act.put, List.getElem_toArray, List.getElem_cons_zero, List.getElem_cons_succ, List.setIfInBounds_toArray, List.set_cons_zero, List.set_cons_succ]
        refine wpAnyM_one (i := 9) (by kernel_rfl) rfl (fun K hK => ?_)
        go_simp
        refine hK.out _ _ (fun _ => trivial) ?_
        clear hK K
        refine wpAnyM_done (by kernel_rfl) ?_ _
        go_wp2_with (fail)
        go_meet
        case rel => first
          | (exact ⟨_, _, _, rfl, Lib.hid ⟨(al3 w1 _ _ _).1, two_made (al3 w1 _ _ _).2.1 (al3 w1 _ _ _).2.2.1 (by omega) (by omega) (by omega) (by omega), (al3 w1 _ _ _).2.2.2⟩⟩)
          | (exact ⟨_, _, _, rfl, Lib.hid ⟨(al3 w1 _ _ _).1, two_made (al3 w1 _ _ _).2.2.1 (al3 w1 _ _ _).2.1 (by omega) (by omega) (by omega) (by omega), (al3 w1 _ _ _).2.2.2⟩⟩)
          | (exact ⟨_, _, _, rfl, Lib.hid ⟨(al3 w1 _ _ _).2.1, two_made (al3 w1 _ _ _).1 (al3 w1 _ _ _).2.2.1 (by omega) (by omega) (by omega) (by omega), (al3 w1 _ _ _).2.2.2⟩⟩)
          | (exact ⟨_, _, _, rfl, Lib.hid ⟨(al3 w1 _ _ _).2.1, two_made (al3 w1 _ _ _).2.2.1 (al3 w1 _ _ _).1 (by omega) (by omega) (by omega) (by omega), (al3 w1 _ _ _).2.2.2⟩⟩)
          | (exact ⟨_, _, _, rfl, Lib.hid ⟨(al3 w1 _ _ _).2.2.1, two_made (al3 w1 _ _ _).1 (al3 w1 _ _ _).2.1 (by omega) (by omega) (by omega) (by omega), (al3 w1 _ _ _).2.2.2⟩⟩)
          | (exact ⟨_, _, _, rfl, Lib.hid ⟨(al3 w1 _ _ _).2.2.1, two_made (al3 w1 _ _ _).2.1 (al3 w1 _ _ _).1 (by omega) (by omega) (by omega) (by omega), (al3 w1 _ _ _).2.2.2⟩⟩)
    · go_simp
      refine hK.out _ _ (fun _ => trivial) ?_
      clear hK K
      refine wpAnyM_two (i := 3) (j := 8) (by kernel_rfl) rfl rfl (fun K hK => ?_) (fun K hK => ?_)
      · go_simp
        refine hK.out _ _ (fun _ => trivial) ?_
        clear hK K
        refine wpAnyM_take (i := 7) (v := ?_) rfl (by kernel_rfl) (by kernel_rfl) (by kernel_rfl) (by kernel_rfl) (fun _ _ _ h => h) (Or.inl ⟨by rfl, ?_⟩) trivial ?_
        rotate_left
        · intro w hSw; (try dsimp only at hSw); go_simp; (try with_reducible rfl)
        simp only [Act.put, List.getElem_toArray, List.getElem_cons_zero, List.getElem_cons_succ, List.setIfInBounds_toArray, List.set_cons_zero, List.set_cons_succ]
        refine wpAnyM_one (i := 8) (by kernel_rfl) rfl (fun K hK => ?_)
        go_simp
        refine hK.out _ _ (fun _ => trivial) ?_
        clear hK K
        refine wpAnyM_one (i := 9) (by kernel_rfl) rfl (fun K hK => ?_)
        go_simp
        refine hK.out _ _ (fun _ => trivial) ?_
        clear hK K
        refine wpAnyM_done (by kernel_rfl) ?_ _
        go_wp2_with (fail)
        go_meet
        case rel => first
          | (exact ⟨_, _, _, rfl, Lib.hid ⟨(al3 w1 _ _ _).1, two_made (al3 w1 _ _ _).2.1 (al3 w1 _ _ _).2.2.1 (by omega) (by omega) (by omega) (by omega), (al3 w1 _ _ _).2.2.2⟩⟩)
          | (exact ⟨_, _, _, rfl, Lib.hid ⟨(al3 w1 _ _ _).1, two_made (al3 w1 _ _ _).2.2.1 (al3 w1 _ _ _).2.1 (by omega) (by omega) (by omega) (by omega), (al3 w1 _ _ _).2.2.2⟩⟩)
          | (exact ⟨_, _, _, rfl, Lib.hid ⟨(al3 w1 _ _ _).2.1, two_made (al3 w1 _ _ _).1 (al3 w1 _ _ _).2.2.1 (by omega) (by omega) (by omega) (by omega), (al3 w1 _ _ _).2.2.2⟩⟩)
          | (exact ⟨_, _, _, rfl, Lib.hid ⟨(al3 w1 _ _ _).2.1, two_made (al3 w1 _ _ _).2.2.1 (al3 w1 _ _ _).1 (by omega) (by omega) (by omega) (by omega), (al3 w1 _ _ _).2.2.2⟩⟩)
          | (exact ⟨_, _, _, rfl, Lib.hid ⟨(al3 w1 _ _ _).2.2.1, two_made (al3 w1 _ _ _).1 (al3 w1 _ _ _).2.1 (by omega) (by omega) (by omega) (by omega), (al3 w1 _ _ _).2.2.2⟩⟩)
          | (exact ⟨_, _, _, rfl, Lib.hid ⟨(al3 w1 _ _ _).2.2.1, two_made (al3 w1 _ _ _).2.1 (al3 w1 _ _ _).1 (by omega) (by omega) (by omega) (by omega), (al3 w1 _ _ _).2.2.2⟩⟩)
      · go_simp
        refine hK.out _ _ (fun _ => trivial) ?_
        clear hK K
        refine wpAnyM_one (i := 3) (by kernel_rfl) rfl (fun K hK => ?_)
        go_simp
        refine hK.out _ _ (fun _ => trivial) ?_
        clear hK K
        refine wpAnyM_take (i := 7) (v := ?_) rfl (by kernel_rfl) (by kernel_rfl) (by kernel_rfl) (by kernel_rfl) (fun _ _ _ h => h) (Or.inl ⟨by rfl, ?_⟩) trivial ?_
        rotate_left
        · intro w hSw; (try dsimp only at hSw); go_simp; (try with_reducible rfl)
        simp only [Act.put, List.getElem_toArray, List.getElem_cons_zero, List.getElem_cons_succ, List.setIfInBounds_toArray, List.set_cons_zero, List.set_cons_succ]
        refine wpAnyM_one (i := 9) (by kernel_rfl) rfl (fun K hK => ?_)
        go_simp
        refine hK.out _ _ (fun _ => trivial) ?_
        clear hK K
        refine wpAnyM_done (by kernel_rfl) ?_ _
        go_wp2_with (fail)
        go_meet
        case rel => first
          | (exact ⟨_, _, _, rfl, Lib.hid ⟨(al3 w1 _ _ _).1, two_made (al3 w1 _ _ _).2.1 (al3 w1 _ _ _).2.2.1 (by omega) (by omega) (by omega) (by omega), (al3 w1 _ _ _).2.2.2⟩⟩)
          | (exact ⟨_, _, _, rfl, Lib.hid ⟨(al3 w1 _ _ _).1, two_made (al3 w1 _ _ _).2.2.1 (al3 w1 _ _ _).2.1 (by omega) (by omega) (by omega) (by omega), (al3 w1 _ _ _).2.2.2⟩⟩)
          | (exact ⟨_, _, _, rfl, Lib.hid ⟨(al3 w1 _ _ _).2.1, two_made (al3 w1 _ _ _).1 (al3 w1 _ _ _).2.2.1 (by omega) (by omega) (by omega) (by omega), (al3 w1 _ _ _).2.2.2⟩⟩)
          | (exact ⟨_, _, _, rfl, Lib.hid ⟨(al3 w1 _ _ _).2.1, two_made (al3 w1 _ _ _).2.2.1 (al3 w1 _ _ _).1 (by omega) (by omega) (by omega) (by omega), (al3 w1 _ _ _).2.2.2⟩⟩)
          | (exact ⟨_, _, _, rfl, Lib.hid ⟨(al3 w1 _ _ _).2.2.1, two_made (al3 w1 _ _ _).1 (al3 w1 _ _ _).2.1 (by omega) (by omega) (by omega) (by omega), (al3 w1 _ _ _).2.2.2⟩⟩)
          | (exact ⟨_, _, _, rfl, Lib.hid ⟨(al3 w1 _ _ _).2.2.1, two_made (al3 w1 _ _ _).2.1 (al3 w1 _ _ _).1 (by omega) (by omega) (by omega) (by omega), (al3 w1 _ _ _).2.2.2⟩⟩)
    · go_simp
      refine hK.out _ _ (fun _ => trivial) ?_
      clear hK K
      refine wpAnyM_two (i := 3) (j := 6) (by kernel_rfl) rfl rfl (fun K hK => ?_) (fun K hK => ?_)
      · go_simp
        refine hK.out _ _ (fun _ => trivial) ?_
        clear hK K
        refine wpAnyM_one (i := 6) (by kernel_rfl) rfl (fun K hK => ?_)
        go_simp
        refine hK.out _ _ (fun _ => trivial) ?_
        clear hK K
        refine wpAnyM_take (i := 7) (v := ?_) rfl (by kernel_rfl) (by kernel_rfl) (by kernel_rfl) (by kernel_rfl) (fun _ _ _ h => h) (Or.inl ⟨by rfl, ?_⟩) trivial ?_
        rotate_left
        · intro w hSw; (try dsimp only at hSw); go_simp; (try with_reducible rfl)
        simp only [Act.put, List.getElem_toArray, List.getElem_cons_zero, List.getElem_cons_succ, List.setIfInBounds_toArray, List.set_cons_zero, List.set_cons_succ]
        refine wpAnyM_one (i := 9) (by kernel_rfl) rfl (fun K hK => ?_)
        go_simp
        refine hK.out _ _ (fun _ => trivial) ?_
        clear hK K
        refine wpAnyM_done (by kernel_rfl) ?_ _
        go_wp2_with (fail)
        go_meet
        case rel => first
          | (exact ⟨_, _, _, rfl, Lib.hid ⟨(al3 w1 _ _ _).1, two_made (al3 w1 _ _ _).2.1 (al3 w1 _ _ _).2.2.1 (by omega) (by omega) (by omega) (by omega), (al3 w1 _ _ _).2.2.2⟩⟩)
          | (exact ⟨_, _, _, rfl, Lib.hid ⟨(al3 w1 _ _ _).1, two_made (al3 w1 _ _ _).2.2.1 (al3 w1 _ _ _).2.1 (by omega) (by omega) (by omega) (by omega), (al3 w1 _ _ _).2.2.2⟩⟩)
          | (exact ⟨_, _, _, rfl, Lib.hid ⟨(al3 w1 _ _ _).2.1, two_made (al3 w1 _ _ _).1 (al3 w1 _ _ _).2.2.1 (by omega) (by omega) (by omega) (by omega), (al3 w1 _ _ _).2.2.2⟩⟩)
          | (exact ⟨_, _, _, rfl, Lib.hid ⟨(al3 w1 _ _ _).2.1, two_made (al3 w1 _ _ _).2.2.1 (al3 w1 _ _ _).1 (by omega) (by omega) (by omega) (by omega), (al3 w1 _ _ _).2.2.2⟩⟩)
          | (exact ⟨_, _, _, rfl, Lib.hid ⟨(al3 w1 _ _ _).2.2.1, two_made (al3 w1 _ _ _).1 (al3 w1 _ _ _).2.1 (by omega) (by omega) (by omega) (by omega), (al3 w1 _ _ _).2.2.2⟩⟩)
          | (exact ⟨_, _, _, rfl, Lib.hid ⟨(al3 w1 _ _ _).2.2.1, two_made (al3 w1 _ _ _).2.1 (al3 w1 _ _ _).1 (by omega) (by omega) (by omega) (by omega), (al3 w1 _ _ _).2.2.2⟩⟩)
      · go_simp
        refine hK.out _ _ (fun _ => trivial) ?_
        clear hK K
        refine wpAnyM_one (i := 3) (by kernel_rfl) rfl (fun K hK => ?_)
        go_simp
        refine hK.out _ _ (fun _ => trivial) ?_
        clear hK K
        refine wpAnyM_take (i := 7) (v := ?_) rfl (by kernel_rfl) (by kernel_rfl) (by kernel_rfl) (by kernel_rfl) (fun _ _ _ h => h) (Or.inl ⟨by rfl, ?_⟩) trivial ?_
        rotate_left
        · intro w hSw; (try dsimp only at hSw); go_simp; (try with_reducible rfl)
        simp only [Act.put, List.getElem_toArray, List.getElem_cons_zero, List.getElem_cons_succ, List.setIfInBounds_toArray, List.set_cons_zero, List.set_cons_succ]
        refine wpAnyM_one (i := 9) (by kernel_rfl) rfl (fun K hK => ?_)
        go_simp
        refine hK.out _ _ (fun _ => trivial) ?_
        clear hK K
        refine wpAnyM_done (by kernel_rfl) ?_ _
        go_wp2_with (fail)
        go_meet
        case rel => first
          | (exact ⟨_, _, _, rfl, Lib.hid ⟨(al3 w1 _ _ _).1, two_made (al3 w1 _ _ _).2.1 (al3 w1 _ _ _).2.2.1 (by omega) (by omega) (by omega) (by omega), (al3 w1 _ _ _).2.2.2⟩⟩)
          | (exact ⟨_, _, _, rfl, Lib.hid ⟨(al3 w1 _ _ _).1, two_made (al3 w1 _ _ _).2.2.1 (al3 w1 _ _ _).2.1 (by omega) (by omega) (by omega) (by omega), (al3 w1 _ _ _).2.2.2⟩⟩)
          | (exact ⟨_, _, _, rfl, Lib.hid ⟨(al3 w1 _ _ _).2.1, two_made (al3 w1 _ _ _).1 (al3 w1 _ _ _).2.2.1 (by omega) (by omega) (by omega) (by omega), (al3 w1 _ _ _).2.2.2⟩⟩)
          | (exact ⟨_, _, _, rfl, Lib.hid ⟨(al3 w1 _ _ _).2.1, two_made (al3 w1 _ _ _).2.2.1 (al3 w1 _ _ _).1 (by omega) (by omega) (by omega) (by omega), (al3 w1 _ _ _).2.2.2⟩⟩)
          | (exact ⟨_, _, _, rfl, Lib.hid ⟨(al3 w1 _ _ _).2.2.1, two_made (al3 w1 _ _ _).1 (al3 w1 _ _ _).2.1 (by omega) (by omega) (by omega) (by omega), (al3 w1 _ _ _).2.2.2⟩⟩)
          | (exact ⟨_, _, _, rfl, Lib.hid ⟨(al3 w1 _ _ _).2.2.1, two_made (al3 w1 _ _ _).2.1 (al3 w1 _ _ _).1 (by omega) (by omega) (by omega) (by omega), (al3 w1 _ _ _).2.2.2⟩⟩)
  case rest =>
  obtain ⟨br, og, ig, rfl, hcut⟩ := hcut
  rename World => w2
  clear hmk
  have hnl2 : N.length ≤ 2000 := by omega
  have B2 := Lib.hid hcut.out.2.2
  have HC := Lib.hid (And.intro hcut.out.1 hcut.out.2.1)
  have hnN : ∀ a, a ∈ N → N.idxOf a < N.length ∧ ∀ hi, N[N.idxOf a]'hi = a := fun a ha => ⟨List.idxOf_lt_length_iff.2 ha, fun hi => List.getElem_idxOf hi⟩
  have HIX := Lib.hid hnN
  have HUO := Lib.hid (show TV.Ok w1 ⟨uA, N, uc⟩ from OwnI.ok (t := ⟨uA, N, uc⟩) H1.out.1 (by dsimp only; omega))
  have HRS := Lib.hid (show RisI N from by rw [HNE.out]; exact ris_onceI _)
  clear hcut hnN hnl
  go_wp2_with (fail)
  go_loopw [29] (fun i wr => ∃ (k : Nat) (os : List TV), k ≤ es.length ∧ i = .int .i64 (k : Int) ∧ Hid (wr.heap[br]? = some (.cells #[.slice uA N.length uc, .slice (some ⟨og, 0, none⟩) N.length N.length, .slice (some ⟨ig, 0, none⟩) N.length N.length] 43 (0, 0)) ∧ Two2 wr w1.heap.size og ig os (List.replicate N.length ⟨none, [], 0⟩) ∧ tus os = rawsO N lab (es.take k) ∧ Below w1.heap.size w1 wr)) (fun i _ => es.length - (intOf i).toNat)
  case atStart => exact ⟨0, _, by omega, rfl, Lib.hid ⟨HC.out.1, HC.out.2, by rw [vals_nil, List.take_zero, rawsO_nil], B2.out⟩⟩
  case round =>
    obtain ⟨k, os, hk, rfl, hrel⟩ := hrel
    by_cases hlt : k < es.length
    · have hbw := H1.out.2.1.trans (lower' hrel.out.2.2.2 H1.out.2.1.size)
      obtain ⟨b, o, hA, _, c0, c1, c2⟩ := (HA.out.1.below hbw).cell hlt
      have hlI : (k : Int) < (es.length : Int) := by omega
      have hsk := rawsO_skip (N := N) (lab := lab) hlt
      have hput := fun p hp hl hf => rawsO_put (N := N) (lab := lab) (p := p) HRS.out hlt hl hp hf
      have hmem : ∀ a, a ∈ N ↔ ∃ e ∈ es, e.lab = lab ∧ (a = e.f ∨ a = e.t) := fun a => by rw [HNE.out]; exact mem_nodesL
      have hm1 := fun (h : es[k].lab = lab) => (hmem es[k].f).2 ⟨_, List.getElem_mem hlt, h, .inl rfl⟩
      have hm2 := fun (h : es[k].lab = lab) => (hmem es[k].t).2 ⟨_, List.getElem_mem hlt, h, .inr rfl⟩
      rw [hA]
      generalize es[k] = y at c0 c1 c2 hsk hput hm1 hm2
      have hg1 := heap_alloc_new wr (.cells #[.int .i64 y.f, .string ⟨y.lab.toArray⟩, .int .i64 y.t] 34)
      have hb1 := Below.alloc (Below.refl wr.heap.size wr) (Nat.le_refl _) (.cells #[.int .i64 y.f, .string ⟨y.lab.toArray⟩, .int .i64 y.t] 34)
      obtain ⟨d0, d1, d2⟩ := bx3 hg1
      have hbx := (hb1.block _ (heap_lt hrel.out.1)).trans hrel.out.1
      have HR := Lib.hid (And.intro hbx (And.intro (hrel.out.2.1.kept hb1) (And.intro hrel.out.2.2.1 (And.intro (hrel.out.2.2.2.trans (lower' hb1 hrel.out.2.2.2.size)) hg1))))
      have HP := Lib.hid (And.intro hsk hput)
      clear hbw hsk hput hmem hbx hb1 hrel
      by_cases hlab : y.lab = lab
      · have hl : (y.lab == lab) = true := beq_iff_eq.2 hlab
        obtain ⟨p1, p2⟩ := HIX.out y.f (hm1 hlab)
        obtain ⟨r1, r2⟩ := HIX.out y.t (hm2 hlab)
        have hput := fun h2 => HP.out.2 (N.idxOf y.f) p1 hlab h2
        have hput := hput (p2 p1)
        have p2 := p2 p1
        have r2 := r2 r1
        generalize N.idxOf y.f = p at p1 p2 hput
        generalize N.idxOf y.t = r at r1 r2 hput
        have HPR := Lib.hid (And.intro p2 (And.intro r2 hput))
        clear hlab hm1 hm2 p2 r2 hput
        go_upto_region 6 with (fail)
        generalize wr.alloc (.cells #[.int .i64 y.f, .string ⟨y.lab.toArray⟩, .int .i64 y.t] 34) = w3 at HR d0 d1 d2 ⊢
        generalize wr.heap.size = ge at HR d0 d1 d2 ⊢
        have hol : os.length = N.length := by have := congrArg List.length HR.out.2.2.1; rw [tus_len, rawsO_len] at this; exact this
        have hosl : ∀ t ∈ os, t.l.length ≤ 1000 := fun t ht => by
          have h1 := mem_tus ht
          rw [HR.out.2.2.1] at h1
          obtain ⟨q, _, e⟩ := List.mem_map.1 h1
          rw [← e]
          have := rawO_len N lab (es.take k) q
          rw [List.length_take] at this
          omega
        have hxo : ∀ W, Below w3.heap.size w3 W → RV.Ok W ⟨uA, uc, N, ⟨some ⟨og, 0, none⟩, os, N.length⟩, ⟨some ⟨ig, 0, none⟩, List.replicate N.length ⟨none, [], 0⟩, N.length⟩⟩ := fun W hW => by
          have h1 := (HR.out.2.1.kept hW).o.ok (fun t ht => by have := hosl t ht; omega) (by omega)
          have h2 := (HR.out.2.1.kept hW).i.ok (fun t ht => by rw [(List.mem_replicate.1 ht).2]; exact Nat.zero_le _) (by simp; omega)
          rw [hol] at h1
          rw [List.length_replicate] at h2
          exact ⟨HUO.out.below (HR.out.2.2.2.1.trans (lower' hW HR.out.2.2.2.1.size)), h1, h2⟩
        have hpl1 := fun W (hW : Below w3.heap.size w3 W) => place_yes _ W (hxo W hW) HRS.out p p1
        have hpl2 := fun W (hW : Below w3.heap.size w3 W) => place_yes _ W (hxo W hW) HRS.out r r1
        unfold rvA at hpl1 hpl2
        dsimp only at hpl1 hpl2
        rw [List.length_replicate, hol, HPR.out.1] at hpl1
        rw [List.length_replicate, hol, HPR.out.2.1] at hpl2
        have HP1 := Lib.hid hpl1
        have HP2 := Lib.hid hpl2
        have HOL := Lib.hid (And.intro hol hosl)
        obtain ⟨x0, x1, x2⟩ := bx3 HR.out.1
        clear hol hosl hxo hpl1 hpl2
        go_upto_region 8 with (go_at_call 21; (with_reducible refine (HP1.out _ (Below.refl _ _)).mono ?_); rintro e w4 ⟨rfl, b4⟩; have B4 := Lib.hid b4; clear b4 x0 x1 x2 d0 d1 d2)
        obtain ⟨x0, x1, x2⟩ := bx3 ((B4.out.block _ (heap_lt HR.out.1)).trans HR.out.1)
        obtain ⟨-, -, d2⟩ := bx3 ((B4.out.block _ (heap_lt HR.out.2.2.2.2)).trans HR.out.2.2.2.2)
        go_upto_region 9 with (go_at_call 21; (with_reducible refine (HP2.out _ B4.out).mono ?_); rintro e w6 ⟨rfl, b6⟩; have B6 := Lib.hid (B4.out.trans (lower' b6 B4.out.size)); clear b6 x0 x1 x2 d2)
        clear B4 HP1 HP2 hl
        have hp : p < os.length := by rw [HOL.out.1]; exact p1
        have hD : Below w6.heap.size w6 w6.drew := (Below.refl w6.heap.size w6).drew
        have hB6 := HR.out.2.2.2.1.trans (lower' B6.out HR.out.2.2.2.1.size)
        have htw := (HR.out.2.1.kept B6.out).kept hD
        obtain ⟨u, w9, hrun, hul, ⟨cc, cf⟩, htw9, hlow9, hkeep9, hbA, hk5⟩ := htw.app hp (Nat.le_trans hB6.size hD.size) (r : Int) (by have := HOL.out.2 _ (List.getElem_mem hp); omega)
        have hbx6 := (hD.block _ (Nat.lt_of_lt_of_le (heap_lt HR.out.1) B6.out.size)).trans ((B6.out.block _ (heap_lt HR.out.1)).trans HR.out.1)
        have hoc := (htw.o.cell hp).1
        have hbx9 := hkeep9 hbx6 (by decide) (by decide)
        have hbxA := hk5 hbx6 (by decide)
        have hcon : tus (os.set p u) = rawsO N lab (es.take (k + 1)) := by
          rw [tus_set, hul, HPR.out.2.2 HPR.out.1, HR.out.2.2.1]
          congr 2
          have h1 := tus_at os p hp
          rw [← h1]
          simp only [HR.out.2.2.1]
          rw [rawsO_at p1]
        have hox := Nest.lt htw.o
        have HSP := Lib.hid (fun WW (hW : Below w6.drew.heap.size w6.drew WW) => (⟨(bx3 ((hW.block _ (heap_lt hbx6)).trans hbx6)).2.1, (hW.cell (p := ⟨og, p, none⟩) hox.2).trans hoc⟩ : WW.cell? ⟨br, 1, none⟩ = some (.slice (some ⟨og, 0, none⟩) N.length N.length) ∧ WW.cell? ⟨og, p, none⟩ = some (.slice os[p].A os[p].l.length os[p].c)))
        have H9 := Lib.hid (And.intro hbx9 (And.intro htw9 (And.intro hcon (hB6.trans (lower' hD hB6.size |>.trans hlow9)))))
        have S9 := Lib.hid (And.intro (bx3 hbxA).2.1 cc)
        have B0 := Lib.hid (Below.refl w6.drew.heap.size w6.drew)
        have BA := Lib.hid hbA
        have pI : (p : Int) < (N.length : Int) := by omega
        generalize os[p] = tp at *
        clear htw hul htw9 hlow9 hkeep9 hbA hk5 hbx6 hbx9 hbxA hcon hox hoc hD hB6 hp
        refine wp_region_M (fun j => decide (j < 11)) (fun w' => w'.cell? ⟨br, 1, none⟩ = some (.slice (some ⟨og, 0, none⟩) N.length N.length) ∧ w'.cell? ⟨og, p, none⟩ = some (.slice tp.A tp.l.length tp.c)) (by kernel_rfl) ?_
        refine wpAnyM_take (i := 0) (v := ?_) rfl (by kernel_rfl) (by kernel_rfl) (by kernel_rfl) (by kernel_rfl) (fun _ _ _ h => h) (Or.inl ⟨by rfl, ?_⟩) (HSP.out _ B0.out) ?_
        rotate_left
        · intro w hSw; (try dsimp only at hSw); go_simp; (try with_reducible rfl)
        simp only [Act.put, List.getElem_toArray, List.getElem_cons_zero, List.getElem_cons_succ, List.setIfInBounds_toArray, List.set_cons_zero, List.set_cons_succ]
        refine wpAnyM_take (i := 1) (v := ?_) rfl (by kernel_rfl) (by kernel_rfl) (by kernel_rfl) (by kernel_rfl) (fun _ _ _ h => h) (Or.inl ⟨by rfl, ?_⟩) (HSP.out _ B0.out) ?_
        rotate_left
        · intro w hSw; (try dsimp only at hSw); go_simp; (try with_reducible rfl)
        simp only [Act.put, List.getElem_toArray, List.getElem_cons_zero, List.getElem_cons_succ, List.setIfInBounds_toArray, List.set_cons_zero, List.set_cons_succ]
        refine wpAnyM_take (i := 2) (v := ?_) rfl (by kernel_rfl) (by kernel_rfl) (by kernel_rfl) (by kernel_rfl) (fun _ _ _ h => h) (Or.inl ⟨by rfl, ?_⟩) (HSP.out _ B0.out) ?_
        rotate_left
        · intro w hSw; (try dsimp only at hSw); go_simp; (try with_reducible rfl)
        simp only [Act.put, List.getElem_toArray, List.getElem_cons_zero, List.getElem_cons_succ, List.setIfInBounds_toArray, List.set_cons_zero, List.set_cons_succ]
        refine wpAnyM_take (i := 3) (v := ?_) rfl (by kernel_rfl) (by kernel_rfl) (by kernel_rfl) (by kernel_rfl) (fun _ _ _ h => h) (Or.inl ⟨by rfl, ?_⟩) (HSP.out _ B0.out) ?_
        rotate_left
        · intro w hSw; (try dsimp only at hSw); go_simp; (try with_reducible rfl)
        simp only [Act.put, List.getElem_toArray, List.getElem_cons_zero, List.getElem_cons_succ, List.setIfInBounds_toArray, List.set_cons_zero, List.set_cons_succ]
        refine wpAnyM_take (i := 4) (v := ?_) rfl (by kernel_rfl) (by kernel_rfl) (by kernel_rfl) (by kernel_rfl) (fun _ _ _ h => h) (Or.inl ⟨by rfl, ?_⟩) (HSP.out _ B0.out) ?_
        rotate_left
        · intro w hSw; (try dsimp only at hSw); go_simp; (try with_reducible rfl)
        simp only [Act.put, List.getElem_toArray, List.getElem_cons_zero, List.getElem_cons_succ, List.setIfInBounds_toArray, List.set_cons_zero, List.set_cons_succ]
        refine wpAnyM_take (i := 5) (v := ?_) rfl (by kernel_rfl) (by kernel_rfl) (by kernel_rfl) (by kernel_rfl) (fun _ _ _ h => h) (Or.inl ⟨by rfl, ?_⟩) (HSP.out _ B0.out) ?_
        rotate_left
        · intro w hSw; (try dsimp only at hSw); go_simp; (try with_reducible rfl)
        simp only [Act.put, List.getElem_toArray, List.getElem_cons_zero, List.getElem_cons_succ, List.setIfInBounds_toArray, List.set_cons_zero, List.set_cons_succ]
        refine wpAnyM_take (i := 6) (v := ?_) rfl (by kernel_rfl) (by kernel_rfl) (by kernel_rfl) (by kernel_rfl) (fun _ _ _ h => h) (Or.inl ⟨by rfl, ?_⟩) (HSP.out _ B0.out) ?_
        rotate_left
        · intro w hSw; (try dsimp only at hSw); go_simp; (try with_reducible rfl)
        simp only [Act.put, List.getElem_toArray, List.getElem_cons_zero, List.getElem_cons_succ, List.setIfInBounds_toArray, List.set_cons_zero, List.set_cons_succ]
        refine wpAnyM_take (i := 7) (v := ?_) rfl (by kernel_rfl) (by kernel_rfl) (by kernel_rfl) (by kernel_rfl) (fun _ _ _ h => h) (Or.inl ⟨by rfl, ?_⟩) (HSP.out _ B0.out) ?_
        rotate_left
        · intro w hSw; (try dsimp only at hSw); go_simp; (try with_reducible rfl)
        simp only [Act.put, List.getElem_toArray, List.getElem_cons_zero, List.getElem_cons_succ, List.setIfInBounds_toArray, List.set_cons_zero, List.set_cons_succ]
        refine wpAnyM_take (i := 8) (v := ?_) rfl (by kernel_rfl) (by kernel_rfl) (by kernel_rfl) (by kernel_rfl) (fun _ _ _ h => h) (Or.inl ⟨by rfl, ?_⟩) (HSP.out _ B0.out) ?_
        rotate_left
        · intro w hSw; (try dsimp only at hSw); go_simp; (try with_reducible rfl)
        simp only [Act.put, List.getElem_toArray, List.getElem_cons_zero, List.getElem_cons_succ, List.setIfInBounds_toArray, List.set_cons_zero, List.set_cons_succ]
        refine wpAnyM_one (i := 9) (by kernel_rfl) rfl (fun K hK => ?_)
        go_simp
        refine hK.out _ _ (fun _ => HSP.out _ BA.out) ?_
        clear hK K
        refine wpAnyM_one (i := 10) (by kernel_rfl) rfl (fun K hK => ?_)
        refine step_appK _ (by rfl) (.tmp 58) (.tmp 60) 25 rfl rfl _ _ _ _ rfl rfl hrun ?_
        refine hK.out _ _ (fun _ => S9.out) ?_
        clear hK K
        refine wpAnyM_one (i := 11) (by kernel_rfl) rfl (fun K hK => ?_)
        go_simp
        refine hK.out _ _ (fun h => absurd h (by decide)) ?_
        clear hK K
        refine wpAnyM_one (i := 12) (by kernel_rfl) rfl (fun K hK => ?_)
        go_simp
        refine hK.out _ _ (fun h => absurd h (by decide)) ?_
        clear hK K
        refine wpAnyM_done (by kernel_rfl) ?_ _
        go_wp2_with (fail)
        go_roundw
        case rel => exact ⟨k + 1, os.set p u, by omega, by go_num, H9⟩
        case measure => simp [intOf]; omega
      · have hl : (y.lab == lab) = false := beq_eq_false_iff_ne.2 hlab
        have HN := Lib.hid (HP.out.1 hlab)
        clear hlab hm1 hm2
        go_wp2_with (fail)
        go_roundw
        case rel => exact ⟨k + 1, os, by omega, by go_num, Lib.hid ⟨HR.out.1, HR.out.2.1, by rw [HN.out]; exact HR.out.2.2.1, HR.out.2.2.2.1⟩⟩
        case measure => simp [intOf]; omega
    · have hlI : ¬ (k : Int) < (es.length : Int) := by omega
      have hraw := hrel.out.2.2.1
      rw [List.take_of_length_le (by omega)] at hraw
      have HR := Lib.hid (And.intro hrel.out.1 (And.intro hrel.out.2.1 (And.intro hraw hrel.out.2.2.2)))
      clear hraw hrel
      obtain ⟨x0, x1, x2⟩ := bx3 HR.out.1
      generalize wr = w3 at HR x0 x1 x2 ⊢
      go_wp2_with (fail)
      clear hlI x0 x1 x2
      go_loopw [67] (fun i wr => ∃ (f : Nat) (os is : List TV), f ≤ N.length ∧ i = .int .i64 (f : Int) ∧ Hid (wr.heap[br]? = some (.cells #[.slice uA N.length uc, .slice (some ⟨og, 0, none⟩) N.length N.length, .slice (some ⟨ig, 0, none⟩) N.length N.length] 43 (0, 0)) ∧ Two2 wr w1.heap.size og ig os is ∧ tus os = mixO N lab es f ∧ tus is = insO N lab es f 0 ∧ Below w1.heap.size w1 wr)) (fun i _ => N.length - (intOf i).toNat)
      case atStart => exact ⟨0, _, _, by omega, rfl, Lib.hid ⟨HR.out.1, HR.out.2.1, by rw [mixO_zero]; exact HR.out.2.2.1, by rw [vals_nil, insO_zero], HR.out.2.2.2⟩⟩
      case round =>
        obtain ⟨f, os, is, hf, rfl, hrel⟩ := hrel
        by_cases hft : f < N.length
        · have hfI : (f : Int) < (N.length : Int) := by omega
          have hol : os.length = N.length := by have := congrArg List.length hrel.out.2.2.1; rw [tus_len, mixO_len] at this; exact this
          have hfo : f < os.length := by omega
          have hosf : os[f].l = rawO N lab es f := by
            have h1 := tus_at os f hfo
            rw [← h1]
            simp only [hrel.out.2.2.1]
            rw [mixO_at hft, if_neg (Nat.lt_irrefl f)]
          have hD : Below wr.heap.size wr wr.drew := (Below.refl wr.heap.size wr).drew
          have htw := hrel.out.2.1.kept hD
          have hbx := (hD.block _ (heap_lt hrel.out.1)).trans hrel.out.1
          have hBw := hrel.out.2.2.2.2.trans (lower' hD hrel.out.2.2.2.2.size)
          have hti := htw.o.tup _ (List.getElem_mem hfo)
          have hlf : os[f].l.length ≤ 1000 := by rw [hosf]; have := rawO_len N lab es f; omega
          have hon := once13_any wr.drew w1.heap.size os[f] hti (by omega)
          have hput := fun wc (hou : OwnI wc w1.heap.size ⟨os[f].A, onceI os[f].l, os[f].c⟩) (hfr : Fr wr.drew wc os[f].val.ownBlock.toList) => htw.put (w1 := wc) (u := ⟨os[f].A, onceI os[f].l, os[f].c⟩) hfo hBw.size hou hfr (fun b hb => .inl ((blk_at os[f] b).2 ((blk_at ⟨os[f].A, onceI os[f].l, os[f].c⟩ b).1 hb)))
          have hkb := fun wc (hfr : Fr wr.drew wc os[f].val.ownBlock.toList) => (hfr.block br (heap_lt hbx) (row_neq hti hbx (by decide))).trans hbx
          have hoc := (htw.o.cell hfo).1
          have hox := htw.o.lt
          have hmix := mixO_next (lab := lab) (es := es) hft
          have HSP := Lib.hid (fun WW (hW : Below wr.drew.heap.size wr.drew WW) => (⟨(bx3 ((hW.block _ (heap_lt hbx)).trans hbx)).2.1, (hW.cell (p := ⟨og, f, none⟩) hox.2).trans hoc⟩ : WW.cell? ⟨br, 1, none⟩ = some (.slice (some ⟨og, 0, none⟩) N.length N.length) ∧ WW.cell? ⟨og, f, none⟩ = some (.slice os[f].A os[f].l.length os[f].c)))
          obtain ⟨⟨tA, tl, tc⟩, ht⟩ : ∃ t : TV, t = os[f] := ⟨_, rfl⟩
          have htl : tl = rawO N lab es f := by have h1 := congrArg TV.l ht; rw [hosf] at h1; exact h1
          rw [← ht] at HSP hon hput hkb hlf
          unfold OcPost at hon
          dsimp only at HSP hon hput hkb hlf
          obtain ⟨L, hL⟩ : ∃ L, L = outO N lab es f := ⟨_, rfl⟩
          have hout : onceI tl = L := by rw [hL, htl]; rfl
          rw [hout] at hon
          simp only [hout] at hput
          have HON := Lib.hid hon
          have HPUT := Lib.hid hput
          have HKB := Lib.hid hkb
          have HQ := Lib.hid (And.intro hrel.out.2.2.1 (And.intro hrel.out.2.2.2.1 (And.intro hBw (And.intro hmix hbx))))
          have B0 := Lib.hid (Below.refl wr.drew.heap.size wr.drew)
          have HFO := Lib.hid (And.intro hfo hol)
          have HLL := Lib.hid hL
          have hLl : L.length ≤ 1000 := by rw [hL]; have := outO_len N lab es f; omega
          clear hol hosf hD htw hbx hBw hti hlf hon hput hkb hoc hox hmix hout hrel ht htl hL
          go_upto_region 14 with (fail)
          refine wp_region_M (fun j => decide (j < 9)) (fun w' => w'.cell? ⟨br, 1, none⟩ = some (.slice (some ⟨og, 0, none⟩) N.length N.length) ∧ w'.cell? ⟨og, f, none⟩ = some (.slice tA tl.length tc)) (by kernel_rfl) ?_
          refine wpAnyM_take (i := 0) (v := ?_) rfl (by kernel_rfl) (by kernel_rfl) (by kernel_rfl) (by kernel_rfl) (fun _ _ _ h => h) (Or.inl ⟨by rfl, ?_⟩) (HSP.out _ B0.out) ?_
          rotate_left
          · intro w hSw; (try dsimp only at hSw); go_simp; (try with_reducible rfl)
          simp only [Act.put, List.getElem_toArray, List.getElem_cons_zero, List.getElem_cons_succ, List.setIfInBounds_toArray, List.set_cons_zero, List.set_cons_succ]
          refine wpAnyM_take (i := 1) (v := ?_) rfl (by kernel_rfl) (by kernel_rfl) (by kernel_rfl) (by kernel_rfl) (fun _ _ _ h => h) (Or.inl ⟨by rfl, ?_⟩) (HSP.out _ B0.out) ?_
          rotate_left
          · intro w hSw; (try dsimp only at hSw); go_simp; (try with_reducible rfl)
          simp only [Act.put, List.getElem_toArray, List.getElem_cons_zero, List.getElem_cons_succ, List.setIfInBounds_toArray, List.set_cons_zero, List.set_cons_succ]
          refine wpAnyM_take (i := 2) (v := ?_) rfl (by kernel_rfl) (by kernel_rfl) (by kernel_rfl) (by kernel_rfl) (fun _ _ _ h => h) (Or.inl ⟨by rfl, ?_⟩) (HSP.out _ B0.out) ?_
          rotate_left
          · intro w hSw; (try dsimp only at hSw); go_simp; (try with_reducible rfl)
          simp only [Act.put, List.getElem_toArray, List.getElem_cons_zero, List.getElem_cons_succ, List.setIfInBounds_toArray, List.set_cons_zero, List.set_cons_succ]
          refine wpAnyM_take (i := 3) (v := ?_) rfl (by kernel_rfl) (by kernel_rfl) (by kernel_rfl) (by kernel_rfl) (fun _ _ _ h => h) (Or.inl ⟨by rfl, ?_⟩) (HSP.out _ B0.out) ?_
          rotate_left
          · intro w hSw; (try dsimp only at hSw); go_simp; (try with_reducible rfl)
          simp only [Act.put, List.getElem_toArray, List.getElem_cons_zero, List.getElem_cons_succ, List.setIfInBounds_toArray, List.set_cons_zero, List.set_cons_succ]
          refine wpAnyM_take (i := 4) (v := ?_) rfl (by kernel_rfl) (by kernel_rfl) (by kernel_rfl) (by kernel_rfl) (fun _ _ _ h => h) (Or.inl ⟨by rfl, ?_⟩) (HSP.out _ B0.out) ?_
          rotate_left
          · intro w hSw; (try dsimp only at hSw); go_simp; (try with_reducible rfl)
          simp only [Act.put, List.getElem_toArray, List.getElem_cons_zero, List.getElem_cons_succ, List.setIfInBounds_toArray, List.set_cons_zero, List.set_cons_succ]
          refine wpAnyM_take (i := 5) (v := ?_) rfl (by kernel_rfl) (by kernel_rfl) (by kernel_rfl) (by kernel_rfl) (fun _ _ _ h => h) (Or.inl ⟨by rfl, ?_⟩) (HSP.out _ B0.out) ?_
          rotate_left
          · intro w hSw; (try dsimp only at hSw); go_simp; (try with_reducible rfl)
          simp only [Act.put, List.getElem_toArray, List.getElem_cons_zero, List.getElem_cons_succ, List.setIfInBounds_toArray, List.set_cons_zero, List.set_cons_succ]
          refine wpAnyM_take (i := 6) (v := ?_) rfl (by kernel_rfl) (by kernel_rfl) (by kernel_rfl) (by kernel_rfl) (fun _ _ _ h => h) (Or.inl ⟨by rfl, ?_⟩) (HSP.out _ B0.out) ?_
          rotate_left
          · intro w hSw; (try dsimp only at hSw); go_simp; (try with_reducible rfl)
          simp only [Act.put, List.getElem_toArray, List.getElem_cons_zero, List.getElem_cons_succ, List.setIfInBounds_toArray, List.set_cons_zero, List.set_cons_succ]
          refine wpAnyM_take (i := 7) (v := ?_) rfl (by kernel_rfl) (by kernel_rfl) (by kernel_rfl) (by kernel_rfl) (fun _ _ _ h => h) (Or.inl ⟨by rfl, ?_⟩) (HSP.out _ B0.out) ?_
          rotate_left
          · intro w hSw; (try dsimp only at hSw); go_simp; (try with_reducible rfl)
          simp only [Act.put, List.getElem_toArray, List.getElem_cons_zero, List.getElem_cons_succ, List.setIfInBounds_toArray, List.set_cons_zero, List.set_cons_succ]
          refine wpAnyM_one (i := 8) (by kernel_rfl) rfl (fun K hK => ?_)
          go_simp
          go_wp2_with (go_at_call 22; (with_reducible refine HON.out.mono ?_); rintro e wc ⟨rfl, hoc, hfc⟩; obtain ⟨⟨cc, cf⟩, ht14, hl14, hb14⟩ := HPUT.out wc hoc hfc; have SC := Lib.hid (And.intro (bx3 (HKB.out wc hfc)).2.1 cc); have H14 := Lib.hid (And.intro (hb14 HQ.out.2.2.2.2 (by decide) (by decide)) (And.intro ht14 (HQ.out.2.2.1.trans hl14))); clear hoc hfc ht14 hl14 hb14)
          refine hK.out _ _ (fun _ => SC.out) ?_
          clear hK K
          refine wpAnyM_one (i := 9) (by kernel_rfl) rfl (fun K hK => ?_)
          go_simp
          refine hK.out _ _ (fun h => absurd h (by decide)) ?_
          clear hK K
          refine wpAnyM_one (i := 10) (by kernel_rfl) rfl (fun K hK => ?_)
          go_simp
          refine hK.out _ _ (fun h => absurd h (by decide)) ?_
          clear hK K
          refine wpAnyM_done (by kernel_rfl) ?_ _
          obtain ⟨os2, hos⟩ : ∃ x, x = os.set f ⟨tA, L, tc⟩ := ⟨_, rfl⟩
          rw [← hos] at H14
          have hmx : tus os2 = mixO N lab es (f + 1) := by rw [hos, tus_set, HQ.out.2.2.2.1, HQ.out.1, HLL.out]
          have hfs : f < os2.length := by rw [hos, List.length_set]; exact HFO.out.1
          have hat : os2[f] = ⟨tA, L, tc⟩ := by subst hos; exact List.getElem_set_self ..
          have hK14 := Lib.hid (show tus os2 = mixO N lab es (f + 1) ∧ ∃ h : f < os2.length, os2[f] = ⟨tA, L, tc⟩ from ⟨hmx, hfs, hat⟩)
          have hcell := (H14.out.2.1.o.cell hfs).1
          rw [hat] at hcell
          have HB14 := Lib.hid (And.intro hcell HQ.out.2.1)
          clear hmx hfs hat hos hcell SC HPUT HKB HON HSP HQ cc cf
          obtain ⟨x0, x1, x2⟩ := bx3 H14.out.1
          have c0 := HB14.out.1
          go_upto_region 15 with (fail)
          generalize (wc.setCell ⟨og, f, none⟩ (.slice tA L.length tc)) = wn at H14 HB14 x0 x1 x2 c0 ⊢
          go_wp2_with (fail)
          clear x0 x1 x2 c0
          go_loopw [86] (fun j wq => ∃ (m : Nat) (is : List TV), m ≤ L.length ∧ j = .int .i64 (m : Int) ∧ Hid (wq.heap[br]? = some (.cells #[.slice uA N.length uc, .slice (some ⟨og, 0, none⟩) N.length N.length, .slice (some ⟨ig, 0, none⟩) N.length N.length] 43 (0, 0)) ∧ Two2 wq w1.heap.size og ig os2 is ∧ tus is = insO N lab es f m ∧ Below w1.heap.size w1 wq)) (fun j _ => L.length - (intOf j).toNat)
          case atStart => exact ⟨0, is, by omega, rfl, Lib.hid ⟨H14.out.1, H14.out.2.1, HB14.out.2, H14.out.2.2⟩⟩
          case round =>
            obtain ⟨m, is, hm, rfl, hrel⟩ := hrel
            rename World => wq
            by_cases hmt : m < L.length
            · have hmI : (m : Int) < (L.length : Int) := by omega
              obtain ⟨q, hq1, hq2⟩ : ∃ q : Nat, L[m] = (q : Int) ∧ q < N.length := by
                have h1 : L[m] ∈ outO N lab es f := HLL.out ▸ List.getElem_mem hmt
                rw [HNE.out] at h1
                obtain ⟨q, e1, e2, _⟩ := (mem_outO (by rw [← HNE.out]; exact hft)).1 h1
                exact ⟨q, e1, by rw [HNE.out]; exact e2⟩
              obtain ⟨hk1, hk2⟩ := hK14.out.2
              have hu := hrel.out.2.1.o.tup _ (List.getElem_mem hk1)
              rw [hk2] at hu
              obtain ⟨ub, uo, huA, hub, u0⟩ := (OwnI.ok hu (by dsimp only; omega)).cell (k := m) hmt
              dsimp only at huA u0
              rw [hq1] at u0
              rw [huA]
              have hil : is.length = N.length := by have := congrArg List.length hrel.out.2.2.1; rw [tus_len, insO_len] at this; exact this
              have hiq : q < is.length := by omega
              have hil2 : is[q].l.length ≤ 3000 := by
                have h1 := tus_at is q hiq
                rw [← h1]
                simp only [hrel.out.2.2.1]
                rw [insO_at hq2]
                have := inO_len N lab es f m q
                omega
              have hD : Below wq.heap.size wq wq.drew := (Below.refl wq.heap.size wq).drew
              have htw := hrel.out.2.1.symm.kept hD
              have hBw := hrel.out.2.2.2.trans (lower' hD hrel.out.2.2.2.size)
              have hbx6 := (hD.block _ (heap_lt hrel.out.1)).trans hrel.out.1
              obtain ⟨u, w9, hrun, hul, ⟨cc, cf⟩, htw9, hlow9, hkeep9, hbA, hk5⟩ := htw.app hiq hBw.size (f : Int) (by omega)
              have hoc := (htw.o.cell hiq).1
              have hbx9 := hkeep9 hbx6 (by decide) (by decide)
              have hbxA := hk5 hbx6 (by decide)
              have hcon : tus (is.set q u) = insO N lab es f (m + 1) := by
                rw [tus_set, hul, insO_put (by rw [← HLL.out]; exact hmt) hq2 (by rw [← hq1]; simp only [← HLL.out]), hrel.out.2.2.1]
                congr 2
                have h1 := tus_at is q hiq
                rw [← h1]
                simp only [hrel.out.2.2.1]
                rw [insO_at hq2]
              have hox := htw.o.lt
              have HSP := Lib.hid (fun WW (hW : Below wq.drew.heap.size wq.drew WW) => (⟨(bx3 ((hW.block _ (heap_lt hbx6)).trans hbx6)).2.2, (hW.cell (p := ⟨ig, q, none⟩) hox.2).trans hoc⟩ : WW.cell? ⟨br, 2, none⟩ = some (.slice (some ⟨ig, 0, none⟩) N.length N.length) ∧ WW.cell? ⟨ig, q, none⟩ = some (.slice is[q].A is[q].l.length is[q].c)))
              have H9 := Lib.hid (And.intro hbx9 (And.intro htw9.symm (And.intro hcon (hBw.trans hlow9))))
              have S9 := Lib.hid (And.intro (bx3 hbxA).2.2 cc)
              have B0 := Lib.hid (Below.refl wq.drew.heap.size wq.drew)
              have BA := Lib.hid hbA
              have qI : (q : Int) < (N.length : Int) := by omega
              generalize is[q] = tp at *
              clear hk2 htw hul htw9 hlow9 hkeep9 hbA hk5 hbx6 hbx9 hbxA hcon hox hoc hD hBw hiq hq1 hu hub hil hil2 hrel huA
              go_upto_region 18 with (fail)
              clear u0
              refine wp_region_M (fun j => decide (j < 11)) (fun w' => w'.cell? ⟨br, 2, none⟩ = some (.slice (some ⟨ig, 0, none⟩) N.length N.length) ∧ w'.cell? ⟨ig, q, none⟩ = some (.slice tp.A tp.l.length tp.c)) (by kernel_rfl) ?_
              refine wpAnyM_take (i := 0) (v := ?_) rfl (by kernel_rfl) (by kernel_rfl) (by kernel_rfl) (by kernel_rfl) (fun _ _ _ h => h) (Or.inl ⟨by rfl, ?_⟩) (HSP.out _ B0.out) ?_
              rotate_left
              · intro w hSw; (try dsimp only at hSw); go_simp; (try with_reducible rfl)
              simp only [Act.put, List.getElem_toArray, List.getElem_cons_zero, List.getElem_cons_succ, List.setIfInBounds_toArray, List.set_cons_zero, List.set_cons_succ]
              refine wpAnyM_take (i := 1) (v := ?_) rfl (by kernel_rfl) (by kernel_rfl) (by kernel_rfl) (by kernel_rfl) (fun _ _ _ h => h) (Or.inl ⟨by rfl, ?_⟩) (HSP.out _ B0.out) ?_
              rotate_left
              · intro w hSw; (try dsimp only at hSw); go_simp; (try with_reducible rfl)
              simp only [Act.put, List.getElem_toArray, List.getElem_cons_zero, List.getElem_cons_succ, List.setIfInBounds_toArray, List.set_cons_zero, List.set_cons_succ]
              refine wpAnyM_take (i := 2) (v := ?_) rfl (by kernel_rfl) (by kernel_rfl) (by kernel_rfl) (by kernel_rfl) (fun _ _ _ h => h) (Or.inl ⟨by rfl, ?_⟩) (HSP.out _ B0.out) ?_
              rotate_left
              · intro w hSw; (try dsimp only at hSw); go_simp; (try with_reducible rfl)
              simp only [Act.put, List.getElem_toArray, List.getElem_cons_zero, List.getElem_cons_succ, List.setIfInBounds_toArray, List.set_cons_zero, List.set_cons_succ]
              refine wpAnyM_take (i := 3) (v := ?_) rfl (by kernel_rfl) (by kernel_rfl) (by kernel_rfl) (by kernel_rfl) (fun _ _ _ h => h) (Or.inl ⟨by rfl, ?_⟩) (HSP.out _ B0.out) ?_
              rotate_left
              · intro w hSw; (try dsimp only at hSw); go_simp; (try with_reducible rfl)
              simp only [Act.put, List.getElem_toArray, List.getElem_cons_zero, List.getElem_cons_succ, List.setIfInBounds_toArray, List.set_cons_zero, List.set_cons_succ]
              refine wpAnyM_take (i := 4) (v := ?_) rfl (by kernel_rfl) (by kernel_rfl) (by kernel_rfl) (by kernel_rfl) (fun _ _ _ h => h) (Or.inl ⟨by rfl, ?_⟩) (HSP.out _ B0.out) ?_
              rotate_left
              · intro w hSw; (try dsimp only at hSw); go_simp; (try with_reducible rfl)
              simp only [Act.put, List.getElem_toArray, List.getElem_cons_zero, List.getElem_cons_succ, List.setIfInBounds_toArray, List.set_cons_zero, List.set_cons_succ]
              refine wpAnyM_take (i := 5) (v := ?_) rfl (by kernel_rfl) (by kernel_rfl) (by kernel_rfl) (by kernel_rfl) (fun _ _ _ h => h) (Or.inl ⟨by rfl, ?_⟩) (HSP.out _ B0.out) ?_
              rotate_left
              · intro w hSw; (try dsimp only at hSw); go_simp; (try with_reducible rfl)
              simp only [Act.put, List.getElem_toArray, List.getElem_cons_zero, List.getElem_cons_succ, List.setIfInBounds_toArray, List.set_cons_zero, List.set_cons_succ]
              refine wpAnyM_take (i := 6) (v := ?_) rfl (by kernel_rfl) (by kernel_rfl) (by kernel_rfl) (by kernel_rfl) (fun _ _ _ h => h) (Or.inl ⟨by rfl, ?_⟩) (HSP.out _ B0.out) ?_
              rotate_left
              · intro w hSw; (try dsimp only at hSw); go_simp; (try with_reducible rfl)
              simp only [Act.put, List.getElem_toArray, List.getElem_cons_zero, List.getElem_cons_succ, List.setIfInBounds_toArray, List.set_cons_zero, List.set_cons_succ]
              refine wpAnyM_take (i := 7) (v := ?_) rfl (by kernel_rfl) (by kernel_rfl) (by kernel_rfl) (by kernel_rfl) (fun _ _ _ h => h) (Or.inl ⟨by rfl, ?_⟩) (HSP.out _ B0.out) ?_
              rotate_left
              · intro w hSw; (try dsimp only at hSw); go_simp; (try with_reducible rfl)
              simp only [Act.put, List.getElem_toArray, List.getElem_cons_zero, List.getElem_cons_succ, List.setIfInBounds_toArray, List.set_cons_zero, List.set_cons_succ]
              refine wpAnyM_take (i := 8) (v := ?_) rfl (by kernel_rfl) (by kernel_rfl) (by kernel_rfl) (by kernel_rfl) (fun _ _ _ h => h) (Or.inl ⟨by rfl, ?_⟩) (HSP.out _ B0.out) ?_
              rotate_left
              · intro w hSw; (try dsimp only at hSw); go_simp; (try with_reducible rfl)
              simp only [Act.put, List.getElem_toArray, List.getElem_cons_zero, List.getElem_cons_succ, List.setIfInBounds_toArray, List.set_cons_zero, List.set_cons_succ]
              refine wpAnyM_one (i := 9) (by kernel_rfl) rfl (fun K hK => ?_)
              go_simp
              refine hK.out _ _ (fun _ => HSP.out _ BA.out) ?_
              clear hK K
              refine wpAnyM_one (i := 10) (by kernel_rfl) rfl (fun K hK => ?_)
              refine step_appK _ (by rfl) (.tmp 97) (.tmp 99) 25 rfl rfl _ _ _ _ rfl rfl hrun ?_
              refine hK.out _ _ (fun _ => S9.out) ?_
              clear hK K
              refine wpAnyM_one (i := 11) (by kernel_rfl) rfl (fun K hK => ?_)
              go_simp
              refine hK.out _ _ (fun h => absurd h (by decide)) ?_
              clear hK K
              refine wpAnyM_one (i := 12) (by kernel_rfl) rfl (fun K hK => ?_)
              go_simp
              refine hK.out _ _ (fun h => absurd h (by decide)) ?_
              clear hK K
              refine wpAnyM_done (by kernel_rfl) ?_ _
              go_wp2_with (fail)
              go_roundw
              case rel => exact ⟨m + 1, is.set q u, by omega, by go_num, H9⟩
              case measure => simp [intOf]; omega
            · have hmI : ¬ (m : Int) < (L.length : Int) := by omega
              have hnx := insO_next N lab es f m (by rw [← HLL.out]; omega)
              have HN := Lib.hid (And.intro hrel.out.1 (And.intro hrel.out.2.1 (And.intro hK14.out.1 (And.intro (hrel.out.2.2.1.trans hnx) hrel.out.2.2.2))))
              clear hnx hrel
              go_wp2_with (fail)
              go_roundw
              case rel => exact ⟨f + 1, os2, is, by omega, by go_num, HN⟩
              case measure => simp [intOf]; omega
        · have hfI : ¬ (f : Int) < (N.length : Int) := by omega
          obtain rfl : f = N.length := by omega
          have hg0 := (hrel.out.2.2.2.2.block w.heap.size (heap_lt H1.out.2.2)).trans H1.out.2.2
          have hws : w.heap.size < w1.heap.size := heap_lt H1.out.2.2
          obtain ⟨y0, y1, y2⟩ := bx3 hg0
          have z0 := frozen_of_row _ w.heap.size 0 _ _ hg0
          have z1 := frozen_of_row _ w.heap.size 1 _ _ hg0
          have z2 := frozen_of_row _ w.heap.size 2 _ _ hg0
          obtain ⟨x0, x1, x2⟩ := bx3 hrel.out.1
          have hf3 := fr_set3 wr w.heap.size (.slice uA N.length uc) (.slice (some ⟨og, 0, none⟩) N.length N.length) (.slice (some ⟨ig, 0, none⟩) N.length N.length)
          have hS : ∀ s ∈ [w.heap.size], s < w1.heap.size := fun s hs => by rw [List.mem_singleton.1 hs]; exact hws
          have ho9 := hrel.out.2.1.o.frS hf3 hS
          have hi9 := hrel.out.2.1.i.frS hf3 hS
          have hu9 := OwnI.fr (OwnI.below H1.out.1 hrel.out.2.2.2.2) hf3 (fun a ha hm => by
            have h1 := (H1.out.1.lo a ha).1
            have h2 := List.mem_singleton.1 hm
            rw [alloc1_size] at h1
            omega)
          have hol : os.length = N.length := by have := congrArg List.length hrel.out.2.2.1; rw [tus_len, mixO_len] at this; exact this
          have hil : is.length = N.length := by have := congrArg List.length hrel.out.2.2.2.1; rw [tus_len, insO_len] at this; exact this
          have hosl : ∀ t ∈ os, t.l.length ≤ 1000 := fun t ht => by
            have h1 := mem_tus ht
            rw [hrel.out.2.2.1] at h1
            obtain ⟨q, _, e⟩ := List.mem_map.1 h1
            rw [← e]
            have h2 := rawO_len N lab es q
            have h3 := outO_len N lab es q
            split <;> omega
          have hisl : ∀ t ∈ is, t.l.length ≤ 3000 := fun t ht => by
            have h1 := mem_tus ht
            rw [hrel.out.2.2.2.1] at h1
            obtain ⟨q, _, e⟩ := List.mem_map.1 h1
            rw [← e]
            have h2 := inO_len N lab es N.length 0 q
            omega
          have hoO := ho9.ok (fun t ht => by have := hosl t ht; omega) (by omega)
          have hiO := hi9.ok (fun t ht => by have := hisl t ht; omega) (by omega)
          rw [hol] at hoO
          rw [hil] at hiO
          have huO := OwnI.ok (t := ⟨uA, N, uc⟩) hu9 (by dsimp only; omega)
          have hp3 := put3 hg0 (.slice uA N.length uc) (.slice (some ⟨og, 0, none⟩) N.length N.length) (.slice (some ⟨ig, 0, none⟩) N.length N.length)
          have hBe : Below w.heap.size w (((wr.setCell ⟨w.heap.size, 0, none⟩ (.slice uA N.length uc)).setCell ⟨w.heap.size, 1, none⟩ (.slice (some ⟨og, 0, none⟩) N.length N.length)).setCell ⟨w.heap.size, 2, none⟩ (.slice (some ⟨ig, 0, none⟩) N.length N.length)) :=
            (H1.out.2.1.trans (lower' hrel.out.2.2.2.2 H1.out.2.1.size)).trans (hf3.below (Nat.le_of_lt (Nat.lt_of_lt_of_le hws hrel.out.2.2.2.2.size)) (fun s hs => by rw [List.mem_singleton.1 hs]; exact Nat.le_refl _))
          have HF := Lib.hid (And.intro hp3 (And.intro (And.intro huO (And.intro hoO hiO)) (And.intro hrel.out.2.2.1 (And.intro hrel.out.2.2.2.1 (And.intro hBe (And.intro hol hil))))))
          clear hg0 hf3 hS ho9 hi9 hu9 hol hil hosl hisl hoO hiO huO hp3 hBe hrel hws
          go_wp2_with (fail)
          refine bodyPost_ret (resRoads HF.out.1 _ rfl) rfl ⟨⟨uA, uc, N, ⟨some ⟨og, 0, none⟩, os, N.length⟩, ⟨some ⟨ig, 0, none⟩, is, N.length⟩⟩, by unfold rvA; dsimp only; rw [HF.out.2.2.2.2.2.1, HF.out.2.2.2.2.2.2], ⟨HF.out.2.1.1, HF.out.2.1.2.1, HF.out.2.1.2.2⟩, HNE.out, by rw [← HNE.out]; exact HF.out.2.2.1, by rw [← HNE.out]; exact HF.out.2.2.2.1, HF.out.2.2.2.2.1⟩
end Go.Proofs.Ytgjjdmkoamjdpaa
