/- The steps of a pattern: step.Of. -/
import Derived.Test.YtgldcahhliokeaaJoK
import Derived.Test.YtgldcahhliokeaaOrdM
namespace Go.Proofs.Ytgldcahhliokeaa
open Go.RowKit Go.Maps

abbrev stV (s : Stp) : Value := .agg #[.string ⟨s.lab.toArray⟩, .int .i64 (s.fr : Int), .int .i64 (s.to : Int), .int .i64 (s.kn : Int)]
def stC (s : Stp) : List Value := [.string ⟨s.lab.toArray⟩, .int .i64 (s.fr : Int), .int .i64 (s.to : Int), .int .i64 (s.kn : Int)]
def stsC (l : List Stp) : List Value := l.flatMap stC
theorem stsC_app (a b : List Stp) : stsC (a ++ b) = stsC a ++ stsC b := List.flatMap_append
theorem stsC_len (l : List Stp) : (stsC l).length = l.length * 4 := by
  induction l with
  | nil => rfl
  | cons a l ih =>
    show (stC a ++ stsC l).length = _
    rw [List.length_append, ih, List.length_cons]
    show 4 + _ = _
    omega
theorem stsC_one (l : List Stp) : ∀ u ∈ stsC l, u.oneCell' = true := by
  intro u hu
  obtain ⟨s, _, hs⟩ := List.mem_flatMap.1 hu
  simp [stC] at hs
  rcases hs with rfl | rfl | rfl | rfl <;> rfl
theorem flat4_at {α : Type} (f : α → List Value) (hf : ∀ a, (f a).length = 4) : ∀ (l : List α) (k j : Nat) (hk : k < l.length), j < 4 → (l.flatMap f)[k * 4 + j]? = (f l[k])[j]?
  | [], k, _, hk, _ => absurd hk (by simp)
  | a :: l, 0, j, _, hj => by
    rw [List.flatMap_cons, Nat.zero_mul, Nat.zero_add, List.getElem?_append_left (by rw [hf]; exact hj)]
    rfl
  | a :: l, k + 1, j, hk, hj => by
    rw [List.flatMap_cons, List.getElem?_append_right (by rw [hf]; omega), hf]
    have e : (k + 1) * 4 + j - 4 = k * 4 + j := by omega
    rw [e, flat4_at f hf l k j (by simpa using hk) hj]
    rfl
theorem infoStep : (Try.prog.info? 99).map (fun i => (i.zero, i.size, i.bytes)) = some (some (.agg #[.string .empty, .int .i64 0, .int .i64 0, .int .i64 0]), 4, 40) := by kernel_rfl
theorem steps_at (vs : List Nm) : ∀ (ats : List Atm) (kn k : Nat) (hk : k < ats.length), (stepsK vs kn ats)[k]? = some (stepOf vs (knEnd kn ((stepsK vs kn ats).take k)) ats[k]) ∧ knEnd kn ((stepsK vs kn ats).take (k + 1)) = (stepOf vs (knEnd kn ((stepsK vs kn ats).take k)) ats[k]).next
  | [], _, k, hk => absurd hk (by simp)
  | a :: r, kn, 0, _ => ⟨rfl, rfl⟩
  | a :: r, kn, k + 1, hk => by
    have := steps_at vs r (stepOf vs kn a).next k (by simpa using hk)
    exact this
theorem steps_take {ats : List Atm} {k : Nat} (hk : k < ats.length) : (stepsL ats).take (k + 1) = (stepsL ats).take k ++ [stepOf (varsL ats) (knEnd 0 ((stepsL ats).take k)) ats[k]] := by
  have h := (steps_at (varsL ats) ats 0 k hk).1
  have hl : k < (stepsL ats).length := by unfold stepsL; rw [stepsK_len]; exact hk
  rw [List.take_succ_eq_append_getElem hl]
  congr 2
  have h2 := List.getElem?_eq_getElem hl
  unfold stepsL at h2 hl ⊢
  rw [h2] at h
  exact Option.some.inj h
theorem kn_take {ats : List Atm} {k : Nat} (hk : k < ats.length) : knEnd 0 ((stepsL ats).take (k + 1)) = (stepOf (varsL ats) (knEnd 0 ((stepsL ats).take k)) ats[k]).next := (steps_at (varsL ats) ats 0 k hk).2
theorem kn_le {ats : List Atm} (k : Nat) : knEnd 0 ((stepsL ats).take k) ≤ (varsL ats).length := by
  have h : ∀ (ss : List Stp) (kn k : Nat), ChainOk kn ss → knEnd kn (ss.take k) ≤ knEnd kn ss := by
    intro ss
    induction ss with
    | nil => intro kn k _; simp
    | cons s r ih =>
      intro kn k hc
      cases k with
      | zero =>
        show kn ≤ knEnd s.next r
        have h1 := knEnd_le r s.next hc.2.2.2
        have h2 : kn ≤ s.next := by have := hc.1; unfold Stp.next; omega
        omega
      | succ k => exact ih s.next k hc.2.2.2
  have := h (stepsL ats) 0 k (chain_ok ats)
  rw [knEnd_ok] at this
  exact this
theorem sts_own {w : World} {base c : Nat} {A : Option Addr} {l : List Nm} (h : w.ownsRow base 9 1 (.slice A l.length c) l.length (strs l)) (hl : l.length ≤ 100) : Sts w A c l := by
  obtain ⟨A', c', e, h1, _, h2⟩ := own_shape h
  injection e with e1 _ e2
  subst e1 e2
  exact ⟨h2, h1, hl⟩
theorem fr_grown {w w' : World} {v : Value} (h : w.grownBy w' v.ownBlock) : Fr w w' v.ownBlock.toList := by
  rcases ho : v.ownBlock with _ | g
  · rw [ho] at h; exact Fr.of_grown0 h _
  · rw [ho] at h; exact Fr.of_grown h
theorem set4c {w : World} {b : Nat} {t : TypeId} {x0 x1 x2 x3 : Value} (h : w.heap[b]? = some (.cells #[x0, x1, x2, x3] t (0, 0))) (v0 v1 v2 v3 : Value) :
    ((((w.setCell ⟨b, 0, none⟩ v0).setCell ⟨b, 1, none⟩ v1).setCell ⟨b, 2, none⟩ v2).setCell ⟨b, 3, none⟩ v3).heap[b]? = some (.cells #[v0, v1, v2, v3] t (0, 0)) :=
  heap_setCell_same _ b 3 _ _ v3 (heap_setCell_same _ b 2 _ _ v2 (heap_setCell_same _ b 1 _ _ v1 (heap_setCell_same _ b 0 _ _ v0 h)))
/-- A box just made is filled. -/
theorem box4 {W1 w : World} {b : Nat} {t : TypeId} {x0 x1 x2 x3 v0 v1 v2 v3 : Value} (hb : Below W1.heap.size W1 w) (h : w.heap[b]? = some (.cells #[x0, x1, x2, x3] t (0, 0)) ∧ W1.heap.size ≤ b) :
    ((((w.setCell ⟨b, 0, none⟩ v0).setCell ⟨b, 1, none⟩ v1).setCell ⟨b, 2, none⟩ v2).setCell ⟨b, 3, none⟩ v3).heap[b]? = some (.cells #[v0, v1, v2, v3] t (0, 0)) ∧ Below W1.heap.size W1 ((((w.setCell ⟨b, 0, none⟩ v0).setCell ⟨b, 1, none⟩ v1).setCell ⟨b, 2, none⟩ v2).setCell ⟨b, 3, none⟩ v3) :=
  ⟨set4c h.1 v0 v1 v2 v3, ((((hb.setCell h.2 _).setCell h.2 _).setCell h.2 _).setCell h.2 _)⟩
/-- What Of answers. -/
def OfPost (w : World) (ss : List Stp) (e : Ending) (w' : World) : Prop := ∃ A c, e = .returned (.slice A ss.length c) ∧ Rd w' w'.heap.size A (stsC ss) ∧ ss.length ≤ c ∧ Below w.heap.size w w'
set_option maxRecDepth 100000 in
set_option maxHeartbeats 4000000 in
theorem stepsOf_any (x : VW) (w : World) (h : x.Ok w) (hg : goodP x.v = true) : Calls Try.prog 57 #[.agg (vwA x)] w (OfPost w (stepsL x.v.atoms)) := by
  obtain ⟨g1, g2, g3, g4, _⟩ := goodP_names hg
  have hb1 : Below w.heap.size w (w.alloc (.cells (vwA x) 25)) := (Below.refl _ _).alloc (Nat.le_refl _) _
  have hk := vars_any x _ (h.below hb1) hg
  have hgg := heap_alloc_new w (.cells (vwA x) 25)
  unfold vwA at hb1 hk hgg ⊢
  rw [g1] at hb1 hk hgg ⊢
  have HA := Lib.hid (And.intro h.ats g4)
  have HB := Lib.hid hb1
  have HK := Lib.hid hk
  have HG := Lib.hid hgg
  clear h hg g4 g3 hb1 hk hgg
  go_enter Try.func57, Try.ntmps57
  go_wp2_with (go_at_call 63; (with_reducible refine HK.out.mono ?_); rintro e w2 ⟨vA, vc, rfl, o2, s2, b2⟩; have HV := Lib.hid (And.intro (own_mono (base' := w.heap.size) o2 (by simp)) (HB.out.trans (lower' b2 HB.out.size))); have g0 := (b2.block w.heap.size (by simp)).trans HG.out; have q3 := cell_of_row w2 w.heap.size 3 _ _ _ g0; clear g0 b2 o2 s2)
  clear q3
  go_loopw [4, 5, 14] (fun out kn i wr => ∃ k : Nat, k ≤ x.v.atoms.length ∧ i = .int .i64 (k : Int) ∧ kn = .int .i64 (knEnd 0 ((stepsL x.v.atoms).take k) : Int) ∧ Hid (wr.ownsRow w.heap.size 99 4 out ((stepsL x.v.atoms).take k).length (stsC ((stepsL x.v.atoms).take k)) ∧ wr.ownsRow w.heap.size 9 1 (.slice vA (varsL x.v.atoms).length vc) (varsL x.v.atoms).length (strs (varsL x.v.atoms)) ∧ Below w.heap.size w wr)) (fun _ _ i _ => x.v.atoms.length - (intOf i).toNat)
  case atStart => exact ⟨0, by omega, rfl, rfl, Lib.hid ⟨World.ownsRow_nil _ _ _ _, HV.out.1, HV.out.2⟩⟩
  case round =>
    obtain ⟨k, hk, rfl, rfl, hrel⟩ := hrel
    by_cases hlt : k < x.v.atoms.length
    · obtain ⟨b, o, hA, _, c0, c1, c2⟩ := (HA.out.1.below hrel.out.2.2).cell hlt
      have hlI : (k : Int) < (x.v.atoms.length : Int) := by omega
      have hnm := HA.out.2 _ (List.getElem_mem hlt)
      have hst := steps_take hlt
      have hkn := kn_take hlt
      have hle := kn_le (ats := x.v.atoms) k
      have hm1 : x.v.atoms[k].fr ∈ varsL x.v.atoms := varsL_mem.2 ⟨_, List.getElem_mem hlt, .inl rfl⟩
      have hm2 : x.v.atoms[k].to ∈ varsL x.v.atoms := varsL_mem.2 ⟨_, List.getElem_mem hlt, .inr rfl⟩
      have hvl : (varsL x.v.atoms).length ≤ 16 := by have := varsL_len x.v.atoms; omega
      rw [hA]
      generalize x.v.atoms[k] = y at c0 c1 c2 hnm hst hkn hm1 hm2
      generalize knEnd 0 ((stepsL x.v.atoms).take k) = kn at hst hkn hle ⊢
      have HN := Lib.hid hnm
      have HM := Lib.hid (And.intro hst (And.intro hkn (And.intro hle hvl)))
      have hB1 := hrel.out.2.2.alloc hrel.out.2.2.size (.cells #[.string ⟨y.fr.toArray⟩, .string ⟨y.lab.toArray⟩, .string ⟨y.to.toArray⟩] 69)
      have hO1 := World.ownsRow.alloc hrel.out.1 (.cells #[.string ⟨y.fr.toArray⟩, .string ⟨y.lab.toArray⟩, .string ⟨y.to.toArray⟩] 69)
      have hR1 := World.ownsRow.alloc hrel.out.2.1 (.cells #[.string ⟨y.fr.toArray⟩, .string ⟨y.lab.toArray⟩, .string ⟨y.to.toArray⟩] 69)
      have hG1 := heap_alloc_new wr (.cells #[.string ⟨y.fr.toArray⟩, .string ⟨y.lab.toArray⟩, .string ⟨y.to.toArray⟩] 69)
      go_upto_region 7 with (fail)
      generalize wr.alloc (.cells #[.string ⟨y.fr.toArray⟩, .string ⟨y.lab.toArray⟩, .string ⟨y.to.toArray⟩] 69) = W1 at hB1 hO1 hR1 hG1 ⊢
      have hS1 := sts_own hR1 (by omega)
      generalize wr.heap.size = N at hG1 ⊢
      obtain ⟨i1, hi1⟩ : ∃ i, i = (varsL x.v.atoms).idxOf y.fr := ⟨_, rfl⟩
      obtain ⟨i2, hi2⟩ : ∃ i, i = (varsL x.v.atoms).idxOf y.to := ⟨_, rfl⟩
      have HC := Lib.hid (fun W => clone_any y.lab W (by have := HN.out.2.1; omega))
      have hx1 : indexL (varsL x.v.atoms) y.fr = (i1 : Int) := by unfold indexL; rw [if_pos hm1, hi1]
      have hx2 : indexL (varsL x.v.atoms) y.to = (i2 : Int) := by unfold indexL; rw [if_pos hm2, hi2]
      have HI1 := Lib.hid (fun W (hW : Below W1.heap.size W1 W) => hx1 ▸ index_any vA vc (varsL x.v.atoms) y.fr W (hS1.below hW))
      have HI2 := Lib.hid (fun W (hW : Below W1.heap.size W1 W) => hx2 ▸ index_any vA vc (varsL x.v.atoms) y.to W (hS1.below hW))
      have HL := Lib.hid (And.intro (hi1 ▸ idx_lt hm1 : i1 < (varsL x.v.atoms).length) (And.intro (hi2 ▸ idx_lt hm2 : i2 < (varsL x.v.atoms).length) (And.intro hi1 hi2)))
      have H1 := Lib.hid (And.intro hB1 (And.intro hO1 hR1))
      have HSP := Lib.hid (fun WW (hW : Below W1.heap.size W1 WW) => (⟨cell_of_row _ _ 0 _ _ _ ((hW.block _ (heap_lt hG1)).trans hG1), cell_of_row _ _ 1 _ _ _ ((hW.block _ (heap_lt hG1)).trans hG1), cell_of_row _ _ 2 _ _ _ ((hW.block _ (heap_lt hG1)).trans hG1)⟩ : WW.cell? ⟨N, 0, none⟩ = some (.string ⟨y.fr.toArray⟩) ∧ WW.cell? ⟨N, 1, none⟩ = some (.string ⟨y.lab.toArray⟩) ∧ WW.cell? ⟨N, 2, none⟩ = some (.string ⟨y.to.toArray⟩)))
      clear hnm hst hkn hle hvl hB1 hO1 hS1 hR1 hG1 hrel hi1 hi2 hx1 hx2 hm1 hm2 c0 c1 c2
      go_cut [8] from 18 to 30 (fun bx w' => ∃ q, bx = .pointer (some ⟨q, 0, none⟩) ∧ Hid (w'.heap[q]? = some (.cells #[.string ⟨y.lab.toArray⟩, .int .i64 (i1 : Int), .int .i64 (i2 : Int), .int .i64 (kn : Int)] 99 (0, 0)) ∧ Below W1.heap.size W1 w'))
      case first =>
        have B0 := Lib.hid ((Below.refl W1.heap.size W1).drew)
        refine wp_region_M (fun j => decide (j < 14)) (fun w' => w'.cell? ⟨N, 0, none⟩ = some (.string ⟨y.fr.toArray⟩) ∧ w'.cell? ⟨N, 1, none⟩ = some (.string ⟨y.lab.toArray⟩) ∧ w'.cell? ⟨N, 2, none⟩ = some (.string ⟨y.to.toArray⟩)) (by kernel_rfl) ?_
        refine wpAnyM_take (i := 0) (v := ?_) rfl (by kernel_rfl) (by kernel_rfl) (by kernel_rfl) (by kernel_rfl) (fun _ _ _ h => h) (Or.inl ⟨by rfl, ?_⟩) (HSP.out _ B0.out) ?_
        rotate_left
        · intro w hSw; (try dsimp only at hSw); go_simp; (try with_reducible rfl)
        simp only [Act.put, List.getElem_toArray, List.getElem_cons_zero, List.getElem_cons_succ, List.setIfInBounds_toArray, List.set_cons_zero, List.set_cons_succ]
        refine wpAnyM_take (i := 1) (v := ?_) rfl (by kernel_rfl) (by kernel_rfl) (by kernel_rfl) (by kernel_rfl) (fun _ _ _ h => h) (Or.inl ⟨by rfl, ?_⟩) (HSP.out _ B0.out) ?_
        rotate_left
        · intro w hSw; (try dsimp only at hSw); go_simp; (try with_reducible rfl)
        simp only [Act.put, List.getElem_toArray, List.getElem_cons_zero, List.getElem_cons_succ, List.setIfInBounds_toArray, List.set_cons_zero, List.set_cons_succ]
        refine wpAnyM_take (i := 3) (v := ?_) rfl (by kernel_rfl) (by kernel_rfl) (by kernel_rfl) (by kernel_rfl) (fun _ _ _ h => h) (Or.inl ⟨by rfl, ?_⟩) (HSP.out _ B0.out) ?_
        rotate_left
        · intro w hSw; (try dsimp only at hSw); go_simp; (try with_reducible rfl)
        simp only [Act.put, List.getElem_toArray, List.getElem_cons_zero, List.getElem_cons_succ, List.setIfInBounds_toArray, List.set_cons_zero, List.set_cons_succ]
        refine wpAnyM_take (i := 4) (v := ?_) rfl (by kernel_rfl) (by kernel_rfl) (by kernel_rfl) (by kernel_rfl) (fun _ _ _ h => h) (Or.inl ⟨by rfl, ?_⟩) (HSP.out _ B0.out) ?_
        rotate_left
        · intro w hSw; (try dsimp only at hSw); go_simp; (try with_reducible rfl)
        simp only [Act.put, List.getElem_toArray, List.getElem_cons_zero, List.getElem_cons_succ, List.setIfInBounds_toArray, List.set_cons_zero, List.set_cons_succ]
        refine wpAnyM_take (i := 5) (v := ?_) rfl (by kernel_rfl) (by kernel_rfl) (by kernel_rfl) (by kernel_rfl) (fun _ _ _ h => h) (Or.inl ⟨by rfl, ?_⟩) (HSP.out _ B0.out) ?_
        rotate_left
        · intro w hSw; (try dsimp only at hSw); go_simp; (try with_reducible rfl)
        simp only [Act.put, List.getElem_toArray, List.getElem_cons_zero, List.getElem_cons_succ, List.setIfInBounds_toArray, List.set_cons_zero, List.set_cons_succ]
        refine wpAnyM_take (i := 7) (v := ?_) rfl (by kernel_rfl) (by kernel_rfl) (by kernel_rfl) (by kernel_rfl) (fun _ _ _ h => h) (Or.inl ⟨by rfl, ?_⟩) (HSP.out _ B0.out) ?_
        rotate_left
        · intro w hSw; (try dsimp only at hSw); go_simp; (try with_reducible rfl)
        simp only [Act.put, List.getElem_toArray, List.getElem_cons_zero, List.getElem_cons_succ, List.setIfInBounds_toArray, List.set_cons_zero, List.set_cons_succ]
        refine wpAnyM_take (i := 8) (v := ?_) rfl (by kernel_rfl) (by kernel_rfl) (by kernel_rfl) (by kernel_rfl) (fun _ _ _ h => h) (Or.inl ⟨by rfl, ?_⟩) (HSP.out _ B0.out) ?_
        rotate_left
        · intro w hSw; (try dsimp only at hSw); go_simp; (try with_reducible rfl)
        simp only [Act.put, List.getElem_toArray, List.getElem_cons_zero, List.getElem_cons_succ, List.setIfInBounds_toArray, List.set_cons_zero, List.set_cons_succ]
        refine wpAnyM_take (i := 9) (v := ?_) rfl (by kernel_rfl) (by kernel_rfl) (by kernel_rfl) (by kernel_rfl) (fun _ _ _ h => h) (Or.inl ⟨by rfl, ?_⟩) (HSP.out _ B0.out) ?_
        rotate_left
        · intro w hSw; (try dsimp only at hSw); go_simp; (try with_reducible rfl)
        simp only [Act.put, List.getElem_toArray, List.getElem_cons_zero, List.getElem_cons_succ, List.setIfInBounds_toArray, List.set_cons_zero, List.set_cons_succ]
        refine wpAnyM_take (i := 11) (v := ?_) rfl (by kernel_rfl) (by kernel_rfl) (by kernel_rfl) (by kernel_rfl) (fun _ _ _ h => h) (Or.inl ⟨by rfl, ?_⟩) (HSP.out _ B0.out) ?_
        rotate_left
        · intro w hSw; (try dsimp only at hSw); go_simp; (try with_reducible rfl)
        simp only [Act.put, List.getElem_toArray, List.getElem_cons_zero, List.getElem_cons_succ, List.setIfInBounds_toArray, List.set_cons_zero, List.set_cons_succ]
        refine wpAnyM_two (i := 2) (j := 13) (by kernel_rfl) rfl rfl (fun K hK => ?_) (fun K hK => ?_)
        · skip
          go_simp
          go_wp2_with (go_at_call 78; (with_reducible refine (HC.out _).mono ?_); rintro e wA1 ⟨rfl, hb1⟩)
          have B1 := Lib.hid (B0.out.trans (lower' hb1 B0.out.size))
          clear hb1
          refine hK.out _ _ (fun _ => HSP.out _ B1.out) ?_
          clear hK K
          refine wpAnyM_two (i := 6) (j := 13) (by kernel_rfl) rfl rfl (fun K hK => ?_) (fun K hK => ?_)
          · skip
            go_simp
            go_wp2_with (go_at_call 64; (with_reducible refine (HI1.out _ B1.out).mono ?_); rintro e w3 ⟨rfl, rfl⟩)
            refine hK.out _ _ (fun _ => HSP.out _ B1.out) ?_
            clear hK K
            refine wpAnyM_two (i := 10) (j := 13) (by kernel_rfl) rfl rfl (fun K hK => ?_) (fun K hK => ?_)
            · skip
              go_simp
              go_wp2_with (go_at_call 64; (with_reducible refine (HI2.out _ B1.out).mono ?_); rintro e w5 ⟨rfl, rfl⟩)
              refine hK.out _ _ (fun _ => HSP.out _ B1.out) ?_
              clear hK K
              refine wpAnyM_take (i := 12) (v := ?_) rfl (by kernel_rfl) (by kernel_rfl) (by kernel_rfl) (by kernel_rfl) (fun _ _ _ h => h) (Or.inl ⟨by rfl, ?_⟩) (HSP.out _ B1.out) ?_
              rotate_left
              · intro w hSw; (try dsimp only at hSw); go_simp; (try with_reducible rfl)
              simp only [Act.put, List.getElem_toArray, List.getElem_cons_zero, List.getElem_cons_succ, List.setIfInBounds_toArray, List.set_cons_zero, List.set_cons_succ]
              refine wpAnyM_one (i := 13) (by kernel_rfl) rfl (fun K hK => ?_)
              go_simp
              have G7 := Lib.hid (show (World.alloc wA1 (.cells #[.string ⟨#[]⟩, .int .i64 0, .int .i64 0, .int .i64 0] 99)).heap[wA1.heap.size]? = some (.cells #[.string ⟨#[]⟩, .int .i64 0, .int .i64 0, .int .i64 0] 99) from heap_alloc_new _ _)
              have B7 := Lib.hid (B1.out.alloc B1.out.size (.cells #[.string ⟨#[]⟩, .int .i64 0, .int .i64 0, .int .i64 0] 99))
              have P7 := Lib.hid B1.out.size
              refine hK.out _ _ (fun _ => HSP.out _ B7.out) ?_
              clear hK K
              refine wpAnyM_one (i := 14) (by kernel_rfl) rfl (fun K hK => ?_)
              have z0 := cell_of_row _ _ 0 _ _ _ G7.out; have z1 := cell_of_row _ _ 1 _ _ _ G7.out; have z2 := cell_of_row _ _ 2 _ _ _ G7.out; have z3 := cell_of_row _ _ 3 _ _ _ G7.out
              have y0 := frozen_of_row _ _ 0 _ _ G7.out; have y1 := frozen_of_row _ _ 1 _ _ G7.out; have y2 := frozen_of_row _ _ 2 _ _ G7.out; have y3 := frozen_of_row _ _ 3 _ _ G7.out
              go_simp
              refine hK.out _ _ (fun h => absurd h (by decide)) ?_
              clear hK K
              refine wpAnyM_done (by kernel_rfl) ?_ _
              go_wp2_with (fail)
              go_meet
              case rel => exact ⟨_, rfl, Lib.hid ⟨heap_alloc_new _ _, B1.out.alloc B1.out.size _⟩⟩
            · skip
              go_simp
              have G6 := Lib.hid (show (World.alloc wA1 (.cells #[.string ⟨#[]⟩, .int .i64 0, .int .i64 0, .int .i64 0] 99)).heap[wA1.heap.size]? = some (.cells #[.string ⟨#[]⟩, .int .i64 0, .int .i64 0, .int .i64 0] 99) from heap_alloc_new _ _)
              have B6 := Lib.hid (B1.out.alloc B1.out.size (.cells #[.string ⟨#[]⟩, .int .i64 0, .int .i64 0, .int .i64 0] 99))
              have P6 := Lib.hid B1.out.size
              refine hK.out _ _ (fun _ => HSP.out _ B6.out) ?_
              clear hK K
              refine wpAnyM_one (i := 10) (by kernel_rfl) rfl (fun K hK => ?_)
              go_simp
              go_wp2_with (go_at_call 64; (with_reducible refine (HI2.out _ B6.out).mono ?_); rintro e w9 ⟨rfl, rfl⟩)
              refine hK.out _ _ (fun _ => HSP.out _ B6.out) ?_
              clear hK K
              refine wpAnyM_take (i := 12) (v := ?_) rfl (by kernel_rfl) (by kernel_rfl) (by kernel_rfl) (by kernel_rfl) (fun _ _ _ h => h) (Or.inl ⟨by rfl, ?_⟩) (HSP.out _ B6.out) ?_
              rotate_left
              · intro w hSw; (try dsimp only at hSw); go_simp; (try with_reducible rfl)
              simp only [Act.put, List.getElem_toArray, List.getElem_cons_zero, List.getElem_cons_succ, List.setIfInBounds_toArray, List.set_cons_zero, List.set_cons_succ]
              refine wpAnyM_one (i := 14) (by kernel_rfl) rfl (fun K hK => ?_)
              have z0 := cell_of_row _ _ 0 _ _ _ G6.out; have z1 := cell_of_row _ _ 1 _ _ _ G6.out; have z2 := cell_of_row _ _ 2 _ _ _ G6.out; have z3 := cell_of_row _ _ 3 _ _ _ G6.out
              have y0 := frozen_of_row _ _ 0 _ _ G6.out; have y1 := frozen_of_row _ _ 1 _ _ G6.out; have y2 := frozen_of_row _ _ 2 _ _ G6.out; have y3 := frozen_of_row _ _ 3 _ _ G6.out
              go_simp
              refine hK.out _ _ (fun h => absurd h (by decide)) ?_
              clear hK K
              refine wpAnyM_done (by kernel_rfl) ?_ _
              go_wp2_with (fail)
              go_meet
              case rel => exact ⟨_, rfl, Lib.hid ⟨heap_alloc_new _ _, B1.out.alloc B1.out.size _⟩⟩
          · skip
            go_simp
            have G4 := Lib.hid (show (World.alloc wA1 (.cells #[.string ⟨#[]⟩, .int .i64 0, .int .i64 0, .int .i64 0] 99)).heap[wA1.heap.size]? = some (.cells #[.string ⟨#[]⟩, .int .i64 0, .int .i64 0, .int .i64 0] 99) from heap_alloc_new _ _)
            have B4 := Lib.hid (B1.out.alloc B1.out.size (.cells #[.string ⟨#[]⟩, .int .i64 0, .int .i64 0, .int .i64 0] 99))
            have P4 := Lib.hid B1.out.size
            refine hK.out _ _ (fun _ => HSP.out _ B4.out) ?_
            clear hK K
            refine wpAnyM_one (i := 6) (by kernel_rfl) rfl (fun K hK => ?_)
            go_simp
            go_wp2_with (go_at_call 64; (with_reducible refine (HI1.out _ B4.out).mono ?_); rintro e w11 ⟨rfl, rfl⟩)
            refine hK.out _ _ (fun _ => HSP.out _ B4.out) ?_
            clear hK K
            refine wpAnyM_one (i := 10) (by kernel_rfl) rfl (fun K hK => ?_)
            go_simp
            go_wp2_with (go_at_call 64; (with_reducible refine (HI2.out _ B4.out).mono ?_); rintro e w12 ⟨rfl, rfl⟩)
            refine hK.out _ _ (fun _ => HSP.out _ B4.out) ?_
            clear hK K
            refine wpAnyM_take (i := 12) (v := ?_) rfl (by kernel_rfl) (by kernel_rfl) (by kernel_rfl) (by kernel_rfl) (fun _ _ _ h => h) (Or.inl ⟨by rfl, ?_⟩) (HSP.out _ B4.out) ?_
            rotate_left
            · intro w hSw; (try dsimp only at hSw); go_simp; (try with_reducible rfl)
            simp only [Act.put, List.getElem_toArray, List.getElem_cons_zero, List.getElem_cons_succ, List.setIfInBounds_toArray, List.set_cons_zero, List.set_cons_succ]
            refine wpAnyM_one (i := 14) (by kernel_rfl) rfl (fun K hK => ?_)
            have z0 := cell_of_row _ _ 0 _ _ _ G4.out; have z1 := cell_of_row _ _ 1 _ _ _ G4.out; have z2 := cell_of_row _ _ 2 _ _ _ G4.out; have z3 := cell_of_row _ _ 3 _ _ _ G4.out
            have y0 := frozen_of_row _ _ 0 _ _ G4.out; have y1 := frozen_of_row _ _ 1 _ _ G4.out; have y2 := frozen_of_row _ _ 2 _ _ G4.out; have y3 := frozen_of_row _ _ 3 _ _ G4.out
            go_simp
            refine hK.out _ _ (fun h => absurd h (by decide)) ?_
            clear hK K
            refine wpAnyM_done (by kernel_rfl) ?_ _
            go_wp2_with (fail)
            go_meet
            case rel => exact ⟨_, rfl, Lib.hid ⟨heap_alloc_new _ _, B1.out.alloc B1.out.size _⟩⟩
        · skip
          go_simp
          have G2 := Lib.hid (show (World.alloc W1.drew (.cells #[.string ⟨#[]⟩, .int .i64 0, .int .i64 0, .int .i64 0] 99)).heap[W1.heap.size]? = some (.cells #[.string ⟨#[]⟩, .int .i64 0, .int .i64 0, .int .i64 0] 99) from heap_alloc_new _ _)
          have B2 := Lib.hid (B0.out.alloc B0.out.size (.cells #[.string ⟨#[]⟩, .int .i64 0, .int .i64 0, .int .i64 0] 99))
          have P2 := Lib.hid B0.out.size
          refine hK.out _ _ (fun _ => HSP.out _ B2.out) ?_
          clear hK K
          refine wpAnyM_one (i := 2) (by kernel_rfl) rfl (fun K hK => ?_)
          go_simp
          go_wp2_with (go_at_call 78; (with_reducible refine (HC.out _).mono ?_); rintro e wA14 ⟨rfl, hb14⟩)
          have B14 := Lib.hid (B2.out.trans (lower' hb14 B2.out.size))
          have G14 := Lib.hid ((hb14.block _ (heap_lt G2.out)).trans G2.out)
          clear hb14
          refine hK.out _ _ (fun _ => HSP.out _ B14.out) ?_
          clear hK K
          refine wpAnyM_one (i := 6) (by kernel_rfl) rfl (fun K hK => ?_)
          go_simp
          go_wp2_with (go_at_call 64; (with_reducible refine (HI1.out _ B14.out).mono ?_); rintro e w15 ⟨rfl, rfl⟩)
          refine hK.out _ _ (fun _ => HSP.out _ B14.out) ?_
          clear hK K
          refine wpAnyM_one (i := 10) (by kernel_rfl) rfl (fun K hK => ?_)
          go_simp
          go_wp2_with (go_at_call 64; (with_reducible refine (HI2.out _ B14.out).mono ?_); rintro e w16 ⟨rfl, rfl⟩)
          refine hK.out _ _ (fun _ => HSP.out _ B14.out) ?_
          clear hK K
          refine wpAnyM_take (i := 12) (v := ?_) rfl (by kernel_rfl) (by kernel_rfl) (by kernel_rfl) (by kernel_rfl) (fun _ _ _ h => h) (Or.inl ⟨by rfl, ?_⟩) (HSP.out _ B14.out) ?_
          rotate_left
          · intro w hSw; (try dsimp only at hSw); go_simp; (try with_reducible rfl)
          simp only [Act.put, List.getElem_toArray, List.getElem_cons_zero, List.getElem_cons_succ, List.setIfInBounds_toArray, List.set_cons_zero, List.set_cons_succ]
          refine wpAnyM_one (i := 14) (by kernel_rfl) rfl (fun K hK => ?_)
          have z0 := cell_of_row _ _ 0 _ _ _ G14.out; have z1 := cell_of_row _ _ 1 _ _ _ G14.out; have z2 := cell_of_row _ _ 2 _ _ _ G14.out; have z3 := cell_of_row _ _ 3 _ _ _ G14.out
          have y0 := frozen_of_row _ _ 0 _ _ G14.out; have y1 := frozen_of_row _ _ 1 _ _ G14.out; have y2 := frozen_of_row _ _ 2 _ _ G14.out; have y3 := frozen_of_row _ _ 3 _ _ G14.out
          go_simp
          refine hK.out _ _ (fun h => absurd h (by decide)) ?_
          clear hK K
          refine wpAnyM_done (by kernel_rfl) ?_ _
          go_wp2_with (fail)
          go_meet
          case rel => exact ⟨_, rfl, Lib.hid (box4 B14.out ⟨G14.out, P2.out⟩)⟩
      case rest =>
        obtain ⟨q, rfl, hq⟩ := hcut
        have q0 := cell_of_row _ _ 0 _ _ _ hq.out.1; have q1 := cell_of_row _ _ 1 _ _ _ hq.out.1; have q2 := cell_of_row _ _ 2 _ _ _ hq.out.1; have q3 := cell_of_row _ _ 3 _ _ _ hq.out.1
        have hw1 : (i1 : Int) ≤ 100 := by have := HL.out.1; have := HM.out.2.2.2; omega
        have hw2 : (i2 : Int) ≤ 100 := by have := HL.out.2.1; have := HM.out.2.2.2; omega
        have hw3 : (kn : Int) ≤ 100 := by have := HM.out.2.2.1; have := HM.out.2.2.2; omega
        obtain ⟨s, hs⟩ : ∃ s, s = stepOf (varsL x.v.atoms) kn y := ⟨_, rfl⟩
        have hnx : (if (if (kn : Int) < (i1 : Int) + 1 then (i1 : Int) + 1 else (kn : Int)) < (i2 : Int) + 1 then (i2 : Int) + 1 else if (kn : Int) < (i1 : Int) + 1 then (i1 : Int) + 1 else (kn : Int)) = (s.next : Int) := by
          rw [hs]
          unfold stepOf Stp.next
          rw [← HL.out.2.2.1, ← HL.out.2.2.2]
          split <;> split <;> simp only <;> omega
        have hsC : stC s = [.string ⟨y.lab.toArray⟩, .int .i64 (i1 : Int), .int .i64 (i2 : Int), .int .i64 (kn : Int)] := by
          rw [hs, HL.out.2.2.1, HL.out.2.2.2]
          rfl
        have hown := World.ownsRow.alloc (own_below H1.out.2.1 hq.out.2 (Nat.le_refl _)) (.cells #[.string ⟨y.lab.toArray⟩, .int .i64 (i1 : Int), .int .i64 (i2 : Int), .int .i64 (kn : Int)] 99)
        have hbc := Below.trans H1.out.1 (lower' hq.out.2 H1.out.1.size)
        have hbd := hbc.alloc hbc.size (.cells #[.string ⟨y.lab.toArray⟩, .int .i64 (i1 : Int), .int .i64 (i2 : Int), .int .i64 (kn : Int)] 99)
        obtain ⟨i, hi, hz0, hz1, hz2⟩ := info_parts infoStep
        have hrd : Rd (wc.alloc (.cells #[.string ⟨y.lab.toArray⟩, .int .i64 (i1 : Int), .int .i64 (i2 : Int), .int .i64 (kn : Int)] 99)) (wc.heap.size + 1) (some ⟨wc.heap.size, 0, none⟩) (stsC [s]) := by
          have := Rd.new wc #[.string ⟨y.lab.toArray⟩, .int .i64 (i1 : Int), .int .i64 (i2 : Int), .int .i64 (kn : Int)] 99 (0, 0)
          unfold stsC
          rw [List.flatMap_cons, hsC]
          exact this
        have htl : ((stepsL x.v.atoms).take k).length ≤ 8 := by rw [List.length_take]; omega
        obtain ⟨v5, w5, hrun, g1', g2', _⟩ := run_appR (P := Try.prog) _ w.heap.size 96 96 99 i _ 4 40 Try.underlying96 hi hz0 hz1 hz2 rfl (by omega) u4 _ _ hown (wc.heap.size + 1) (some ⟨wc.heap.size, 0, none⟩) 1 1 (stsC [s]) (by rw [stsC_len]; rfl) hrd (stsC_one _) (by omega) (by omega) hbd.size
        have hb5 : Below w.heap.size w w5 := hbd.trans (grown_below' g2' (fun z hz => (World.ownsRow.lt hown z hz).1) hbd.size)
        have hvr := World.ownsRow.alloc (own_below H1.out.2.2 hq.out.2 (Nat.le_refl _)) (.cells #[.string ⟨y.lab.toArray⟩, .int .i64 (i1 : Int), .int .i64 (i2 : Int), .int .i64 (kn : Int)] 99)
        have hsx := rowFrS hvr (fr_grown g2') (own_apart hvr hown (by decide))
        have H5 := Lib.hid (And.intro g1' (And.intro hsx hb5))
        have HX := Lib.hid (And.intro hnx hs)
        clear hsC hown hbc hbd hi hz0 hz1 hz2 hrd g1' g2' hsx hb5 hs htl hvr
        go_upto_region 9 with (fail)
        try rw [hnx]
        clear hnx
        go_wp2_with (at_builtin; refine wpL_appK _ rfl (.tmp 39) (.tmp 41) 96 rfl rfl _ _ _ _ rfl rfl hrun ?_)
        go_roundw
        case rel =>
          refine ⟨k + 1, by omega, by go_num, by rw [HM.out.2.1, HX.out.2], Lib.hid ⟨?_, H5.out.2.1, H5.out.2.2⟩⟩
          have h5 := H5.out.1
          rw [← stsC_app, HX.out.2, ← HM.out.1] at h5
          rw [HM.out.1, List.length_append]
          rw [HM.out.1] at h5
          exact h5
        case measure => simp [intOf]; omega
    · have g0 : ¬ (k : Int) < (x.v.atoms.length : Int) := by omega
      have hl : (stepsL x.v.atoms).length ≤ k := by unfold stepsL; rw [stepsK_len]; omega
      have ht := List.take_of_length_le hl
      have ho := hrel.out.1
      rw [ht] at ho
      obtain ⟨A, c, e, hcap, _, hrd⟩ := own_shape ho
      rw [e]
      have HF := Lib.hid (And.intro hrd (And.intro hcap hrel.out.2.2))
      clear e hcap hrd ho hrel ht hl
      go_wp2_with (fail)
      go_ret
      exact ⟨A, c, rfl, HF.out⟩
end Go.Proofs.Ytgldcahhliokeaa
