/- query.Vars. -/
import Derived.Test.YtgldcahhliokeaaJoJ
import Derived.Test.YtgldcahhliokeaaJnC
namespace Go.Proofs.Ytgldcahhliokeaa
open Go.RowKit Go.Maps

theorem goodP_names {v : Vw} (h : goodP v = true) : v.kind = 1 ∧ v.atoms.length ≤ 8 ∧ v.out.length ≤ 6 ∧ (∀ a ∈ v.atoms, a.fr.length ≤ 16 ∧ a.lab.length ≤ 16 ∧ a.to.length ≤ 16) ∧ (∀ o ∈ v.out, o ∈ varsL v.atoms) ∧ 1 ≤ v.atoms.length := by
  unfold goodP patOk atsOk outsOk at h
  simp only [Bool.and_eq_true, decide_eq_true_eq, List.all_eq_true] at h
  obtain ⟨_, ⟨⟨h1, _⟩, ⟨⟨h2', h2⟩, h3⟩⟩, ⟨_, h4⟩, h5⟩ := h
  refine ⟨h1, h2, h4, fun a ha => ?_, ?_, h2'⟩
  · have h6 := h3 a ha
    unfold atOk at h6
    simp only [Bool.and_eq_true] at h6
    exact ⟨(isNm_len h6.1.1).2, (isNm_len h6.1.2).2, (isNm_len h6.2).2⟩
  · have hgo : ∀ (l pre : List Nm), outsGo v.atoms pre l = true → ∀ o ∈ l, o ∈ varsL v.atoms := by
      intro l
      induction l with
      | nil => intro pre _ o ho; cases ho
      | cons q r ih =>
        intro pre hq o ho
        unfold outsGo at hq
        simp only [Bool.and_eq_true] at hq
        rcases List.mem_cons.1 ho with rfl | ho
        · exact boundB_iff.1 hq.1.2
        · exact ih _ hq.2 o ho
    exact hgo _ _ h5
theorem varsL_take {ats : List Atm} {k : Nat} (h : k < ats.length) : varsL (ats.take (k + 1)) = vars1 (varsL (ats.take k)) ats[k] := by
  unfold varsL varsFrom
  rw [List.take_succ_eq_append_getElem h, List.foldl_append]
  rfl
theorem take_len_vars {ats : List Atm} {k : Nat} (h : k ≤ 8) : (varsL (ats.take k)).length ≤ 16 := by
  have h1 := varsL_len (ats.take k)
  rw [List.length_take] at h1
  omega
theorem own_lt' {w : World} {base size n : Nat} {e : TypeId} {v : Value} {xs : List Value} (h : w.ownsRow base e size v n xs) : ∀ s ∈ v.ownBlock.toList, s < w.heap.size := fun s hs => (World.ownsRow.lt h s (by simpa using hs)).2
theorem SeenS.ne {w : World} {b : Nat} {vs : List Nm} (h : SeenS w b vs) {q : Nat} {cs : Array Value} {t : TypeId} {fr : Nat × Nat} (hq : w.heap[q]? = some (.cells cs t fr)) : b ≠ q := by
  rintro rfl
  obtain ⟨g, ⟨D, ⟨es, clock, hb, _⟩, _⟩, _⟩ := h
  rw [hb] at hq
  cases hq
/-- What Vars answers. -/
def VaPost (w : World) (vs : List Nm) (e : Ending) (w' : World) : Prop := ∃ A c, e = .returned (.slice A vs.length c) ∧ w'.ownsRow w.heap.size 9 1 (.slice A vs.length c) vs.length (strs vs) ∧ Sts w' A c vs ∧ Below w.heap.size w w'
set_option maxRecDepth 100000 in
set_option maxHeartbeats 4000000 in
theorem vars_any (x : VW) (w : World) (h : x.Ok w) (hg : goodP x.v = true) : Calls Try.prog 63 #[.agg (vwA x)] w (VaPost w (varsL x.v.atoms)) := by
  obtain ⟨g1, g2, g3, g4, _⟩ := goodP_names hg
  have hb1 : Below w.heap.size w (w.alloc (.cells (vwA x) 25)) := (Below.refl _ _).alloc (Nat.le_refl _) _
  unfold vwA at hb1 ⊢
  rw [g1] at hb1 ⊢
  have HA := Lib.hid (And.intro h.ats g4)
  have HB := Lib.hid hb1
  clear h hg g4 g3 hb1
  have hmm := @run_makeMap Try.prog
  go_enter Try.func63, Try.ntmps63
  go_wp2_with (fail)
  clear hmm
  have hst : Hid (VarsAt w ((w.alloc (.cells #[.string ⟨x.v.name.toArray⟩, .int .i64 1, .slice x.oA x.v.out.length x.oc, .slice x.aA x.v.atoms.length x.ac, .string ⟨x.v.label.toArray⟩] 25)).alloc (.map #[] 0)) (w.heap.size + 1) (.slice none 0 0) (varsL (x.v.atoms.take 0))) := Lib.hid ⟨World.ownsRow_nil _ _ _ _, by
      have := SeenS.made (w.alloc (.cells #[.string ⟨x.v.name.toArray⟩, .int .i64 1, .slice x.oA x.v.out.length x.oc, .slice x.aA x.v.atoms.length x.ac, .string ⟨x.v.label.toArray⟩] 25))
      rw [alloc1_size] at this
      exact this, by omega, HB.out.alloc HB.out.size _, by simp [varsL, varsFrom]⟩
  go_loopw [3, 18] (fun out i wr => ∃ k : Nat, k ≤ x.v.atoms.length ∧ i = .int .i64 (k : Int) ∧ Hid (VarsAt w wr (w.heap.size + 1) out (varsL (x.v.atoms.take k)))) (fun _ i _ => x.v.atoms.length - (intOf i).toNat)
  case atStart => exact ⟨0, by omega, rfl, hst⟩
  case round =>
    obtain ⟨k, hk, rfl, hrel⟩ := hrel
    by_cases hlt : k < x.v.atoms.length
    · obtain ⟨b, o, hA, _, c0, c1, c2⟩ := (HA.out.1.below hrel.out.below).cell hlt
      have hlI : (k : Int) < (x.v.atoms.length : Int) := by omega
      have hnm := HA.out.2 _ (List.getElem_mem hlt)
      have hvt := varsL_take hlt
      have hvl := take_len_vars (ats := x.v.atoms) (k := k) (by omega)
      rw [hA]
      generalize hx : x.v.atoms[k] = y at c0 c1 c2 hnm hvt
      obtain ⟨vs, hvs⟩ : ∃ vs, vs = varsL (x.v.atoms.take k) := ⟨_, rfl⟩
      rw [← hvs] at hrel hvt hvl
      have HV := Lib.hid (And.intro hvt (And.intro hvl hnm))
      clear hvt hvl hnm hx hvs
      have HR := Lib.hid ((hrel.out.alloc (.cells #[.string ⟨y.fr.toArray⟩, .string ⟨y.lab.toArray⟩, .string ⟨y.to.toArray⟩] 69)).alloc (.cells #[.string ⟨y.fr.toArray⟩, .string ⟨y.to.toArray⟩] 9))
      have HR0 := Lib.hid hrel.out
      clear hrel
      have hW1 := two_new wr (.cells #[.string ⟨y.fr.toArray⟩, .string ⟨y.lab.toArray⟩, .string ⟨y.to.toArray⟩] 69) (.cells #[.string ⟨y.fr.toArray⟩, .string ⟨y.to.toArray⟩] 9)
      have hsz1 := alloc1_size wr (.cells #[.string ⟨y.fr.toArray⟩, .string ⟨y.lab.toArray⟩, .string ⟨y.to.toArray⟩] 69)
      go_wp2_with (fail)
      generalize ((wr.alloc (.cells #[.string ⟨y.fr.toArray⟩, .string ⟨y.lab.toArray⟩, .string ⟨y.to.toArray⟩] 69)).alloc (.cells #[.string ⟨y.fr.toArray⟩, .string ⟨y.to.toArray⟩] 9)) = W1 at HR hW1 ⊢
      try rw [hsz1]
      have HW := Lib.hid hW1.2
      clear hW1 hsz1 c0 c1 c2
      have HNO := Lib.hid (fun hm => by have := own_lt' HR0.out.row _ hm; omega : wr.heap.size + 1 ∉ u3.ownBlock.toList)
      clear HR0
      generalize wr.heap.size = N at HW HNO ⊢
      go_loopw [3, 28] (fun out j wq => ∃ (m : Nat) (us : List Nm), m ≤ 2 ∧ j = .int .i64 (m : Int) ∧ Hid (VarsAt w wq (w.heap.size + 1) out us ∧ (wq.heap[N + 1]? = some (.cells #[.string ⟨y.fr.toArray⟩, .string ⟨y.to.toArray⟩] 9 (0, 0)) ∧ N + 1 ∉ out.ownBlock.toList) ∧ us = ([y.fr, y.to].take m).foldl addV vs)) (fun _ j _ => 2 - (intOf j).toNat)
      case atStart => exact ⟨0, vs, by omega, rfl, Lib.hid ⟨HR.out, ⟨HW.out, HNO.out⟩, rfl⟩⟩
      case round =>
        obtain ⟨m, us, hm, rfl, hq⟩ := hrel
        by_cases hm2 : m < 2
        · obtain ⟨s, hs⟩ : ∃ s, s = [y.fr, y.to][m]'(by simpa using hm2) := ⟨_, rfl⟩
          have hsl : s.length ≤ 16 := by
            rw [hs]
            rcases (show m = 0 ∨ m = 1 by omega) with h | h <;> subst h
            · exact HV.out.2.2.1
            · exact HV.out.2.2.2.2
          have hnx : ([y.fr, y.to].take (m + 1)).foldl addV vs = addV us s := by
            rw [List.take_succ_eq_append_getElem (by simpa using hm2), List.foldl_append, hq.out.2.2, hs]
            rfl
          have hul : us.length ≤ 18 := by
            have h1 := HV.out.2.1
            have h2 := addV_len vs y.fr
            rw [hq.out.2.2]
            rcases (show m = 0 ∨ m = 1 by omega) with h | h <;> subst h
            · show vs.length ≤ 18; omega
            · show (addV vs y.fr).length ≤ 18; omega
          have hcell : wr.cell? ⟨N + 1, m, none⟩ = some (.string ⟨s.toArray⟩) := by
            rw [cell_of_row wr (N + 1) m _ _ _ hq.out.2.1.1, hs]
            rcases (show m = 0 ∨ m = 1 by omega) with h | h <;> subst h <;> rfl
          have hlook := hq.out.1.seen.look (s := s) (by simp only [maxLen]; omega)
          have hmI : (m : Int) < 2 := by omega
          have HS := Lib.hid (And.intro hsl (And.intro hnx hul))
          clear hs hsl hnx hul
          cases hd : decide (s ∈ us) with
          | true =>
            rw [hd] at hlook
            have hadd : addV us s = us := by unfold addV; rw [if_pos (of_decide_eq_true hd)]
            have HN := Lib.hid hadd
            clear hd hadd
            go_wp2_with (fail)
            go_roundw
            case rel => exact ⟨m + 1, us, by omega, by go_num, Lib.hid ⟨hq.out.1.alloc _, ⟨(Below.heap_alloc _ _ _ (heap_lt hq.out.2.1.1)).trans hq.out.2.1.1, hq.out.2.1.2⟩, by rw [HS.out.2.1, HN.out]⟩⟩
            case measure => simp [intOf]; omega
          | false =>
            rw [hd] at hlook
            have hadd : addV us s = us ++ [s] := by unfold addV; rw [if_neg (of_decide_eq_false hd)]
            obtain ⟨w2, hput, hb2, happ⟩ := (hq.out.1.alloc (.cells #[] 113)).put (s := s) (by have := HS.out.1; simp only [maxLen]; omega)
            have HN := Lib.hid (And.intro hadd (And.intro hb2 happ))
            have HC := Lib.hid (clone_any s w2 (by have := HS.out.1; omega))
            clear hd hadd hb2 happ
            go_wp2_with (first
              | (go_at_call 78; (with_reducible refine HC.out.mono ?_); rintro e w3 ⟨rfl, hb3⟩; obtain ⟨v5, w5, hrun5, hv5, hk5⟩ := HN.out.2.2 w3 hb3; have H5 := Lib.hid (And.intro (hv5 (by have := HS.out.2.2; omega)) (hk5 (N + 1) (by have := heap_lt hq.out.2.1.1; simp; omega) (fun e => hq.out.1.seen.ne hq.out.2.1.1 e.symm) hq.out.2.1.2)); clear hv5 hk5 hb3)
              | (at_builtin; refine wpL_appK _ rfl (.tmp 43) (.tmp 46) 22 rfl rfl _ _ _ _ rfl rfl hrun5 ?_))
            go_roundw
            case rel => exact ⟨m + 1, us ++ [s], by omega, by go_num, Lib.hid ⟨H5.out.1, ⟨H5.out.2.1.trans ((Below.heap_alloc _ _ _ (heap_lt hq.out.2.1.1)).trans hq.out.2.1.1), H5.out.2.2⟩, by rw [HS.out.2.1, HN.out.1]⟩⟩
            case measure => simp [intOf]; omega
        · have hm' : m = 2 := by omega
          have hmI : ¬ (m : Int) < 2 := by omega
          have hv2 : us = vars1 vs y := by rw [hq.out.2.2, hm']; rfl
          have HF := Lib.hid (And.intro hq.out.1 hv2)
          clear hq hv2 hm'
          go_wp2_with (fail)
          go_roundw
          case rel => exact ⟨k + 1, by omega, by go_num, Lib.hid (by rw [HV.out.1, ← HF.out.2]; exact HF.out.1)⟩
          case measure => simp [intOf]; omega
    · have g0 : ¬ (k : Int) < (x.v.atoms.length : Int) := by omega
      obtain ⟨A, c, e, hcap, _, hrd⟩ := own_shape hrel.out.row
      have hk' : x.v.atoms.take k = x.v.atoms := List.take_of_length_le (by omega)
      rw [hk'] at e hcap hrd
      have hst := hrel.out
      rw [hk', e] at hst
      rw [e]
      have HF := Lib.hid (And.intro hst (And.intro hcap hrd))
      clear e hcap hrd hst hrel hk'
      go_wp2_with (fail)
      go_ret
      exact ⟨A, c, rfl, HF.out.1.row, ⟨HF.out.2.2, HF.out.2.1, by have := varsL_len x.v.atoms; omega⟩, HF.out.1.below⟩
end Go.Proofs.Ytgldcahhliokeaa
