/- The law's awake (layer 13). -/
import Derived.Test.YtgjjdmkoamjdpaaSpLJ
import Derived.Test.YtgjjdmkoamjdpaaSpF2
import Derived.Test.YtgjjdmkoamjdpaaSpFA
import Derived.Test.YtgjjdmkoamjdpaaJoAA
namespace Go.Proofs.Ytgjjdmkoamjdpaa
open Go.RowKit Go.Maps Go.Sort

theorem es_lit {W : World} {b : Nat} {l : List Ed} (h : W.heap[b]? = some (.cells (edsC l).toArray 34 (0, 0))) (hs : l.length ≤ 1000) : Es W (some ⟨b, 0, none⟩) l.length l := ⟨rd_lit h, Nat.le_refl _, hs⟩
def awEd : List Ed := [⟨1, [97], 2⟩, ⟨2, [97], 3⟩, ⟨3, [97], 2⟩]
theorem awEd_prs : prsL [97] awEd = awE := by decide +kernel
theorem nm97 : isNm [97] = true := by decide +kernel
theorem aw_pairs : pairsC [97] awE = 0 ∧ pairsR [97] awE = spanL awE := pairsC_few nm97 (by decide)
theorem aw_nogo {E : List Pr} {a b : Int} {r : List Int} (h : FirstWay (InE E) a r b) : Lead (InE E) a b := h.lead
set_option maxRecDepth 100000 in
set_option maxHeartbeats 4000000 in
theorem awake13_any (w : World) : Calls Try.prog 4 #[] w fun e w' => e = .returned (.bool true) ∧ Below w.heap.size w w' := by
  have hb1 : Below w.heap.size w (w.alloc (.cells #[.int .i64 1, .string ⟨#[97]⟩, .int .i64 2, .int .i64 2, .string ⟨#[97]⟩, .int .i64 3, .int .i64 3, .string ⟨#[97]⟩, .int .i64 2] 34)) := (Below.refl _ _).alloc (Nat.le_refl _) _
  have hes : Es (w.alloc (.cells #[.int .i64 1, .string ⟨#[97]⟩, .int .i64 2, .int .i64 2, .string ⟨#[97]⟩, .int .i64 3, .int .i64 3, .string ⟨#[97]⟩, .int .i64 2] 34)) (some ⟨w.heap.size, 0, none⟩) 3 awEd := es_lit (l := awEd) (heap_alloc_new w _) (by decide)
  have HP := Lib.hid fun W (hW : Below w.heap.size w W ∧ Es W (some ⟨w.heap.size, 0, none⟩) 3 awEd) => (show Calls Try.prog 8 #[.string ⟨#[97]⟩, .slice (some ⟨w.heap.size, 0, none⟩) 3 3] W _ from (Pairs_any [97] _ _ awEd W hW.2).mono (fun e w' h => (by
    obtain ⟨x, h1, _, _, h4, h5, _⟩ := h
    rw [awEd_prs, aw_pairs.1] at h1
    rw [awEd_prs, aw_pairs.2] at h4
    have hl : x.ts.length = 6 := by rw [← tus_len, h4]; exact aw_len
    rw [hl] at h1
    exact ⟨x.A, x.c, h1, hW.1.trans (lower' h5 hW.1.size), hW.2.below h5⟩ : ∃ (A : Option Addr) (c : Nat), e = .returned (.tuple #[.slice A 6 c, .int .i64 0]) ∧ Below w.heap.size w w' ∧ Es w' (some ⟨w.heap.size, 0, none⟩) 3 awEd)))
  have HWY := Lib.hid fun W (hW : Below w.heap.size w W ∧ Es W (some ⟨w.heap.size, 0, none⟩) 3 awEd) => (show Calls Try.prog 5 #[.string ⟨#[97]⟩, .slice (some ⟨w.heap.size, 0, none⟩) 3 3, .int .i64 2, .int .i64 2] W _ from (Way_any [97] _ _ awEd 2 2 W hW.2).mono (fun e w' h => (by
    unfold WyPost at h
    rw [awEd_prs] at h
    rcases h with ⟨h1, _⟩ | ⟨_, h2, _⟩ | ⟨_, u, r, h3, h4, _, h6, h7, h8⟩
    · rw [nm97] at h1; cases h1
    · exact absurd aw_lead h2
    · have hr := aw_way h6
      subst hr
      have hl : u.l.length = 3 := by rw [h4]; rfl
      rw [hl] at h3
      exact ⟨u, h3, h4, h7.ok (by rw [hl]; omega), hW.1.trans (lower' h8 hW.1.size), hW.2.below h8⟩ : ∃ u : TV, e = .returned (.tuple #[.slice u.A 3 u.c, .int .i64 0]) ∧ u.l = [2, 3, 2] ∧ u.Ok w' ∧ Below w.heap.size w w' ∧ Es w' (some ⟨w.heap.size, 0, none⟩) 3 awEd)))
  have HRG := Lib.hid fun W (hW : Below w.heap.size w W ∧ Es W (some ⟨w.heap.size, 0, none⟩) 3 awEd) => (show Calls Try.prog 9 #[.string ⟨#[97]⟩, .slice (some ⟨w.heap.size, 0, none⟩) 3 3] W _ from (Rings_any [97] _ _ awEd W hW.2).mono (fun e w' h => (by
    unfold RgPost at h
    rw [awEd_prs] at h
    rcases h with ⟨h1, _⟩ | ⟨_, y, h3, h4, h5, h6⟩
    · rw [nm97] at h1; cases h1
    · have hy := h5 _ aw_clos
      rw [aw_rings aw_clos] at hy
      have hl : y.ts.length = 1 := by rw [← tus_len, hy]; rfl
      rw [hl] at h3
      obtain ⟨b, o, hA, hb, hc⟩ := Lst.cell h4 (k := 0) (by omega)
      have ht : (y.ts[0]'(by omega)).l = [2, 3] := by
        have h9 := tus_at y.ts 0 (by omega)
        rw [← h9]
        simp only [hy]
        rfl
      refine ⟨b, o, y.ts[0]'(by omega), y.c, by rw [← hA]; exact h3, ?_, h4.at (by omega), ht, hb, hW.1.trans (lower' h6 hW.1.size), h6⟩
      rw [ht] at hc
      exact hc : ∃ (b o : Nat) (t : TV) (c : Nat), e = .returned (.tuple #[.slice (some ⟨b, o, none⟩) 1 c, .int .i64 0]) ∧ w'.cell? ⟨b, o, none⟩ = some (.slice t.A 2 t.c) ∧ t.Ok w' ∧ t.l = [2, 3] ∧ b < w'.heap.size ∧ Below w.heap.size w w' ∧ Below W.heap.size W w')))
  have H1 := Lib.hid (And.intro hb1 hes)
  clear hb1 hes
  go_enter Try.func4, Try.ntmps4
  go_upto_region 5 with (first
    | (go_at_call 8; (with_reducible refine (HP.out _ H1.out).mono ?_); rintro e w2 ⟨pA, pc, rfl, b2⟩; have H2 := Lib.hid b2; clear b2)
    | (go_at_call 5; (with_reducible refine (HWY.out _ H2.out).mono ?_); rintro e w3 ⟨u, rfl, u1, u2, b3⟩; have H3 := Lib.hid b3; have HU := Lib.hid (And.intro u1 u2); clear b3 u1 u2)
    | (go_at_call 9; (with_reducible refine (HRG.out _ H3.out).mono ?_); rintro e w4 ⟨rb, ro, t, rc, rfl, y1, y2, y3, y4, b4, c4⟩; have H4 := Lib.hid (And.intro y2 (And.intro y3 (And.intro y4 (And.intro b4 (And.intro y1 c4))))); clear y2 y3 y4 b4 y1 c4))
  have hbA : Below w4.heap.size w4 (w4.alloc (.cells #[.int .i64 2, .int .i64 3, .int .i64 2] 3)) := (Below.refl _ _).alloc (Nat.le_refl _) _
  have hul : u.l.length = 3 := by rw [HU.out.1]; rfl
  have hi1 := ints_any u ⟨some ⟨w4.heap.size, 0, none⟩, [2, 3, 2], 3⟩ _ ((HU.out.2.below H4.out.2.2.2.2.2).below hbA) (tv_lit (l := [2, 3, 2]) (heap_alloc_new _ _) (by decide))
  rw [HU.out.1, decide_eq_true rfl] at hi1
  have HI1 := Lib.hid (show Calls Try.prog 7 #[.slice u.A 3 u.c, .slice (some ⟨w4.heap.size, 0, none⟩) 3 3] (w4.alloc (.cells #[.int .i64 2, .int .i64 3, .int .i64 2] 3)) fun e w' => e = .returned (.bool true) ∧ Below w4.heap.size w4 w' from hi1.mono fun e w' h => ⟨h.1, hbA.trans (lower' h.2 hbA.size)⟩)
  have HI2 := Lib.hid fun W (hW : Below w4.heap.size w4 W) => (show Calls Try.prog 7 #[.slice t.A 2 t.c, .slice (some ⟨W.heap.size, 0, none⟩) 2 2] (W.alloc (.cells #[.int .i64 2, .int .i64 3] 3)) fun e w' => e = .returned (.bool true) ∧ Below w4.heap.size w4 w' from by
    have hbB : Below W.heap.size W (W.alloc (.cells #[.int .i64 2, .int .i64 3] 3)) := (Below.refl _ _).alloc (Nat.le_refl _) _
    have hi2 := ints_any t ⟨some ⟨W.heap.size, 0, none⟩, [2, 3], 2⟩ _ ((H4.out.1.below hW).below hbB) (tv_lit (l := [2, 3]) (heap_alloc_new _ _) (by decide))
    rw [H4.out.2.1, decide_eq_true rfl] at hi2
    exact hi2.mono fun e w' h => ⟨h.1, hW.trans (lower' (hbB.trans (lower' h.2 hbB.size)) hW.size)⟩)
  have HC := Lib.hid fun W (hW : Below w4.heap.size w4 W) => (hW.cell (p := ⟨rb, ro, none⟩) H4.out.2.2.1).trans H4.out.2.2.2.2.1
  have HB4 := Lib.hid H4.out.2.2.2.1
  clear hbA hul hi1 HP HWY HRG H1 H2 H3 H4 HU
  go_wp2_with (first
    | (go_at_call 7; (with_reducible refine HI1.out.mono ?_); rintro e w6 ⟨rfl, b6⟩; have k6 := HC.out _ b6; have B6 := Lib.hid b6; clear b6 HI1)
    | (go_at_call 7; (with_reducible refine (HI2.out _ B6.out).mono ?_); rintro e w8 ⟨rfl, b8⟩; have B8 := Lib.hid b8; clear b8 k6))
  go_ret
  exact ⟨rfl, HB4.out.trans (lower' B8.out HB4.out.size)⟩
end Go.Proofs.Ytgjjdmkoamjdpaa
