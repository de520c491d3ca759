/- Joined: SpF2 SpFA JoAA SpK. -/
import Derived.Test.YtmldiojlglpoiaaSpV
import Derived.Test.YtmldiojlglpoiaaJnG
import Derived.Test.YtmldiojlglpoiaaJnC
import Derived.Test.YtmldiojlglpoiaaSpLJ
/- What Pairs comes to of few edges, plainly. -/
namespace Go.Proofs.Ytmldiojlglpoiaa

theorem pairsC_few {lab : Nm} {E : List Pr} (hn : isNm lab = true) (h : E.length ≤ 40) : pairsC lab E = 0 ∧ pairsR lab E = spanL E := by
  have h1 := spanL_few E
  have h2 : E.length * E.length ≤ 40 * 40 := Nat.mul_le_mul h h
  unfold pairsC pairsR
  rw [if_neg (by rw [hn]; decide), if_neg (by omega), if_neg (by rw [hn]; decide), if_neg (by omega)]
  exact ⟨rfl, rfl⟩
theorem pairsC_no {lab : Nm} {E : List Pr} (hn : isNm lab = false) : pairsC lab E = 1 ∧ pairsR lab E = [] := by
  unfold pairsC pairsR
  rw [if_pos hn, if_pos hn]
  exact ⟨rfl, rfl⟩
end Go.Proofs.Ytmldiojlglpoiaa
/- What the laws' fixed examples come to, plainly: awake; a row and edges that don't meet. -/
namespace Go.Proofs.Ytmldiojlglpoiaa

def awE : List Pr := [(1, 2), (2, 3), (3, 2)]
def awS : List Pr := [(1, 2), (2, 3), (3, 2), (1, 3), (2, 2), (3, 3)]
theorem aw_clos : ClosOk awE awS := by
  have e1 : InE awE 1 2 := by unfold InE; decide
  have e2 : InE awE 2 3 := by unfold InE; decide
  have e3 : InE awE 3 2 := by unfold InE; decide
  refine clos_of (by decide) (fun a b h => ?_) (by decide) (by decide)
  simp only [awS, List.mem_cons, List.not_mem_nil, or_false, Prod.mk.injEq] at h
  rcases h with ⟨rfl, rfl⟩ | ⟨rfl, rfl⟩ | ⟨rfl, rfl⟩ | ⟨rfl, rfl⟩ | ⟨rfl, rfl⟩ | ⟨rfl, rfl⟩
  · exact .one e1
  · exact .one e2
  · exact .one e3
  · exact .cons e1 (.one e2)
  · exact .cons e2 (.one e3)
  · exact .cons e3 (.one e2)
theorem aw_len : (spanL awE).length = 6 := (spanL_clos aw_clos).2
theorem aw_rings {S : List Pr} (h : ClosOk awE S) : ringsR S = [[2, 3]] := by
  rw [ringsR_clos h aw_clos]
  decide +kernel
theorem aw_in {a b : Int} (h : InE awE a b) : (a = 1 ∧ b = 2) ∨ (a = 2 ∧ b = 3) ∨ (a = 3 ∧ b = 2) := by
  unfold InE at h
  simpa only [awE, List.mem_cons, List.not_mem_nil, or_false, Prod.mk.injEq] using h
theorem aw_way {r : List Int} (h : FirstWay (InE awE) 2 r 2) : r = [3, 2] := by
  have e2 : InE awE 2 3 := by unfold InE; decide
  have e3 : InE awE 3 2 := by unfold InE; decide
  have hl := h.least [3, 2] (by simp) ⟨e2, e3, rfl⟩
  have hw := h.way
  match r, h.ne, hw with
  | [x], _, ⟨h1, h2⟩ =>
    have hx : x = 2 := h2
    subst hx
    have := aw_in h1
    omega
  | [x, y], _, ⟨h1, h2, h3⟩ =>
    have hy : y = 2 := h3
    subst hy
    have := aw_in h1
    obtain rfl : x = 3 := by omega
    rfl
  | x :: y :: z :: r, _, _ =>
    simp at hl
    omega
theorem aw_lead : Lead (InE awE) 2 2 := (aw_clos.mem 2 2).1 (by decide)
/-- Edges that don't meet, and a row. -/
def apE (g : Nat → Int) (m : Nat) : List Pr := (List.range m).map fun i => (g i, g i + 1)
theorem great_lead {f g : Nat → Int} {k m : Nat} {E F : List Pr} (h : IsRow13 f k F) (hE : ∀ p, p ∈ E ↔ p ∈ F ∨ p ∈ apE g m) (hg : ∀ i j, i < j → g i + 1 < g j) (hfg : ∀ i j, i ≤ k → f i < g j) {a b : Int} :
    Lead (InE E) a b ↔ (a, b) ∈ rowS f k ∨ (a, b) ∈ apE g m := by
  have hmF : ∀ i, i < k → (f i, f (i + 1)) ∈ F := fun i hi => (h.mem _).2 ⟨i, hi, rfl⟩
  have hgi : ∀ i j, g i = g j → i = j := fun i j e => by
    rcases Nat.lt_trichotomy i j with h1 | h1 | h1
    · have := hg i j h1; omega
    · exact h1
    · have := hg j i h1; omega
  have hgn : ∀ i j, g i + 1 ≠ g j := fun i j e => by
    rcases Nat.lt_trichotomy i j with h1 | h1 | h1
    · have := hg i j h1; omega
    · subst h1; omega
    · have := hg j i h1; omega
  have hap : ∀ {x y : Int}, (x, y) ∈ apE g m → ∃ i, i < m ∧ x = g i ∧ y = g i + 1 := fun {x y} hm => by
    obtain ⟨i, hi, e⟩ := List.mem_map.1 hm
    injection e with e1 e2
    exact ⟨i, List.mem_range.1 hi, e1.symm, e2.symm⟩
  constructor
  · intro hl
    induction hl with
    | one h1 =>
      rcases (hE _).1 h1 with h1 | h1
      · exact .inl ((h.clos.mem _ _).2 (.one h1))
      · exact .inr h1
    | cons h1 hl ih =>
      rename_i a c b
      rcases (hE _).1 h1 with h1 | h1
      · rcases ih with ih | ih
        · exact .inl ((h.clos.mem _ _).2 (.cons h1 ((h.clos.mem _ _).1 ih)))
        · obtain ⟨i, _, e1, _⟩ := hap ih
          obtain ⟨j, hj, e⟩ := (h.mem _).1 h1
          injection e with _ e2
          have := hfg (j + 1) i (by omega)
          omega
      · obtain ⟨i, _, e1, e2⟩ := hap h1
        rcases ih with ih | ih
        · obtain ⟨i', j', h1', h2', e⟩ := mem_rowS.1 ih
          injection e with e3 _
          have := hfg i' i (by omega)
          omega
        · obtain ⟨j, _, e3, _⟩ := hap ih
          exact absurd (by omega) (hgn i j)
  · rintro (hm | hm)
    · exact ((h.clos.mem _ _).1 hm).mono fun x y hxy => (hE _).2 (.inl hxy)
    · exact .one ((hE _).2 (.inr hm))
theorem great_clos {f g : Nat → Int} {k m : Nat} {E F : List Pr} (h : IsRow13 f k F) (hE : ∀ p, p ∈ E ↔ p ∈ F ∨ p ∈ apE g m) (hg : ∀ i j, i < j → g i + 1 < g j) (hfg : ∀ i j, i ≤ k → f i < g j) : ClosOk E (rowS f k ++ apE g m) := by
  refine ⟨?_, fun a b => by rw [List.mem_append]; exact (great_lead h hE hg hfg).symm⟩
  rw [List.nodup_append]
  refine ⟨rowS_nodup h.rise k, ?_, fun a ha b hb e => ?_⟩
  · unfold apE
    rw [List.Nodup, List.pairwise_map]
    refine List.nodup_range.imp fun {a b} hne e => ?_
    injection e with e1 _
    rcases Nat.lt_trichotomy a b with h1 | h1 | h1
    · have := hg a b h1; omega
    · exact hne h1
    · have := hg b a h1; omega
  · subst e
    obtain ⟨i', j', h1', h2', e⟩ := mem_rowS.1 ha
    obtain ⟨i, _, e2⟩ := List.mem_map.1 hb
    rw [e] at e2
    injection e2 with e3 _
    have := hfg i' i (by omega)
    omega
end Go.Proofs.Ytmldiojlglpoiaa
/- The document's Ints. -/
namespace Go.Proofs.Ytmldiojlglpoiaa
open Go.RowKit Go.Maps

set_option maxRecDepth 100000 in
set_option maxHeartbeats 2000000 in
theorem ints_any (x y : TV) (w : World) (hx : x.Ok w) (hy : y.Ok w) :
    Calls Try.prog 22 #[.slice x.A x.l.length x.c, .slice y.A y.l.length y.c] w fun e w' => e = .returned (.bool (decide (x.l = y.l))) ∧ Below w.heap.size w w' := by
  obtain ⟨R, hR⟩ : ∃ R, R = decide (x.l = y.l) := ⟨_, rfl⟩
  rw [← hR]
  have hxs := hx.sm
  by_cases hlen : x.l.length = y.l.length
  · have HH := Lib.hid (And.intro hx (And.intro hy (And.intro hR hlen)))
    rw [← hlen]
    clear hx hy hR hlen
    go_enter Try.func22, Try.ntmps22
    go_wp2_with (fail)
    go_loopw [13] (fun i wr => ∃ k : Nat, k ≤ x.l.length ∧ i = .int .i64 (k : Int) ∧ Hid (x.l.take k = y.l.take k ∧ Below w.heap.size w wr)) (fun i _ => x.l.length - (intOf i).toNat)
    case atStart => exact ⟨0, by omega, rfl, Lib.hid ⟨rfl, Below.refl _ _⟩⟩
    case round =>
      obtain ⟨k, hk, rfl, hrel⟩ := hrel
      by_cases hkl : k < x.l.length
      · have hkI : (k : Int) < (x.l.length : Int) := by omega
        have hky : k < y.l.length := by rw [← HH.out.2.2.2]; exact hkl
        obtain ⟨p1, o1, hA1, _, c1⟩ := (HH.out.1.below hrel.out.2).cell hkl
        obtain ⟨p2, o2, hA2, _, c2⟩ := (HH.out.2.1.below hrel.out.2).cell hky
        have ht1 : x.l.take (k + 1) = x.l.take k ++ [x.l[k]] := List.take_succ_eq_append_getElem hkl
        have ht2 : y.l.take (k + 1) = y.l.take k ++ [y.l[k]] := List.take_succ_eq_append_getElem hky
        have hne : x.l[k] ≠ y.l[k] → x.l ≠ y.l := fun h1 h2 => h1 (by simp only [h2])
        rw [hA1, hA2]
        generalize x.l[k] = a at c1 ht1 hne
        generalize y.l[k] = b at c2 ht2 hne
        have B := Lib.hid hrel.out.2
        have E := Lib.hid hrel.out.1
        clear hA1 hA2 hky hrel
        by_cases hab : a = b
        · subst hab
          have T := Lib.hid (show x.l.take (k + 1) = y.l.take (k + 1) from by rw [ht1, ht2, E.out])
          clear ht1 ht2 hne
          go_upto_region 6 with (fail)
          go_quiet (fail)
          go_wp2_with (fail)
          go_roundw
          case rel => exact ⟨k + 1, by omega, by go_num, Lib.hid ⟨T.out, Below.drewN' B.out _⟩⟩
          case measure => simp [intOf]; omega
        · have F := Lib.hid (show R = false from by rw [HH.out.2.2.1]; exact decide_eq_false (hne hab))
          have hb : (a != b) = true := by simp [hab]
          clear ht1 ht2 hne hab
          go_upto_region 6 with (fail)
          go_quiet (fail)
          go_wp2_with (fail)
          go_ret
          exact ⟨by rw [F.out]; rfl, Below.drewN' B.out _⟩
      · obtain rfl : k = x.l.length := by omega
        have hkI : ¬ (x.l.length : Int) < (x.l.length : Int) := by omega
        have F := Lib.hid (show R = true from by
          have h := hrel.out.1
          rw [List.take_length, HH.out.2.2.2, List.take_length] at h
          rw [HH.out.2.2.1]; exact decide_eq_true h)
        have B := Lib.hid hrel.out.2
        clear hrel
        go_wp2_with (fail)
        go_ret
        exact ⟨by rw [F.out]; rfl, B.out⟩
  · have F := Lib.hid (show R = false from by rw [hR]; exact decide_eq_false fun h => hlen (by rw [h]))
    have hlI : ((x.l.length : Int) != (y.l.length : Int)) = true := by simp; omega
    clear hR hlen hx hy
    go_enter Try.func22, Try.ntmps22
    go_wp2_with (fail)
    go_ret
    exact ⟨by rw [F.out]; rfl, Below.refl _ _⟩
end Go.Proofs.Ytmldiojlglpoiaa
/- The law's awake (layer 13). -/
namespace Go.Proofs.Ytmldiojlglpoiaa
open Go.RowKit Go.Maps Go.Sort

theorem es_lit {W : World} {b : Nat} {l : List Ed} (h : W.heap[b]? = some (.cells (edsC l).toArray 48 (0, 0))) (hs : l.length ≤ 1000) : Es W (some ⟨b, 0, none⟩) l.length l := ⟨rd_lit h, Nat.le_refl _, hs⟩
def awEd : List Ed := [⟨1, [97], 2⟩, ⟨2, [97], 3⟩, ⟨3, [97], 2⟩]
theorem awEd_prs : prsL [97] awEd = awE := by decide +kernel
theorem nm97 : isNm [97] = true := by decide +kernel
theorem aw_pairs : pairsC [97] awE = 0 ∧ pairsR [97] awE = spanL awE := pairsC_few nm97 (by decide)
theorem aw_nogo {E : List Pr} {a b : Int} {r : List Int} (h : FirstWay (InE E) a r b) : Lead (InE E) a b := h.lead
set_option maxRecDepth 100000 in
set_option maxHeartbeats 4000000 in
theorem awake13_any (w : World) : Calls Try.prog 15 #[] w fun e w' => e = .returned (.bool true) ∧ Below w.heap.size w w' := by
  have hb1 : Below w.heap.size w (w.alloc (.cells #[.int .i64 1, .string ⟨#[97]⟩, .int .i64 2, .int .i64 2, .string ⟨#[97]⟩, .int .i64 3, .int .i64 3, .string ⟨#[97]⟩, .int .i64 2] 48)) := (Below.refl _ _).alloc (Nat.le_refl _) _
  have hes : Es (w.alloc (.cells #[.int .i64 1, .string ⟨#[97]⟩, .int .i64 2, .int .i64 2, .string ⟨#[97]⟩, .int .i64 3, .int .i64 3, .string ⟨#[97]⟩, .int .i64 2] 48)) (some ⟨w.heap.size, 0, none⟩) 3 awEd := es_lit (l := awEd) (heap_alloc_new w _) (by decide)
  have HP := Lib.hid fun W (hW : Below w.heap.size w W ∧ Es W (some ⟨w.heap.size, 0, none⟩) 3 awEd) => (show Calls Try.prog 16 #[.string ⟨#[97]⟩, .slice (some ⟨w.heap.size, 0, none⟩) 3 3] W _ from (Pairs_any [97] _ _ awEd W hW.2).mono (fun e w' h => (by
    obtain ⟨x, h1, _, _, h4, h5, _⟩ := h
    rw [awEd_prs, aw_pairs.1] at h1
    rw [awEd_prs, aw_pairs.2] at h4
    have hl : x.ts.length = 6 := by rw [← tus_len, h4]; exact aw_len
    rw [hl] at h1
    exact ⟨x.A, x.c, h1, hW.1.trans (lower' h5 hW.1.size), hW.2.below h5⟩ : ∃ (A : Option Addr) (c : Nat), e = .returned (.tuple #[.slice A 6 c, .int .i64 0]) ∧ Below w.heap.size w w' ∧ Es w' (some ⟨w.heap.size, 0, none⟩) 3 awEd)))
  have HWY := Lib.hid fun W (hW : Below w.heap.size w W ∧ Es W (some ⟨w.heap.size, 0, none⟩) 3 awEd) => (show Calls Try.prog 20 #[.string ⟨#[97]⟩, .slice (some ⟨w.heap.size, 0, none⟩) 3 3, .int .i64 2, .int .i64 2] W _ from (Way_any [97] _ _ awEd 2 2 W hW.2).mono (fun e w' h => (by
    unfold WyPost at h
    rw [awEd_prs] at h
    rcases h with ⟨h1, _⟩ | ⟨_, h2, _⟩ | ⟨_, u, r, h3, h4, _, h6, h7, h8⟩
    · rw [nm97] at h1; cases h1
    · exact absurd aw_lead h2
    · have hr := aw_way h6
      subst hr
      have hl : u.l.length = 3 := by rw [h4]; rfl
      rw [hl] at h3
      exact ⟨u, h3, h4, h7.ok (by rw [hl]; omega), hW.1.trans (lower' h8 hW.1.size), hW.2.below h8⟩ : ∃ u : TV, e = .returned (.tuple #[.slice u.A 3 u.c, .int .i64 0]) ∧ u.l = [2, 3, 2] ∧ u.Ok w' ∧ Below w.heap.size w w' ∧ Es w' (some ⟨w.heap.size, 0, none⟩) 3 awEd)))
  have HRG := Lib.hid fun W (hW : Below w.heap.size w W ∧ Es W (some ⟨w.heap.size, 0, none⟩) 3 awEd) => (show Calls Try.prog 23 #[.string ⟨#[97]⟩, .slice (some ⟨w.heap.size, 0, none⟩) 3 3] W _ from (Rings_any [97] _ _ awEd W hW.2).mono (fun e w' h => (by
    unfold RgPost at h
    rw [awEd_prs] at h
    rcases h with ⟨h1, _⟩ | ⟨_, y, h3, h4, h5, h6⟩
    · rw [nm97] at h1; cases h1
    · have hy := h5 _ aw_clos
      rw [aw_rings aw_clos] at hy
      have hl : y.ts.length = 1 := by rw [← tus_len, hy]; rfl
      rw [hl] at h3
      obtain ⟨b, o, hA, hb, hc⟩ := Lst.cell h4 (k := 0) (by omega)
      have ht : (y.ts[0]'(by omega)).l = [2, 3] := by
        have h9 := tus_at y.ts 0 (by omega)
        rw [← h9]
        simp only [hy]
        rfl
      refine ⟨b, o, y.ts[0]'(by omega), y.c, by rw [← hA]; exact h3, ?_, h4.at (by omega), ht, hb, hW.1.trans (lower' h6 hW.1.size), h6⟩
      rw [ht] at hc
      exact hc : ∃ (b o : Nat) (t : TV) (c : Nat), e = .returned (.tuple #[.slice (some ⟨b, o, none⟩) 1 c, .int .i64 0]) ∧ w'.cell? ⟨b, o, none⟩ = some (.slice t.A 2 t.c) ∧ t.Ok w' ∧ t.l = [2, 3] ∧ b < w'.heap.size ∧ Below w.heap.size w w' ∧ Below W.heap.size W w')))
  have H1 := Lib.hid (And.intro hb1 hes)
  clear hb1 hes
  go_enter Try.func15, Try.ntmps15
  go_upto_region 5 with (first
    | (go_at_call 16; (with_reducible refine (HP.out _ H1.out).mono ?_); rintro e w2 ⟨pA, pc, rfl, b2⟩; have H2 := Lib.hid b2; clear b2)
    | (go_at_call 20; (with_reducible refine (HWY.out _ H2.out).mono ?_); rintro e w3 ⟨u, rfl, u1, u2, b3⟩; have H3 := Lib.hid b3; have HU := Lib.hid (And.intro u1 u2); clear b3 u1 u2)
    | (go_at_call 23; (with_reducible refine (HRG.out _ H3.out).mono ?_); rintro e w4 ⟨rb, ro, t, rc, rfl, y1, y2, y3, y4, b4, c4⟩; have H4 := Lib.hid (And.intro y2 (And.intro y3 (And.intro y4 (And.intro b4 (And.intro y1 c4))))); clear y2 y3 y4 b4 y1 c4))
  have hbA : Below w4.heap.size w4 (w4.alloc (.cells #[.int .i64 2, .int .i64 3, .int .i64 2] 3)) := (Below.refl _ _).alloc (Nat.le_refl _) _
  have hul : u.l.length = 3 := by rw [HU.out.1]; rfl
  have hi1 := ints_any u ⟨some ⟨w4.heap.size, 0, none⟩, [2, 3, 2], 3⟩ _ ((HU.out.2.below H4.out.2.2.2.2.2).below hbA) (tv_lit (l := [2, 3, 2]) (heap_alloc_new _ _) (by decide))
  rw [HU.out.1, decide_eq_true rfl] at hi1
  have HI1 := Lib.hid (show Calls Try.prog 22 #[.slice u.A 3 u.c, .slice (some ⟨w4.heap.size, 0, none⟩) 3 3] (w4.alloc (.cells #[.int .i64 2, .int .i64 3, .int .i64 2] 3)) fun e w' => e = .returned (.bool true) ∧ Below w4.heap.size w4 w' from hi1.mono fun e w' h => ⟨h.1, hbA.trans (lower' h.2 hbA.size)⟩)
  have HI2 := Lib.hid fun W (hW : Below w4.heap.size w4 W) => (show Calls Try.prog 22 #[.slice t.A 2 t.c, .slice (some ⟨W.heap.size, 0, none⟩) 2 2] (W.alloc (.cells #[.int .i64 2, .int .i64 3] 3)) fun e w' => e = .returned (.bool true) ∧ Below w4.heap.size w4 w' from by
    have hbB : Below W.heap.size W (W.alloc (.cells #[.int .i64 2, .int .i64 3] 3)) := (Below.refl _ _).alloc (Nat.le_refl _) _
    have hi2 := ints_any t ⟨some ⟨W.heap.size, 0, none⟩, [2, 3], 2⟩ _ ((H4.out.1.below hW).below hbB) (tv_lit (l := [2, 3]) (heap_alloc_new _ _) (by decide))
    rw [H4.out.2.1, decide_eq_true rfl] at hi2
    exact hi2.mono fun e w' h => ⟨h.1, hW.trans (lower' (hbB.trans (lower' h.2 hbB.size)) hW.size)⟩)
  have HC := Lib.hid fun W (hW : Below w4.heap.size w4 W) => (hW.cell (p := ⟨rb, ro, none⟩) H4.out.2.2.1).trans H4.out.2.2.2.2.1
  have HB4 := Lib.hid H4.out.2.2.2.1
  clear hbA hul hi1 HP HWY HRG H1 H2 H3 H4 HU
  go_wp2_with (first
    | (go_at_call 22; (with_reducible refine HI1.out.mono ?_); rintro e w6 ⟨rfl, b6⟩; have k6 := HC.out _ b6; have B6 := Lib.hid b6; clear b6 HI1)
    | (go_at_call 22; (with_reducible refine (HI2.out _ B6.out).mono ?_); rintro e w8 ⟨rfl, b8⟩; have B8 := Lib.hid b8; clear b8 k6))
  go_ret
  exact ⟨rfl, HB4.out.trans (lower' B8.out HB4.out.size)⟩
end Go.Proofs.Ytmldiojlglpoiaa
