/- The law SpanWays, walked. -/
import Derived.Test.YtgjjdmkoamjdpaaSpGL
import Derived.Test.YtgjjdmkoamjdpaaSpK
import Derived.Test.YtgjjdmkoamjdpaaJoOp
namespace Go.Proofs.Ytgjjdmkoamjdpaa
open Go.RowKit Go.Maps Go.Sort

theorem EdsRaw.esW {w : World} {A : Option Addr} {c : Nat} {l : List Ed} (h : EdsRaw w A c l) (hs : l.length ≤ 1000) : Es w A c l := ⟨h.1, h.2.1, hs⟩
/-- What both Ways answer is one. -/
theorem wy_fix (lab : Nm) (E : List Pr) (a b : Int) : ∃ (L : Tu) (code : Int), ∀ w e w', WyPost lab E a b w e w' → ∃ u : TV, e = .returned (.tuple #[.slice u.A u.l.length u.c, .int .i64 code]) ∧ u.l = L ∧ u.Ok w' ∧ Below w.heap.size w w' := by
  cases hn : isNm lab with
  | false => exact ⟨[], 1, fun w e w' h => by
      rcases h with ⟨_, h2, h3⟩ | ⟨h1, _⟩ | ⟨h1, _⟩
      · exact ⟨⟨none, [], 0⟩, h2, rfl, ⟨fun hn => absurd rfl hn, Nat.le_refl _, by simp⟩, h3⟩
      · rw [hn] at h1; cases h1
      · rw [hn] at h1; cases h1⟩
  | true =>
    by_cases hl : Lead (InE E) a b
    · by_cases hf : ∃ r, FirstWay (InE E) a r b
      · obtain ⟨r, hr⟩ := hf
        exact ⟨a :: r, 0, fun w e w' h => by
          rcases h with ⟨h1, _⟩ | ⟨_, h2, _⟩ | ⟨_, u, r', h2, h3, h4, h5, h6, h7⟩
          · rw [hn] at h1; cases h1
          · exact absurd hl h2
          · exact ⟨u, h2, by rw [h3, h5.one hr], h6.ok (by rw [h3]; simp; omega), h7⟩⟩
      · exact ⟨[], 0, fun w e w' h => by
          rcases h with ⟨h1, _⟩ | ⟨_, h2, _⟩ | ⟨_, u, r', h2, h3, h4, h5, h6, h7⟩
          · rw [hn] at h1; cases h1
          · exact absurd hl h2
          · exact absurd ⟨r', h5⟩ hf⟩
    · exact ⟨[], 4, fun w e w' h => by
        rcases h with ⟨h1, _⟩ | ⟨_, _, h2, h3⟩ | ⟨_, u, r', h2, h3, h4, h5, h6, h7⟩
        · rw [hn] at h1; cases h1
        · exact ⟨⟨none, [], 0⟩, h2, rfl, ⟨fun hn => absurd rfl hn, Nat.le_refl _, by simp⟩, h3⟩
        · exact absurd h5.lead hl⟩
set_option maxRecDepth 100000 in
set_option maxHeartbeats 8000000 in
theorem spanWays_walk (lab : Nm) (A : Option Addr) (l : List Ed) (c : Nat) (n m : Int) (W : World) (he : EdsRaw W A c l) (hlm : lab.length ≤ maxLen) : Calls Try.prog 3 #[.string ⟨lab.toArray⟩, .slice A l.length c, .agg #[.int .i64 n, .int .i64 m]] W fun e w' => e = .returned (.bool true) ∧ Below W.heap.size W w' := by
  have HAW := Lib.hid awake13_any
  have hb0 : Below W.heap.size W (W.alloc (.cells #[.int .i64 n, .int .i64 m] 23)) := (Below.refl _ _).alloc (Nat.le_refl _) _
  have hx0 : (W.alloc (.cells #[.int .i64 n, .int .i64 m] 23)).heap[W.heap.size]? = some (.cells #[.int .i64 n, .int .i64 m] 23) := heap_alloc_new W _
  have HB0 := Lib.hid (And.intro hb0 hx0)
  clear hb0 hx0
  by_cases h20 : l.length ≤ 20
  · have hlI : ¬ (20 : Int) < (l.length : Int) := by omega
    by_cases h300 : lab.length ≤ 300
    · have hnI : ¬ (300 : Int) < (lab.length : Int) := by omega
      obtain ⟨L, code, hfix⟩ := wy_fix lab (prsL lab l) n m
      have HE := Lib.hid (And.intro (he.esW (by omega)) (And.intro h20 hlm))
      have HW1 := Lib.hid fun WW (hW : Below W.heap.size W WW) => (Way_any lab A c l n m WW (HE.out.1.below hW)).mono fun e w' h => hfix WW e w' h
      have HW2 := Lib.hid fun WW (hW : Below W.heap.size W WW) => (rway_any lab A c l n m WW (HE.out.1.below hW) HE.out.2.1 HE.out.2.2).mono fun e w' h => hfix WW e w' h
      clear he h20 h300 hfix
      go_enter Try.func3, Try.ntmps3
      go_upto_region 5 with (first
        | (go_at_call 4; (with_reducible refine (HAW.out _).mono ?_); rintro e w1 ⟨rfl, hb1⟩; have B1 := Lib.hid (HB0.out.1.trans (lower' hb1 HB0.out.1.size)); have hbx := (hb1.block _ (heap_lt HB0.out.2)).trans HB0.out.2; have HBX := Lib.hid hbx; have q0 := cell_of_row w1 W.heap.size 0 _ _ _ hbx; have q1 := cell_of_row w1 W.heap.size 1 _ _ _ hbx; clear hb1 hbx)
        | (go_at_call 5; (with_reducible refine (HW1.out _ B1.out).mono ?_); rintro e w2 ⟨u, rfl, u2, u3, b2⟩; clear q0 q1; have hbx := (b2.block _ (heap_lt HBX.out)).trans HBX.out; have q0 := cell_of_row w2 W.heap.size 0 _ _ _ hbx; have q1 := cell_of_row w2 W.heap.size 1 _ _ _ hbx; have B2 := Lib.hid (B1.out.trans (lower' b2 B1.out.size)); have U2 := Lib.hid (And.intro u2 u3); clear u2 u3 b2 hbx)
        | (go_at_call 6; (with_reducible refine (HW2.out _ B2.out).mono ?_); rintro e w3 ⟨v, rfl, v2, v3, b3⟩; have HI := Lib.hid (show Calls Try.prog 7 #[.slice u.A u.l.length u.c, .slice v.A v.l.length v.c] w3 _ from ints_any u v w3 (U2.out.2.below b3) v3); have HEQ := Lib.hid (show u.l = v.l from U2.out.1.trans v2.symm); have B3 := Lib.hid (B2.out.trans (lower' b3 B2.out.size)); clear v2 v3 b3))
      clear q0 q1
      go_wp2_with (go_at_call 7; (with_reducible refine HI.out.mono ?_); rintro e w6 ⟨rfl, b6⟩; have B6 := Lib.hid (B3.out.trans (lower' b6 B3.out.size)); clear b6)
      go_ret
      exact ⟨by rw [decide_eq_true HEQ.out]; rfl, B6.out⟩
    · have hnI : (300 : Int) < (lab.length : Int) := by omega
      clear he h20 h300
      go_enter Try.func3, Try.ntmps3
      go_upto_region 2 with (go_at_call 4; (with_reducible refine (HAW.out _).mono ?_); rintro e w1 ⟨rfl, hb1⟩; have B1 := Lib.hid (HB0.out.1.trans (lower' hb1 HB0.out.1.size)); clear hb1)
      go_wp2_with (go_at_call 4; (with_reducible refine (HAW.out _).mono ?_); rintro e w2 ⟨rfl, hb2⟩; have B2 := Lib.hid (B1.out.trans (lower' hb2 B1.out.size)); clear hb2)
      go_ret
      exact ⟨rfl, B2.out⟩
  · have hlI : (20 : Int) < (l.length : Int) := by omega
    clear he h20
    go_enter Try.func3, Try.ntmps3
    go_upto_region 2 with (go_at_call 4; (with_reducible refine (HAW.out _).mono ?_); rintro e w1 ⟨rfl, hb1⟩; have B1 := Lib.hid (HB0.out.1.trans (lower' hb1 HB0.out.1.size)); clear hb1)
    go_wp2_with (go_at_call 4; (with_reducible refine (HAW.out _).mono ?_); rintro e w2 ⟨rfl, hb2⟩; have B2 := Lib.hid (B1.out.trans (lower' hb2 B1.out.size)); clear hb2)
    go_ret
    exact ⟨rfl, B2.out⟩
end Go.Proofs.Ytgjjdmkoamjdpaa
