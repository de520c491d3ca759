/- span.Way. -/
import Derived.Test.YtmldiojlglpoiaaJnK
import Derived.Test.YtmldiojlglpoiaaSpV
namespace Go.Proofs.Ytmldiojlglpoiaa
open Go.RowKit Go.Maps Go.Sort

/-- What Way answers. -/
def WyPost (lab : Nm) (E : List Pr) (a b : Int) (w : World) (e : Ending) (w' : World) : Prop :=
  (isNm lab = false ∧ e = .returned (.tuple #[.slice none 0 0, .int .i64 1]) ∧ Below w.heap.size w w') ∨ (isNm lab = true ∧ ¬ Lead (InE E) a b ∧ e = .returned (.tuple #[.slice none 0 0, .int .i64 4]) ∧ Below w.heap.size w w') ∨ (isNm lab = true ∧ ∃ (u : TV) (r : List Int), e = .returned (.tuple #[.slice u.A u.l.length u.c, .int .i64 0]) ∧ u.l = a :: r ∧ r.length ≤ 2001 ∧ FirstWay (InE E) a r b ∧ OwnI w' w.heap.size u ∧ Below w.heap.size w w')
theorem first_any (x : RV) (E : List Pr) (a b : Int) (w : World) (hx : x.Ok w) (hr : Rdy x E) : Calls Try.prog 46 #[.agg (rvA x), .int .i64 a, .int .i64 b] w (FwPost E a b w) := by
  by_cases ha : a ∈ x.N
  · by_cases hb : b ∈ x.N
    · exact first_yes x E a b w hx hr ha hb
    · exact first_no x E a b w hx hr (.inr hb)
  · exact first_no x E a b w hx hr (.inl ha)
theorem isNilI (w : World) (n c : Nat) : (binOp BinOp.eql 31 (.slice none n c) (.slice none 0 0)).run Try.prog w = .ok (.bool true) w := Lib.run_eql_slice_nil w _ _ none n c 0 0 Try.underlying31
theorem notNilI (w : World) (p : Addr) (n c : Nat) : (binOp BinOp.eql 31 (.slice (some p) n c) (.slice none 0 0)).run Try.prog w = .ok (.bool false) w := Lib.run_eql_slice_nil w _ _ (some p) n c 0 0 Try.underlying31
theorem FirstWay.lead {E : List Pr} {a b : Int} {r : List Int} (h : FirstWay (InE E) a r b) : Lead (InE E) a b := wayTo_lead h.way h.ne
set_option maxRecDepth 100000 in
set_option maxHeartbeats 4000000 in
theorem Way_any (lab : Nm) (A : Option Addr) (c : Nat) (es : List Ed) (a b : Int) (w : World) (h : Es w A c es) : Calls Try.prog 20 #[.string ⟨lab.toArray⟩, .slice A es.length c, .int .i64 a, .int .i64 b] w (WyPost lab (prsL lab es) a b w) := by
  have his := is_any lab w
  have hro := roadsOf_any lab A c es w h
  have hsm := h.sm
  clear h
  by_cases hn : isNm lab = false
  · rw [hn] at his
    have HI := Lib.hid his
    have HE := Lib.hid hn
    clear his hro hn
    go_enter Try.func20, Try.ntmps20
    go_wp2_with (go_at_call 37; (with_reducible refine HI.out.mono ?_); rintro e w1 ⟨rfl, rfl⟩)
    go_ret2
    exact .inl ⟨HE.out, rfl, Below.refl _ _⟩
  · have hn' : isNm lab = true := by simpa using hn
    rw [hn'] at his
    have HI := Lib.hid his
    have HRO := Lib.hid hro
    have HL := Lib.hid (And.intro hn' hsm)
    clear his hro hn hn' hsm
    by_cases hld : Lead (InE (prsL lab es)) a b
    · have HLD := Lib.hid hld
      clear hld
      go_enter Try.func20, Try.ntmps20
      go_wp2_with (first
        | (go_at_call 37; (with_reducible refine HI.out.mono ?_); rintro e w1 ⟨rfl, rfl⟩)
        | (go_at_call 38; (with_reducible refine HRO.out.mono ?_); rintro e w2 ⟨x, rfl, x2, n2, o2, i2, b2⟩; have B2 := Lib.hid b2; have HP := Lib.hid (show Calls Try.prog 46 #[.agg (rvA x), .int .i64 a, .int .i64 b] w2 (fun e w' => ∃ (g c : Nat) (r : List Int), e = .returned (.slice (some ⟨g, 0, none⟩) (r.length + 1) c) ∧ r.length ≤ 2001 ∧ FirstWay (InE (prsL lab es)) a r b ∧ OwnI w' w2.heap.size ⟨some ⟨g, 0, none⟩, a :: r, c⟩ ∧ Below w2.heap.size w2 w') from (first_any x _ a b w2 x2 (rdy_of HL.out.2 n2 o2 i2)).mono (fun e w' h => by
            rcases h with ⟨⟨uA, ul, uc⟩, r, h1, h2, h3, h4, h5, h6⟩ | ⟨_, h2, _⟩
            · dsimp only at h2
              subst h2
              obtain ⟨g, cur, hA, _⟩ := OwnI.blk h5 (by simp)
              dsimp only at hA
              subst hA
              exact ⟨g, uc, r, h1, h3, h4, h5, h6⟩
            · exact absurd HLD.out h2)); clear x2 n2 o2 i2 b2)
        | (go_at_call 46; (with_reducible refine HP.out.mono ?_); rintro e w3 ⟨g, cc, r, rfl, r3, f3, o3, b3⟩; have hnil := notNilI w3 ⟨g, 0, none⟩ (r.length + 1) cc; have R3 := Lib.hid (And.intro r3 (And.intro f3 (And.intro o3 b3))); clear r3 f3 o3 b3))
      go_ret2
      exact .inr (.inr ⟨HL.out.1, ⟨some ⟨g, 0, none⟩, a :: r, cc⟩, r, rfl, rfl, R3.out.1, R3.out.2.1, own_mono R3.out.2.2.1 B2.out.size, B2.out.trans (lower' R3.out.2.2.2 B2.out.size)⟩)
    · have HLD := Lib.hid hld
      clear hld
      go_enter Try.func20, Try.ntmps20
      go_wp2_with (first
        | (go_at_call 37; (with_reducible refine HI.out.mono ?_); rintro e w1 ⟨rfl, rfl⟩)
        | (go_at_call 38; (with_reducible refine HRO.out.mono ?_); rintro e w2 ⟨x, rfl, x2, n2, o2, i2, b2⟩; have B2 := Lib.hid b2; have HP := Lib.hid (show Calls Try.prog 46 #[.agg (rvA x), .int .i64 a, .int .i64 b] w2 (fun e w' => e = .returned (.slice none 0 0) ∧ Below w2.heap.size w2 w') from (first_any x _ a b w2 x2 (rdy_of HL.out.2 n2 o2 i2)).mono (fun e w' h => by
            rcases h with ⟨u, r, _, _, _, h4, _⟩ | ⟨h1, _, h3⟩
            · exact absurd h4.lead HLD.out
            · exact ⟨h1, h3⟩)); clear x2 n2 o2 i2 b2)
        | (go_at_call 46; (with_reducible refine HP.out.mono ?_); rintro e w3 ⟨rfl, b3⟩; have hnil := isNilI w3 0 0; have R3 := Lib.hid b3; clear b3))
      go_ret2
      exact .inr (.inl ⟨HL.out.1, HLD.out, rfl, B2.out.trans (lower' R3.out B2.out.size)⟩)
end Go.Proofs.Ytmldiojlglpoiaa
