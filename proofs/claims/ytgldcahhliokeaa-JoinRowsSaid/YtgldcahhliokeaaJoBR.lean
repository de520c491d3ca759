/- The same edges, the same texts, the same view are told so: SameEdges, Texts, rhizomeref09.Same. -/
import Derived.Test.YtgldcahhliokeaaJoBE
namespace Go.Proofs.Ytgldcahhliokeaa
open Go.RowKit Go.Maps

set_option maxRecDepth 100000 in
set_option maxHeartbeats 2000000 in
theorem edges_same (A B : Option Addr) (c d : Nat) (l : List Ed) (w : World) (ha : Eds w A c l) (hb : Eds w B d l) : Calls Try.prog 21 #[.slice A l.length c, .slice B l.length d] w fun e w' => e = .returned (.bool true) ∧ Below w.heap.size w w' := by
  have hs := ha.sm
  have HH := Lib.hid (And.intro ha hb)
  clear ha hb
  go_enter Try.func21, Try.ntmps21
  go_wp2_with (fail)
  go_loopw [13] (fun i wr => ∃ k : Nat, k ≤ l.length ∧ i = .int .i64 (k : Int) ∧ Hid (Below w.heap.size w wr)) (fun i _ => l.length - (intOf i).toNat)
  case atStart => exact ⟨0, by omega, rfl, Lib.hid (Below.refl _ _)⟩
  case round =>
    obtain ⟨k, hk, rfl, hrel⟩ := hrel
    by_cases hkl : k < l.length
    · have hkI : (k : Int) < (l.length : Int) := by omega
      obtain ⟨p1, o1, hA1, _, c0, c1, c2⟩ := (HH.out.1.below hrel.out).cell hkl
      obtain ⟨p2, o2, hA2, _, d0, d1, d2⟩ := (HH.out.2.below hrel.out).cell hkl
      rw [hA1, hA2]
      generalize l[k] = y at c0 c1 c2 d0 d1 d2
      have B := Lib.hid hrel.out
      clear hA1 hA2 hrel
      go_upto_region 6 with (fail)
      go_quiet (fail)
      go_wp2_with (fail)
      go_roundw
      case rel => exact ⟨k + 1, by omega, by go_num, Lib.hid (Below.drewN' B.out _)⟩
      case measure => simp [intOf]; omega
    · have hkI : ¬ (k : Int) < (l.length : Int) := by omega
      have B := Lib.hid hrel.out
      clear hrel
      go_wp2_with (fail)
      go_ret
      exact ⟨rfl, B.out⟩
set_option maxRecDepth 100000 in
set_option maxHeartbeats 2000000 in
theorem texts_same (A B : Option Addr) (c d : Nat) (l : List Nm) (w : World) (ha : Sts w A c l) (hb : Sts w B d l) : Calls Try.prog 43 #[.slice A l.length c, .slice B l.length d] w fun e w' => e = .returned (.bool true) ∧ Below w.heap.size w w' := by
  have hs := ha.sm
  have HH := Lib.hid (And.intro ha hb)
  clear ha hb
  go_enter Try.func43, Try.ntmps43
  go_wp2_with (fail)
  go_loopw [13] (fun i wr => ∃ k : Nat, k ≤ l.length ∧ i = .int .i64 (k : Int) ∧ Hid (Below w.heap.size w wr)) (fun i _ => l.length - (intOf i).toNat)
  case atStart => exact ⟨0, by omega, rfl, Lib.hid (Below.refl _ _)⟩
  case round =>
    obtain ⟨k, hk, rfl, hrel⟩ := hrel
    by_cases hkl : k < l.length
    · have hkI : (k : Int) < (l.length : Int) := by omega
      obtain ⟨p1, o1, hA1, _, c0⟩ := (HH.out.1.below hrel.out).cell hkl
      obtain ⟨p2, o2, hA2, _, d0⟩ := (HH.out.2.below hrel.out).cell hkl
      rw [hA1, hA2]
      generalize l[k] = y at c0 d0
      have B := Lib.hid hrel.out
      clear hA1 hA2 hrel
      go_upto_region 6 with (fail)
      go_quiet (fail)
      go_wp2_with (fail)
      go_roundw
      case rel => exact ⟨k + 1, by omega, by go_num, Lib.hid (Below.drewN' B.out _)⟩
      case measure => simp [intOf]; omega
    · have hkI : ¬ (k : Int) < (l.length : Int) := by omega
      have B := Lib.hid hrel.out
      clear hrel
      go_wp2_with (fail)
      go_ret
      exact ⟨rfl, B.out⟩
set_option maxRecDepth 100000 in
set_option maxHeartbeats 4000000 in
theorem view_same (v : Vw) (oA oB aA aB : Option Addr) (oc od ac ad : Nat) (w : World) (hx : VW.Ok w ⟨oA, oc, aA, ac, v⟩) (hy : VW.Ok w ⟨oB, od, aB, ad, v⟩) :
    Calls Try.prog 20 #[.agg #[.string ⟨v.name.toArray⟩, .int .i64 v.kind, .slice oA v.out.length oc, .slice aA v.atoms.length ac, .string ⟨v.label.toArray⟩], .agg #[.string ⟨v.name.toArray⟩, .int .i64 v.kind, .slice oB v.out.length od, .slice aB v.atoms.length ad, .string ⟨v.label.toArray⟩]] w fun e w' => e = .returned (.bool true) ∧ Below w.heap.size w w' := by
  have hbx := boxes_at w (.cells #[.string ⟨v.name.toArray⟩, .int .i64 v.kind, .slice oA v.out.length oc, .slice aA v.atoms.length ac, .string ⟨v.label.toArray⟩] 25) (.cells #[.string ⟨v.name.toArray⟩, .int .i64 v.kind, .slice oB v.out.length od, .slice aB v.atoms.length ad, .string ⟨v.label.toArray⟩] 25)
  have h1 := hx.below hbx.2.2
  have h2 := hy.below hbx.2.2
  have HB := Lib.hid (And.intro hbx (And.intro h1 h2))
  have hs : v.atoms.length ≤ 100 := hx.ats.sm
  clear hx hy hbx h1 h2
  go_enter Try.func20, Try.ntmps20
  go_wp2_with (fail)
  generalize (w.alloc (.cells #[.string ⟨v.name.toArray⟩, .int .i64 v.kind, .slice oA v.out.length oc, .slice aA v.atoms.length ac, .string ⟨v.label.toArray⟩] 25)).alloc (.cells #[.string ⟨v.name.toArray⟩, .int .i64 v.kind, .slice oB v.out.length od, .slice aB v.atoms.length ad, .string ⟨v.label.toArray⟩] 25) = W1 at HB ⊢
  go_loopw [16] (fun i wr => ∃ k : Nat, k ≤ v.atoms.length ∧ i = .int .i64 (k : Int) ∧ Hid (Below W1.heap.size W1 wr)) (fun i _ => v.atoms.length - (intOf i).toNat)
  case atStart => exact ⟨0, by omega, rfl, Lib.hid (Below.refl _ _)⟩
  case round =>
    obtain ⟨k, hk, rfl, hrel⟩ := hrel
    obtain ⟨q0, q1, q2, q3, q4⟩ := box5 ((hrel.out.block _ (heap_lt HB.out.1.1)).trans HB.out.1.1)
    obtain ⟨r0, r1, r2, r3, r4⟩ := box5 ((hrel.out.block _ (heap_lt HB.out.1.2.1)).trans HB.out.1.2.1)
    by_cases hkl : k < v.atoms.length
    · have hkI : (k : Int) < (v.atoms.length : Int) := by omega
      obtain ⟨p1, o1, hA1, _, c0, c1, c2⟩ := (HB.out.2.1.below hrel.out).ats.cell hkl
      obtain ⟨p2, o2, hA2, _, d0, d1, d2⟩ := (HB.out.2.2.below hrel.out).ats.cell hkl
      dsimp only at hA1 hA2 c0 c1 c2 d0 d1 d2
      rw [hA1] at q3
      rw [hA2] at r3
      generalize v.atoms[k] = y at c0 c1 c2 d0 d1 d2
      have B := Lib.hid hrel.out
      clear hA1 hA2 hrel
      go_upto_region 6 with (fail)
      go_quiet (fail)
      go_wp2_with (fail)
      go_roundw
      case rel => exact ⟨k + 1, by omega, by go_num, Lib.hid (Below.drewN' B.out _)⟩
      case measure => simp [intOf]; omega
    · have hkI : ¬ (k : Int) < (v.atoms.length : Int) := by omega
      have ht := texts_same oA oB oc od v.out wr (HB.out.2.1.below hrel.out).out (HB.out.2.2.below hrel.out).out
      have HT := Lib.hid ht
      have B := Lib.hid hrel.out
      clear ht hrel
      go_wp2_with (go_at_call 43; (with_reducible refine HT.out.mono ?_); rintro e w4 ⟨rfl, b4⟩; have B4 := Lib.hid (B.out.trans (lower' b4 B.out.size)); clear b4)
      go_ret
      exact ⟨rfl, HB.out.1.2.2.trans (lower' B4.out HB.out.1.2.2.size)⟩
end Go.Proofs.Ytgldcahhliokeaa
