/- Layer 17: the document's IsRing. -/
import Derived.Test.YtiadphgodhfhjabWtQ
namespace Go.Proofs.Ytiadphgodhfhjab
open Go.RowKit

set_option maxRecDepth 100000 in
set_option maxHeartbeats 8000000 in
theorem isRing_any (w : World) {A : Option Addr} {c : Nat} {L : List (Int × Int)} (h : PrL w A c L) (hg : L.length ≤ 256) {Al : Option Addr} {cl : Nat} {l : List Nat} (hl : IntL w Al cl (natZ l)) (s : Nat) (hr : RingOf (EdR L) s l) (hn : l.length ≤ 16) :
    Calls Try.prog 16 #[.slice A L.length c, .slice Al l.length cl] w fun e w' => e = .returned (.bool true) ∧ Below w.heap.size w w' := by
  have hlI : (L.length : Int) ≤ 256 := by omega
  have hnI : (l.length : Int) ≤ 16 := by omega
  have hp := hr.pos
  have HH := Lib.hid (And.intro h (And.intro hl (And.intro hr hg)))
  clear h hl hr hg
  go_enter Try.func16, Try.ntmps16
  go_wp2_with (fail)
  go_loopg [12] 20 (fun gk v12 wr => ∃ i : Nat, i ≤ l.length ∧ i + gk = 20 ∧ v12 = .int .i64 (i : Int) ∧ Hid (Below w.heap.size w wr))
  case atStart => exact ⟨0, by omega, by omega, rfl, Lib.hid (Below.refl _ _)⟩
  case round =>
    obtain ⟨i, hi, hig, rfl, hrel⟩ := hrel
    by_cases hlt : i < l.length
    · have hiI : (i : Int) < (l.length : Int) := by omega
      obtain ⟨nx, hnx, hnl, hE⟩ : ∃ nx : Nat, ((i : Int) + 1) % (l.length : Int) = (nx : Int) ∧ nx < l.length ∧ EdR L (l.getD i 0) (l.getD nx 0) := by
        by_cases e : i + 1 < l.length
        · exact ⟨i + 1, Int.emod_eq_of_lt (by omega) (by omega), e, HH.out.2.2.1.walk i e⟩
        · have e2 : i + 1 = l.length := by omega
          refine ⟨0, ?_, hp, ?_⟩
          · rw [show (i : Int) + 1 = (l.length : Int) by omega]; exact Int.emod_self
          · rw [show i = l.length - 1 by omega, HH.out.2.2.1.first]; exact HH.out.2.2.1.back
      have hlz : ((l.length : Int) == 0) = false := by rw [beq_eq_false_iff_ne]; omega
      obtain ⟨ab, ao, rfl, -, q1⟩ := (HH.out.2.1.below hrel.out).cell (k := nx) (by rw [natZ_len]; exact hnl)
      rw [natZ_at] at q1
      obtain ⟨x, hx⟩ : ∃ x, x = l.getD i 0 := ⟨_, rfl⟩
      obtain ⟨y, hy⟩ : ∃ y, y = l.getD nx 0 := ⟨_, rfl⟩
      rw [← hy] at q1 hE
      rw [← hx] at hE
      have hnxI : (nx : Int) < (l.length : Int) := by omega
      have HE := Lib.hid (And.intro hE (And.intro hx (And.intro hlt hig)))
      clear hE hx hy hlt hig hi
      go_upto_region 6 with (fail)
      rw [hnx]
      clear hnx
      go_wp2_with (fail)
      go_loopg [7, 25] 300 (fun g2 v7 v25 wq => ∃ (k : Nat) (t : Bool), k ≤ L.length ∧ k + g2 = 300 ∧ v7 = .bool t ∧ v25 = .int .i64 (k : Int) ∧ Hid (Below w.heap.size w wq ∧ (t = false → ((x : Int), (y : Int)) ∉ L.take k)))
      case atStart => exact ⟨0, false, by omega, by omega, rfl, rfl, Lib.hid ⟨hrel.out, fun _ h => by simp at h⟩⟩
      case round =>
        rename Nat => g2
        rename World => wq
        obtain ⟨k, t, hk, hkg, rfl, rfl, hrel2⟩ := hrel
        by_cases hkl : k < L.length
        · have hkI : (k : Int) < (L.length : Int) := by omega
          obtain ⟨eb, eo, rfl, -, p0, p1⟩ := (HH.out.1.below hrel2.out.1).cell hkl
          obtain ⟨lb, lo, eL, -, r0⟩ := (HH.out.2.1.below hrel2.out.1).cell (k := i) (by rw [natZ_len]; exact HE.out.2.2.1)
          injection eL with eL
          injection eL with eL1 eL2
          subst eL1 eL2
          rw [natZ_at, ← HE.out.2.1] at r0
          obtain ⟨⟨e0, e1⟩, he⟩ : ∃ e, e = L[k] := ⟨_, rfl⟩
          rw [← he] at p0 p1
          dsimp only at p0 p1
          have htk : L.take (k + 1) = L.take k ++ [(e0, e1)] := by rw [List.take_succ_eq_append_getElem hkl, he]
          have HK := Lib.hid (And.intro hkl (And.intro hkg htk))
          clear hkl hkg htk he hk q1
          have hq := fun W => eql_pr e0 e1 (x : Int) (y : Int) W
          cases t
          · by_cases c0 : e0 = (x : Int)
            · by_cases c1 : e1 = (y : Int)
              · subst c0 c1
                go_upto_region 9 with (fail)
                go_quiet (fail)
                go_wp2_with (fail)
                go_roundg (g2 - 1)
                case rel => exact ⟨k + 1, true, HK.out.1, by have := HK.out.2.1; omega, rfl, by go_num, Lib.hid ⟨Below.drewN' hrel2.out.1 _, fun h => (by cases h)⟩⟩
                case measure => have := HK.out; omega
              · have b1 : (e1 == (y : Int)) = false := by simp [c1]
                have HN := Lib.hid c1
                subst c0
                clear c1
                go_upto_region 9 with (fail)
                go_quiet (fail)
                go_wp2_with (fail)
                go_roundg (g2 - 1)
                case rel => exact ⟨k + 1, false, HK.out.1, by have := HK.out.2.1; omega, rfl, by go_num, Lib.hid ⟨Below.drewN' hrel2.out.1 _, fun _ hm => by
                  rw [HK.out.2.2] at hm
                  rcases List.mem_append.1 hm with hm | hm
                  · exact hrel2.out.2 (by simp) hm
                  · have := List.mem_singleton.1 hm
                    rw [Prod.mk.injEq] at this
                    exact HN.out this.2.symm⟩⟩
                case measure => have := HK.out; omega
            · have b0 : (e0 == (x : Int)) = false := by simp [c0]
              have HN := Lib.hid c0
              clear c0
              go_upto_region 9 with (fail)
              go_quiet (fail)
              go_wp2_with (fail)
              go_roundg (g2 - 1)
              case rel => exact ⟨k + 1, false, HK.out.1, by have := HK.out.2.1; omega, rfl, by go_num, Lib.hid ⟨Below.drewN' hrel2.out.1 _, fun _ hm => by
                rw [HK.out.2.2] at hm
                rcases List.mem_append.1 hm with hm | hm
                · exact hrel2.out.2 (by simp) hm
                · have := List.mem_singleton.1 hm
                  rw [Prod.mk.injEq] at this
                  exact HN.out this.1.symm⟩⟩
              case measure => have := HK.out; omega
          · go_upto_region 9 with (fail)
            go_quiet (fail)
            go_wp2_with (fail)
            go_roundg (g2 - 1)
            case rel => exact ⟨k + 1, true, HK.out.1, by have := HK.out.2.1; omega, rfl, by go_num, Lib.hid ⟨Below.drewN' hrel2.out.1 _, fun h => (by cases h)⟩⟩
            case measure => have := HK.out; omega
        · obtain rfl : k = L.length := by omega
          have hz : ¬ (L.length : Int) < (L.length : Int) := by omega
          obtain rfl : t = true := by
            cases t
            · have := hrel2.out.2 rfl
              rw [List.take_length] at this
              exact absurd HE.out.1 this
            · rfl
          have hbb := hrel2.out.1
          clear hrel2
          go_wp2_with (fail)
          go_loopg [7, 9] 20 (fun g3 v7 v9 wz => ∃ j : Nat, j ≤ i ∧ j + g3 = 20 ∧ v7 = .bool true ∧ v9 = .int .i64 (j : Int) ∧ Hid (Below w.heap.size w wz))
          case atStart => exact ⟨0, by omega, by omega, rfl, rfl, Lib.hid hbb⟩
          case round =>
            rename Nat => g3
            rename World => wz
            obtain ⟨j, hj, hjg, rfl, rfl, hrel3⟩ := hrel
            by_cases hji : j < i
            · have hjI : (j : Int) < (i : Int) := by omega
              have hjl : (j : Int) < (l.length : Int) := by omega
              obtain ⟨lb, lo, eL, -, r0⟩ := (HH.out.2.1.below hrel3.out).cell (k := i) (by rw [natZ_len]; exact HE.out.2.2.1)
              injection eL with eL
              injection eL with eL1 eL2
              subst eL1 eL2
              obtain ⟨lb, lo, eL, -, r1⟩ := (HH.out.2.1.below hrel3.out).cell (k := j) (by rw [natZ_len]; have := HE.out.2.2.1; omega)
              injection eL with eL
              injection eL with eL1 eL2
              subst eL1 eL2
              rw [natZ_at] at r0 r1
              obtain ⟨a, ha⟩ : ∃ a, a = l.getD i 0 := ⟨_, rfl⟩
              obtain ⟨b, hb⟩ : ∃ b, b = l.getD j 0 := ⟨_, rfl⟩
              have hne : ((b : Int) != (a : Int)) = true := by
                rw [bne_iff_ne]
                intro e
                have e : b = a := by omega
                have hil := HE.out.2.2.1
                rw [ha, hb, List.getD_eq_getElem?_getD, List.getD_eq_getElem?_getD, List.getElem?_eq_getElem (show j < l.length by omega), List.getElem?_eq_getElem hil] at e
                have := (List.pairwise_iff_getElem.1 HH.out.2.2.1.nd) j i (by omega) hil hji
                exact this e
              rw [← ha] at r0
              rw [← hb] at r1
              have HJ := Lib.hid (And.intro hji hjg)
              clear hji hjg hj ha hb
              go_upto_region 14 with (fail)
              go_quiet (fail)
              go_wp2_with (fail)
              go_roundg (g3 - 1)
              case rel => exact ⟨j + 1, HJ.out.1, by have := HJ.out; omega, rfl, by go_num, Lib.hid (Below.drewN' hrel3.out _)⟩
              case measure => have := HJ.out; have := HE.out.2.2; omega
            · obtain rfl : j = i := by omega
              have hz : ¬ (j : Int) < (j : Int) := by omega
              go_wp2_with (fail)
              go_roundg (gk - 1)
              case rel => exact ⟨j + 1, HE.out.2.2.1, by have := HE.out.2.2; omega, by go_num, Lib.hid hrel3.out⟩
              case measure => have := HE.out.2.2; omega
    · obtain rfl : i = l.length := by omega
      have hz : ¬ (l.length : Int) < (l.length : Int) := by omega
      have hpI : (0 : Int) < (l.length : Int) := by omega
      go_wp2_with (fail)
      go_ret
      exact ⟨rfl, hrel.out⟩
end Go.Proofs.Ytiadphgodhfhjab
