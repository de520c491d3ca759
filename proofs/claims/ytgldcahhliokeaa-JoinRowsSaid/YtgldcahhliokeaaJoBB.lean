/- The document's Vars. -/
import Derived.Test.YtgldcahhliokeaaJoBA
namespace Go.Proofs.Ytgldcahhliokeaa
open Go.RowKit Go.Maps

/-- A row of names of the call's own. -/
def StrRow (lo : Nat) (w : World) (v : Value) (l : List Nm) : Prop := w.ownsRow lo 9 1 v l.length (strs l)
theorem StrRow.nil (lo : Nat) (w : World) : StrRow lo w (.slice none 0 0) [] := World.ownsRow_nil _ _ _ _
theorem StrRow.kept {lo : Nat} {w w' : World} {v : Value} {l : List Nm} (h : StrRow lo w v l) (hb : Below w.heap.size w w') : StrRow lo w' v l := own_below h hb (Nat.le_refl _)
theorem StrRow.sts {lo : Nat} {w : World} {v : Value} {l : List Nm} (h : StrRow lo w v l) (hl : l.length ≤ 100) : ∃ A c, v = .slice A l.length c ∧ Sts w A c l := by
  obtain ⟨A, c, e, h1, h2, h3⟩ := own_shape h
  exact ⟨A, c, e, h3, h1, hl⟩
theorem StrRow.push {lo : Nat} {w : World} {v : Value} {l : List Nm} (h : StrRow lo w v l) (s : Nm) (hl : l.length ≤ 99) (hlo : lo ≤ w.heap.size) :
    ∃ A5 c5 w5, (Builtin.append_ #[22, 22] 22 #[v, .slice (some ⟨w.heap.size, 0, none⟩) 1 1]).run Try.prog (w.alloc (.cells #[.string ⟨s.toArray⟩] 9)) = .ok (.slice A5 (l.length + 1) c5) w5 ∧ StrRow lo w5 (.slice A5 (l.length + 1) c5) (l ++ [s]) ∧ Sts w5 A5 c5 (l ++ [s]) ∧ Below lo w w5 := by
  obtain ⟨i, hi, hz0, hz1, hz2⟩ := info_parts infoStr
  have hb4 : Below w.heap.size w (w.alloc (.cells #[.string ⟨s.toArray⟩] 9)) := (Below.refl _ _).alloc (Nat.le_refl _) _
  have hr4 := own_below h hb4 (Nat.le_refl _)
  have hz : lo ≤ (w.alloc (.cells #[.string ⟨s.toArray⟩] 9)).heap.size := Nat.le_trans hlo hb4.size
  have hrd : Rd (w.alloc (.cells #[.string ⟨s.toArray⟩] 9)) (w.heap.size + 1) (some ⟨w.heap.size, 0, none⟩) (strs [s]) := Rd.new w #[.string ⟨s.toArray⟩] 9 (0, 0)
  obtain ⟨v5, w5, hrun, g1, g2, g3⟩ := run_appR (P := Try.prog) _ lo 22 22 9 i _ 1 16 Try.underlying22 hi hz0 hz1 hz2 rfl (by omega) v l.length (strs l) hr4 (w.heap.size + 1) (some ⟨w.heap.size, 0, none⟩) 1 1 (strs [s]) rfl hrd (strs_one _) (by omega) (by omega) hz
  have hb5 : Below lo (w.alloc (.cells #[.string ⟨s.toArray⟩] 9)) w5 := (Below.refl lo _).grown g2 hz (fun k hk => (World.ownsRow.lt hr4 k hk).1)
  have g5 : StrRow lo w5 v5 (l ++ [s]) := by
    unfold StrRow
    rw [strs_app, List.length_append]
    exact g1
  obtain ⟨A5, c5, rfl, k5⟩ := g5.sts (by rw [List.length_append]; simp; omega)
  rw [List.length_append] at hrun g5
  exact ⟨A5, c5, w5, hrun, g5, k5, (lower' hb4 hlo).trans hb5⟩
theorem snoc_len {α : Type} (l : List α) (a : α) : (l ++ [a]).length = l.length + 1 := by simp
theorem varsL_lens (ats : List Atm) (k : Nat) : (varsL (ats.take k)).length ≤ 2 * k := by
  have h1 := varsL_len (ats.take k)
  rw [List.length_take] at h1
  omega
set_option maxRecDepth 100000 in
set_option maxHeartbeats 4000000 in
theorem rvars_any (x : VW) (w : World) (h : x.Ok w) (h12 : x.v.atoms.length ≤ 12) : Calls Try.prog 38 #[.agg (vwA x)] w (VaPost w (varsL x.v.atoms)) := by
  have hb1 : Below w.heap.size w (w.alloc (.cells (vwA x) 25)) := (Below.refl _ _).alloc (Nat.le_refl _) _
  have hg1 := heap_alloc_new w (.cells (vwA x) 25)
  have ha1 := h.ats.below hb1
  unfold vwA at hb1 hg1 ha1 ⊢
  have H0 := Lib.hid (And.intro ha1 (And.intro hb1 hg1))
  clear h hb1 hg1 ha1
  go_enter Try.func38, Try.ntmps38
  go_wp2_with (fail)
  generalize (w.alloc (.cells #[.string ⟨x.v.name.toArray⟩, .int .i64 x.v.kind, .slice x.oA x.v.out.length x.oc, .slice x.aA x.v.atoms.length x.ac, .string ⟨x.v.label.toArray⟩] 25)) = W1 at H0 ⊢
  go_loopw [3, 8] (fun out i wr => ∃ k : Nat, k ≤ x.v.atoms.length ∧ i = .int .i64 (k : Int) ∧ Hid (StrRow W1.heap.size wr out (varsL (x.v.atoms.take k)) ∧ Below W1.heap.size W1 wr)) (fun _ i _ => x.v.atoms.length - (intOf i).toNat)
  case atStart => exact ⟨0, by omega, rfl, Lib.hid ⟨StrRow.nil _ _, Below.refl _ _⟩⟩
  case round =>
    obtain ⟨k, hk, rfl, hrel⟩ := hrel
    have hl24 := varsL_lens x.v.atoms k
    obtain ⟨A3, c3, rfl, hst⟩ := hrel.out.1.sts (by omega)
    by_cases hlt : k < x.v.atoms.length
    · obtain ⟨b, o, hA, hlb, d0, _, d2⟩ := H0.out.1.cell hlt
      have hlI : (k : Int) < (x.v.atoms.length : Int) := by omega
      have hvt := varsL_take hlt
      rw [hA]
      generalize x.v.atoms[k] = y at d0 d2 hvt
      have HC := Lib.hid fun WW (hW : Below W1.heap.size W1 WW) => (⟨(hW.cell (p := ⟨b, o + k * 3, none⟩) hlb).trans d0, (hW.cell (p := ⟨b, o + k * 3 + 2, none⟩) hlb).trans d2, cell_of_row WW w.heap.size 3 _ _ _ ((hW.block _ (heap_lt H0.out.2.2)).trans H0.out.2.2)⟩ : WW.cell? ⟨b, o + k * 3, none⟩ = some (.string ⟨y.fr.toArray⟩) ∧ WW.cell? ⟨b, o + k * 3 + 2, none⟩ = some (.string ⟨y.to.toArray⟩) ∧ WW.cell? ⟨w.heap.size, 3, none⟩ = some (.slice x.aA x.v.atoms.length x.ac))
      rw [hA] at HC
      generalize varsL (x.v.atoms.take k) = vs at hrel hst hvt hl24 ⊢
      have HV := Lib.hid hvt
      have HR := Lib.hid (And.intro hrel.out.1 (And.intro hrel.out.2 hst))
      clear d0 d2 hvt hrel hst
      obtain ⟨c0, c2, q3⟩ := HC.out wr HR.out.2.1
      have hz := HR.out.2.1.size
      by_cases m1 : y.fr ∈ vs
      · have e1 : addV vs y.fr = vs := by unfold addV; rw [if_pos m1]
        have h1 := has_any A3 c3 vs y.fr wr HR.out.2.2
        rw [decide_eq_true m1] at h1
        have HH1 := Lib.hid h1
        clear h1 m1
        by_cases m2 : y.to ∈ vs
        · have e2 : addV vs y.to = vs := by unfold addV; rw [if_pos m2]
          have h2 := has_any A3 c3 vs y.to wr HR.out.2.2
          rw [decide_eq_true m2] at h2
          have HH2 := Lib.hid h2
          have HN := Lib.hid (show varsL (x.v.atoms.take (k + 1)) = vs from by rw [HV.out]; unfold vars1; rw [e1, e2])
          clear h2 m2 e1 e2 hz
          go_wp2_with (first
            | (go_at_call 66; (with_reducible refine HH1.out.mono ?_); rintro e w4 ⟨rfl, rfl⟩)
            | (go_at_call 66; (with_reducible refine HH2.out.mono ?_); rintro e w4 ⟨rfl, rfl⟩))
          go_roundw
          case rel => exact ⟨k + 1, by omega, by go_num, Lib.hid (by rw [HN.out]; exact ⟨HR.out.1, HR.out.2.1⟩)⟩
          case measure => simp [intOf]; omega
        · have e2 : addV vs y.to = vs ++ [y.to] := by unfold addV; rw [if_neg m2]
          have h2 := has_any A3 c3 vs y.to wr HR.out.2.2
          rw [decide_eq_false m2] at h2
          have HH2 := Lib.hid h2
          have HN := Lib.hid (show varsL (x.v.atoms.take (k + 1)) = vs ++ [y.to] from by rw [HV.out]; unfold vars1; rw [e1, e2])
          obtain ⟨A5, c5, w5, hrun, g5, _, b5⟩ := HR.out.1.push y.to (by omega) hz
          have H5 := Lib.hid (And.intro g5 (HR.out.2.1.trans b5))
          clear h2 m2 e1 e2 hz g5 b5
          go_wp2_with (first
            | (go_at_call 66; (with_reducible refine HH1.out.mono ?_); rintro e w4 ⟨rfl, rfl⟩)
            | (go_at_call 66; (with_reducible refine HH2.out.mono ?_); rintro e w4 ⟨rfl, rfl⟩)
            | (at_builtin; refine wpL_appK _ rfl (.tmp 38) (.tmp 45) 22 rfl rfl _ _ _ _ rfl rfl hrun ?_))
          go_roundw
          case rel => exact ⟨k + 1, by omega, by go_num, Lib.hid (by rw [HN.out]; exact H5.out)⟩
          case measure => simp [intOf]; omega
      · have e1 : addV vs y.fr = vs ++ [y.fr] := by unfold addV; rw [if_neg m1]
        have h1 := has_any A3 c3 vs y.fr wr HR.out.2.2
        rw [decide_eq_false m1] at h1
        have HH1 := Lib.hid h1
        obtain ⟨A5, c5, w5, hrun, g5, k5, b5⟩ := HR.out.1.push y.fr (by omega) hz
        have hbw := HR.out.2.1.trans b5
        have hz5 := hbw.size
        obtain ⟨i0, i2, r3⟩ := HC.out w5 hbw
        clear h1 m1
        by_cases m2 : y.to ∈ vs ++ [y.fr]
        · have e2 : addV (vs ++ [y.fr]) y.to = vs ++ [y.fr] := by unfold addV; rw [if_pos m2]
          have h2 := has_any A5 c5 (vs ++ [y.fr]) y.to w5 k5
          rw [snoc_len] at h2
          rw [decide_eq_true m2] at h2
          have HH2 := Lib.hid h2
          have HN := Lib.hid (show varsL (x.v.atoms.take (k + 1)) = vs ++ [y.fr] from by rw [HV.out]; unfold vars1; rw [e1, e2])
          have H5 := Lib.hid (And.intro g5 hbw)
          clear h2 m2 e1 e2 hz g5 b5 k5 hbw hz5
          go_wp2_with (first
            | (go_at_call 66; (with_reducible refine HH1.out.mono ?_); rintro e w4 ⟨rfl, rfl⟩)
            | (go_at_call 66; (with_reducible refine HH2.out.mono ?_); rintro e w4 ⟨rfl, rfl⟩)
            | (at_builtin; refine wpL_appK _ rfl (.tmp 20) (.tmp 27) 22 rfl rfl _ _ _ _ rfl rfl hrun ?_))
          go_roundw
          case rel => exact ⟨k + 1, by omega, by go_num, Lib.hid (by rw [HN.out]; exact H5.out)⟩
          case measure => simp [intOf]; omega
        · have e2 : addV (vs ++ [y.fr]) y.to = vs ++ [y.fr] ++ [y.to] := by unfold addV; rw [if_neg m2]
          have h2 := has_any A5 c5 (vs ++ [y.fr]) y.to w5 k5
          rw [snoc_len] at h2
          rw [decide_eq_false m2] at h2
          have HH2 := Lib.hid h2
          have HN := Lib.hid (show varsL (x.v.atoms.take (k + 1)) = vs ++ [y.fr] ++ [y.to] from by rw [HV.out]; unfold vars1; rw [e1, e2])
          obtain ⟨A6, c6, w6, hrun6, g6, _, b6⟩ := g5.push y.to (by rw [List.length_append]; simp; omega) hz5
          rw [snoc_len] at hrun6 g6
          have H5 := Lib.hid (And.intro g6 (hbw.trans b6))
          clear h2 m2 e1 e2 hz g5 b5 k5 hbw hz5 g6 b6
          go_wp2_with (first
            | (go_at_call 66; (with_reducible refine HH1.out.mono ?_); rintro e w4 ⟨rfl, rfl⟩)
            | (go_at_call 66; (with_reducible refine HH2.out.mono ?_); rintro e w4 ⟨rfl, rfl⟩)
            | (at_builtin; refine wpL_appK _ rfl (.tmp 20) (.tmp 27) 22 rfl rfl _ _ _ _ rfl rfl hrun ?_)
            | (at_builtin; refine wpL_appK _ rfl (.tmp 38) (.tmp 45) 22 rfl rfl _ _ _ _ rfl rfl hrun6 ?_))
          go_roundw
          case rel => exact ⟨k + 1, by omega, by go_num, Lib.hid (by rw [HN.out]; exact H5.out)⟩
          case measure => simp [intOf]; omega
    · obtain rfl : k = x.v.atoms.length := by omega
      have hlI : ¬ (x.v.atoms.length : Int) < (x.v.atoms.length : Int) := by omega
      have hr := hrel.out.1
      rw [List.take_length] at hr hst ⊢
      have HF := Lib.hid (And.intro hr (And.intro hst hrel.out.2))
      clear hr hst hrel
      go_wp2_with (fail)
      go_ret
      exact ⟨A3, c3, rfl, own_mono HF.out.1 H0.out.2.1.size, HF.out.2.1, H0.out.2.1.trans (lower' HF.out.2.2 H0.out.2.1.size)⟩
end Go.Proofs.Ytgldcahhliokeaa
