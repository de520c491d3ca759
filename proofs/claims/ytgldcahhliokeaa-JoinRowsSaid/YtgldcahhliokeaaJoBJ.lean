/- The document's Good, of a view of kind 1. -/
import Derived.Test.YtgldcahhliokeaaJoBI
import Derived.Test.YtgldcahhliokeaaJoBG0
namespace Go.Proofs.Ytgldcahhliokeaa
open Go.RowKit Go.Maps

theorem atOk_all {a : Atm} : atOk a = (isNm a.fr && (isNm a.lab && isNm a.to)) := by unfold atOk; rw [Bool.and_assoc]
theorem good_nm {v : Vw} (h : isNm v.name = false) : goodP v = false := by unfold goodP; rw [h]; rfl
theorem good_lab {v : Vw} (h : v.label ≠ []) : goodP v = false := by
  unfold goodP patOk
  rw [decide_eq_false h]; simp
theorem good_out {v : Vw} (h : ¬ (1 ≤ v.out.length ∧ v.out.length ≤ 6)) : goodP v = false := by
  have : outsOk v.out v.atoms = false := by
    unfold outsOk
    by_cases h1 : 1 ≤ v.out.length
    · rw [decide_eq_false (show ¬ v.out.length ≤ 6 by omega)]; simp
    · rw [decide_eq_false h1]; simp
  unfold goodP patOk
  rw [this]; simp
theorem good_ats {v : Vw} (h : ¬ (1 ≤ v.atoms.length ∧ v.atoms.length ≤ 8)) : goodP v = false := by
  have : atsOk v.atoms = false := by
    unfold atsOk
    by_cases h1 : 1 ≤ v.atoms.length
    · rw [decide_eq_false (show ¬ v.atoms.length ≤ 8 by omega)]; simp
    · rw [decide_eq_false h1]; simp
  unfold goodP patOk
  rw [this]; simp
theorem good_rest {v : Vw} (h0 : v.kind = 1) (h1 : isNm v.name = true) (h2 : v.label = []) (h3 : 1 ≤ v.out.length ∧ v.out.length ≤ 6) (h4 : 1 ≤ v.atoms.length ∧ v.atoms.length ≤ 8) : goodP v = (v.atoms.all atOk && outsGo v.atoms [] v.out) := by
  unfold goodP patOk atsOk outsOk
  rw [h0, h1, h2, decide_eq_true h3.1, decide_eq_true h3.2, decide_eq_true h4.1, decide_eq_true h4.2]
  simp
set_option maxRecDepth 100000 in
set_option maxHeartbeats 8000000 in
theorem good_any (x : VW) (w : World) (hx : x.Ok w) (hl : x.v.Lens) (hk1 : x.v.kind = 1) : Calls Try.prog 37 #[.agg (vwA x)] w fun e w' => e = .returned (.bool (goodP x.v)) ∧ Below w.heap.size w w' := by
  have hb1 : Below w.heap.size w (w.alloc (.cells (vwA x) 25)) := (Below.refl _ _).alloc (Nat.le_refl _) _
  have hg1 := heap_alloc_new w (.cells (vwA x) 25)
  have hn := fun W => name_any x.v.name W hl.name
  obtain ⟨R, hR⟩ : ∃ R, R = goodP x.v := ⟨_, rfl⟩
  rw [← hR]
  unfold vwA at hb1 hg1 ⊢
  rw [hk1] at hb1 hg1 ⊢
  have HR := Lib.hid (And.intro hR hk1)
  have HX := Lib.hid (And.intro hx hl)
  have HB := Lib.hid (And.intro hb1 hg1)
  have oS := hx.out.sm
  have aS := hx.ats.sm
  clear hR hk1 hx hl hb1 hg1
  cases h1 : isNm x.v.name with
  | false =>
    have HF := Lib.hid (show R = false from by rw [HR.out.1]; exact good_nm h1)
    rw [h1] at hn
    have HN := Lib.hid hn
    clear h1 hn
    go_enter Try.func37, Try.ntmps37
    go_wp2_with (go_at_call 47; (with_reducible refine (HN.out _).mono ?_); rintro e w2 ⟨rfl, rfl⟩)
    go_ret
    exact ⟨by rw [HF.out]; rfl, HB.out.1⟩
  | true =>
    rw [h1] at hn
    have HN := Lib.hid hn
    have H1 := Lib.hid h1
    clear h1 hn
    by_cases h2 : x.v.label = []
    · rw [h2] at HB ⊢
      by_cases h3 : x.v.out.length < 1
      · have HF := Lib.hid (show R = false from by rw [HR.out.1]; exact good_out (by omega))
        have i3 : (x.v.out.length : Int) < 1 := by omega
        clear h2 h3
        go_enter Try.func37, Try.ntmps37
        go_wp2_with (go_at_call 47; (with_reducible refine (HN.out _).mono ?_); rintro e w2 ⟨rfl, rfl⟩)
        go_ret
        exact ⟨by rw [HF.out]; rfl, HB.out.1⟩
      · have i3 : ¬ (x.v.out.length : Int) < 1 := by omega
        by_cases h4 : 6 < x.v.out.length
        · have HF := Lib.hid (show R = false from by rw [HR.out.1]; exact good_out (by omega))
          have i4 : (6 : Int) < (x.v.out.length : Int) := by omega
          clear h2 h3 h4
          go_enter Try.func37, Try.ntmps37
          go_wp2_with (go_at_call 47; (with_reducible refine (HN.out _).mono ?_); rintro e w2 ⟨rfl, rfl⟩)
          go_ret
          exact ⟨by rw [HF.out]; rfl, HB.out.1⟩
        · have i4 : ¬ (6 : Int) < (x.v.out.length : Int) := by omega
          by_cases h5 : x.v.atoms.length < 1
          · have HF := Lib.hid (show R = false from by rw [HR.out.1]; exact good_ats (by omega))
            have i5 : (x.v.atoms.length : Int) < 1 := by omega
            clear h2 h3 h4 h5
            go_enter Try.func37, Try.ntmps37
            go_wp2_with (go_at_call 47; (with_reducible refine (HN.out _).mono ?_); rintro e w2 ⟨rfl, rfl⟩)
            go_ret
            exact ⟨by rw [HF.out]; rfl, HB.out.1⟩
          · have i5 : ¬ (x.v.atoms.length : Int) < 1 := by omega
            by_cases h6 : 8 < x.v.atoms.length
            · have HF := Lib.hid (show R = false from by rw [HR.out.1]; exact good_ats (by omega))
              have i6 : (8 : Int) < (x.v.atoms.length : Int) := by omega
              clear h2 h3 h4 h5 h6
              go_enter Try.func37, Try.ntmps37
              go_wp2_with (go_at_call 47; (with_reducible refine (HN.out _).mono ?_); rintro e w2 ⟨rfl, rfl⟩)
              go_ret
              exact ⟨by rw [HF.out]; rfl, HB.out.1⟩
            · have i6 : ¬ (8 : Int) < (x.v.atoms.length : Int) := by omega
              have HG := Lib.hid (show R = (x.v.atoms.all atOk && outsGo x.v.atoms [] x.v.out) from by rw [HR.out.1]; exact good_rest HR.out.2 H1.out h2 (by omega) (by omega))
              have H61 := Lib.hid (And.intro HR.out.2 h2)
              have h6k := H61.out.1
              have hlb0 := H61.out.2
              have HKL := Lib.hid (And.intro h6k hlb0)
              clear h2 h3 h4 h5 HR H61 h6k hlb0
              go_enter Try.func37, Try.ntmps37
              go_wp2_with (go_at_call 47; (with_reducible refine (HN.out _).mono ?_); rintro e w2 ⟨rfl, rfl⟩)
              generalize (w.alloc (.cells #[.string ⟨x.v.name.toArray⟩, .int .i64 1, .slice x.oA x.v.out.length x.oc, .slice x.aA x.v.atoms.length x.ac, .string ⟨#[]⟩] 25)) = W1 at HB ⊢
              have X1 := Lib.hid (HX.out.1.below HB.out.1)
              go_loopw [63] (fun i wr => ∃ k : Nat, k ≤ x.v.atoms.length ∧ i = .int .i64 (k : Int) ∧ Hid ((x.v.atoms.take k).all atOk = true ∧ Below W1.heap.size W1 wr)) (fun i _ => x.v.atoms.length - (intOf i).toNat)
              case atStart => exact ⟨0, by omega, rfl, Lib.hid ⟨rfl, Below.refl _ _⟩⟩
              case round =>
                obtain ⟨k, hk, rfl, hrel⟩ := hrel
                by_cases hlt : k < x.v.atoms.length
                · obtain ⟨ab, ao, hAA, _, a0, a1, a2⟩ := (X1.out.below hrel.out.2).ats.cell hlt
                  have hkI : (k : Int) < (x.v.atoms.length : Int) := by omega
                  obtain ⟨-, -, -, q3, -⟩ := box5 ((hrel.out.2.block _ (heap_lt HB.out.2)).trans HB.out.2)
                  have hat := all_take (p := atOk) hlt
                  have hpt := all_part (p := atOk) hlt
                  have hln := HX.out.2.ats _ (List.getElem_mem hlt)
                  rw [hrel.out.1, Bool.true_and, atOk_all] at hat
                  rw [atOk_all] at hpt
                  rw [hAA]
                  rw [hAA] at q3
                  generalize x.v.atoms[k] = a at a0 a1 a2 hat hpt hln
                  have hg7 := heap_alloc_new wr (.cells #[.string ⟨a.fr.toArray⟩, .string ⟨a.lab.toArray⟩, .string ⟨a.to.toArray⟩] 69)
                  have hb7 := hrel.out.2.alloc hrel.out.2.size (.cells #[.string ⟨a.fr.toArray⟩, .string ⟨a.lab.toArray⟩, .string ⟨a.to.toArray⟩] 69)
                  obtain ⟨x0, x1, x2⟩ := box3 hg7
                  have n0 := fun W => name_any a.fr W hln.1
                  have n1 := fun W => name_any a.lab W hln.2.1
                  have n2 := fun W => name_any a.to W hln.2.2
                  have B7 := Lib.hid hb7
                  clear hrel hg7 hb7 hln hAA
                  cases e0 : isNm a.fr with
                  | false =>
                    rw [e0] at n0 hpt
                    have N0 := Lib.hid n0
                    clear n0 n1 n2 e0
                    have HF := Lib.hid (show R = false from by rw [HG.out, hpt rfl]; rfl)
                    clear hat hpt
                    go_wp2_with (first
                      | (go_at_call 47; (with_reducible refine (N0.out _).mono ?_); rintro e w2 ⟨rfl, rfl⟩))
                    go_ret
                    exact ⟨by rw [HF.out]; rfl, HB.out.1.trans (lower' B7.out HB.out.1.size)⟩
                  | true =>
                    rw [e0] at n0 hpt hat
                    have N0 := Lib.hid n0
                    rw [Bool.true_and] at hpt hat
                    clear n0 e0
                    cases e1 : isNm a.lab with
                    | false =>
                      rw [e1] at n1 hpt
                      have N1 := Lib.hid n1
                      clear n1 n2 e1
                      have HF := Lib.hid (show R = false from by rw [HG.out, hpt rfl]; rfl)
                      clear hat hpt
                      go_wp2_with (first
                        | (go_at_call 47; (with_reducible refine (N0.out _).mono ?_); rintro e w2 ⟨rfl, rfl⟩)
                        | (go_at_call 47; (with_reducible refine (N1.out _).mono ?_); rintro e w2 ⟨rfl, rfl⟩))
                      go_ret
                      exact ⟨by rw [HF.out]; rfl, HB.out.1.trans (lower' B7.out HB.out.1.size)⟩
                    | true =>
                      rw [e1] at n1 hpt hat
                      have N1 := Lib.hid n1
                      rw [Bool.true_and] at hpt hat
                      clear n1 e1
                      cases e2 : isNm a.to with
                      | false =>
                        rw [e2] at n2 hpt
                        have N2 := Lib.hid n2
                        clear n2 e2
                        have HF := Lib.hid (show R = false from by rw [HG.out, hpt rfl]; rfl)
                        clear hat hpt
                        go_wp2_with (first
                          | (go_at_call 47; (with_reducible refine (N0.out _).mono ?_); rintro e w2 ⟨rfl, rfl⟩)
                          | (go_at_call 47; (with_reducible refine (N1.out _).mono ?_); rintro e w2 ⟨rfl, rfl⟩)
                          | (go_at_call 47; (with_reducible refine (N2.out _).mono ?_); rintro e w2 ⟨rfl, rfl⟩))
                        go_ret
                        exact ⟨by rw [HF.out]; rfl, HB.out.1.trans (lower' B7.out HB.out.1.size)⟩
                      | true =>
                        rw [e2] at n2 hat
                        have N2 := Lib.hid n2
                        have HAT := Lib.hid hat
                        clear n2 e2 hat hpt
                        go_wp2_with (first
                          | (go_at_call 47; (with_reducible refine (N0.out _).mono ?_); rintro e w2 ⟨rfl, rfl⟩)
                          | (go_at_call 47; (with_reducible refine (N1.out _).mono ?_); rintro e w2 ⟨rfl, rfl⟩)
                          | (go_at_call 47; (with_reducible refine (N2.out _).mono ?_); rintro e w2 ⟨rfl, rfl⟩))
                        go_roundw
                        case rel => exact ⟨k + 1, by omega, by go_num, Lib.hid ⟨HAT.out, B7.out⟩⟩
                        case measure => simp [intOf]; omega
                · obtain rfl : k = x.v.atoms.length := by omega
                  have hkI : ¬ (x.v.atoms.length : Int) < (x.v.atoms.length : Int) := by omega
                  have hall := hrel.out.1
                  rw [List.take_length] at hall
                  have HG2 := Lib.hid (show R = outsGo x.v.atoms [] x.v.out from by rw [HG.out, hall, Bool.true_and])
                  obtain ⟨-, -, p2, -, -⟩ := box5 ((hrel.out.2.block _ (heap_lt HB.out.2)).trans HB.out.2)
                  have B2 := Lib.hid hrel.out.2
                  clear hall hrel HG
                  go_wp2_with (fail)
                  go_loopw [91] (fun i wr2 => ∃ k : Nat, k ≤ x.v.out.length ∧ i = .int .i64 (k : Int) ∧ Hid (R = outsGo x.v.atoms (x.v.out.take k) (x.v.out.drop k) ∧ Below W1.heap.size W1 wr2)) (fun i _ => x.v.out.length - (intOf i).toNat)
                  case atStart => exact ⟨0, by omega, rfl, Lib.hid ⟨HG2.out, B2.out⟩⟩
                  case round =>
                    obtain ⟨k, hk, rfl, hrel⟩ := hrel
                    by_cases hlt : k < x.v.out.length
                    · obtain ⟨ob, oo, hOA, hob, o0⟩ := (X1.out.below hrel.out.2).out.cell hlt
                      have hkI : (k : Int) < (x.v.out.length : Int) := by omega
                      have hkc : k ≤ x.oc := by have := X1.out.out.cap; omega
                      have hd := List.drop_eq_getElem_cons (l := x.v.out) (i := k) hlt
                      have htk := List.take_succ_eq_append_getElem hlt
                      have hgo := hrel.out.1
                      rw [hd] at hgo
                      unfold outsGo at hgo
                      rw [← htk] at hgo
                      have hbox := (hrel.out.2.block _ (heap_lt HB.out.2)).trans HB.out.2
                      rw [hOA] at hbox
                      have hst := ((X1.out.below hrel.out.2).out.take k)
                      have hlk : (x.v.out.take k).length = k := by rw [List.length_take]; omega
                      have hc1 := fun W (hW : Below wr.heap.size wr W) => has_any x.oA x.oc (x.v.out.take k) x.v.out[k] W (hst.below hW)
                      rw [hlk, hOA] at hc1
                      have hvs := fun W (hW : Below wr.heap.size wr W) => rvars_any x W ((X1.out.below hrel.out.2).below hW) (by omega)
                      unfold vwA at hvs
                      rw [HKL.out.1, HKL.out.2, hOA] at hvs
                      rw [hOA]
                      generalize x.v.out[k] = o at o0 hgo hc1
                      generalize hpre : x.v.out.take k = pre at hgo hc1 hrel
                      have KS := Lib.hid fun WW (hW : Below wr.heap.size wr WW) => (⟨box5 ((hW.block _ (heap_lt hbox)).trans hbox), (hW.cell (p := ⟨ob, oo + k, none⟩) hob).trans o0⟩ : (WW.cell? ⟨w.heap.size, 0, none⟩ = some (.string ⟨x.v.name.toArray⟩) ∧ WW.cell? ⟨w.heap.size, 1, none⟩ = some (.int .i64 1) ∧ WW.cell? ⟨w.heap.size, 2, none⟩ = some (.slice (some ⟨ob, oo, none⟩) x.v.out.length x.oc) ∧ WW.cell? ⟨w.heap.size, 3, none⟩ = some (.slice x.aA x.v.atoms.length x.ac) ∧ WW.cell? ⟨w.heap.size, 4, none⟩ = some (.string ⟨#[]⟩)) ∧ WW.cell? ⟨ob, oo + k, none⟩ = some (.string ⟨o.toArray⟩))
                      have BB := Lib.hid hrel.out.2
                      have HVS := Lib.hid hvs
                      clear hd htk hbox hst hlk hvs hOA hob o0 hrel hpre
                      cases e1 : decide (o ∈ pre) with
                      | true =>
                        simp only [e1] at hc1
                        have HF := Lib.hid (show R = false from by rw [hgo, e1]; rfl)
                        have HC1 := Lib.hid hc1
                        clear hc1 hgo e1
                        go_upto_region 17 with (fail)
                        have hS0 := KS.out wr.drew (Below.refl _ _).drew
                        refine wp_region_M (fun _ => true) (fun w' => (w'.cell? ⟨w.heap.size, 0, none⟩ = some (.string ⟨x.v.name.toArray⟩) ∧ w'.cell? ⟨w.heap.size, 1, none⟩ = some (.int .i64 1) ∧ w'.cell? ⟨w.heap.size, 2, none⟩ = some (.slice (some ⟨ob, oo, none⟩) x.v.out.length x.oc) ∧ w'.cell? ⟨w.heap.size, 3, none⟩ = some (.slice x.aA x.v.atoms.length x.ac) ∧ w'.cell? ⟨w.heap.size, 4, none⟩ = some (.string ⟨#[]⟩)) ∧ w'.cell? ⟨ob, oo + k, none⟩ = some (.string ⟨o.toArray⟩)) (by kernel_rfl) ?_
                        refine wpAnyM_take (i := 0) (v := ?_) rfl (by kernel_rfl) (by kernel_rfl) (by kernel_rfl) (by kernel_rfl) (fun _ _ _ h => h) (Or.inl ⟨by rfl, ?_⟩) hS0 ?_
                        rotate_left
                        · intro w hSw; (try dsimp only at hSw); go_simp; (try with_reducible rfl)
                        simp only [Act.put, List.getElem_toArray, List.getElem_cons_zero, List.getElem_cons_succ, List.setIfInBounds_toArray, List.set_cons_zero, List.set_cons_succ]
                        refine wpAnyM_take (i := 1) (v := ?_) rfl (by kernel_rfl) (by kernel_rfl) (by kernel_rfl) (by kernel_rfl) (fun _ _ _ h => h) (Or.inl ⟨by rfl, ?_⟩) hS0 ?_
                        rotate_left
                        · intro w hSw; (try dsimp only at hSw); go_simp; (try with_reducible rfl)
                        simp only [Act.put, List.getElem_toArray, List.getElem_cons_zero, List.getElem_cons_succ, List.setIfInBounds_toArray, List.set_cons_zero, List.set_cons_succ]
                        refine wpAnyM_take (i := 2) (v := ?_) rfl (by kernel_rfl) (by kernel_rfl) (by kernel_rfl) (by kernel_rfl) (fun _ _ _ h => h) (Or.inl ⟨by rfl, ?_⟩) hS0 ?_
                        rotate_left
                        · intro w hSw; (try dsimp only at hSw); go_simp; (try with_reducible rfl)
                        simp only [Act.put, List.getElem_toArray, List.getElem_cons_zero, List.getElem_cons_succ, List.setIfInBounds_toArray, List.set_cons_zero, List.set_cons_succ]
                        refine wpAnyM_take (i := 3) (v := ?_) rfl (by kernel_rfl) (by kernel_rfl) (by kernel_rfl) (by kernel_rfl) (fun _ _ _ h => h) (Or.inl ⟨by rfl, ?_⟩) hS0 ?_
                        rotate_left
                        · intro w hSw; (try dsimp only at hSw); go_simp; (try with_reducible rfl)
                        simp only [Act.put, List.getElem_toArray, List.getElem_cons_zero, List.getElem_cons_succ, List.setIfInBounds_toArray, List.set_cons_zero, List.set_cons_succ]
                        refine wpAnyM_take (i := 4) (v := ?_) rfl (by kernel_rfl) (by kernel_rfl) (by kernel_rfl) (by kernel_rfl) (fun _ _ _ h => h) (Or.inl ⟨by rfl, ?_⟩) hS0 ?_
                        rotate_left
                        · intro w hSw; (try dsimp only at hSw); go_simp; (try with_reducible rfl)
                        simp only [Act.put, List.getElem_toArray, List.getElem_cons_zero, List.getElem_cons_succ, List.setIfInBounds_toArray, List.set_cons_zero, List.set_cons_succ]
                        refine wpAnyM_take (i := 5) (v := ?_) rfl (by kernel_rfl) (by kernel_rfl) (by kernel_rfl) (by kernel_rfl) (fun _ _ _ h => h) (Or.inl ⟨by rfl, ?_⟩) hS0 ?_
                        rotate_left
                        · intro w hSw; (try dsimp only at hSw); go_simp; (try with_reducible rfl)
                        simp only [Act.put, List.getElem_toArray, List.getElem_cons_zero, List.getElem_cons_succ, List.setIfInBounds_toArray, List.set_cons_zero, List.set_cons_succ]
                        refine wpAnyM_take (i := 6) (v := ?_) rfl (by kernel_rfl) (by kernel_rfl) (by kernel_rfl) (by kernel_rfl) (fun _ _ _ h => h) (Or.inl ⟨by rfl, ?_⟩) hS0 ?_
                        rotate_left
                        · intro w hSw; (try dsimp only at hSw); go_simp; (try with_reducible rfl)
                        simp only [Act.put, List.getElem_toArray, List.getElem_cons_zero, List.getElem_cons_succ, List.setIfInBounds_toArray, List.set_cons_zero, List.set_cons_succ]
                        refine wpAnyM_take (i := 7) (v := ?_) rfl (by kernel_rfl) (by kernel_rfl) (by kernel_rfl) (by kernel_rfl) (fun _ _ _ h => h) (Or.inl ⟨by rfl, ?_⟩) hS0 ?_
                        rotate_left
                        · intro w hSw; (try dsimp only at hSw); go_simp; (try with_reducible rfl)
                        simp only [Act.put, List.getElem_toArray, List.getElem_cons_zero, List.getElem_cons_succ, List.setIfInBounds_toArray, List.set_cons_zero, List.set_cons_succ]
                        refine wpAnyM_take (i := 8) (v := ?_) rfl (by kernel_rfl) (by kernel_rfl) (by kernel_rfl) (by kernel_rfl) (fun _ _ _ h => h) (Or.inl ⟨by rfl, ?_⟩) hS0 ?_
                        rotate_left
                        · intro w hSw; (try dsimp only at hSw); go_simp; (try with_reducible rfl)
                        simp only [Act.put, List.getElem_toArray, List.getElem_cons_zero, List.getElem_cons_succ, List.setIfInBounds_toArray, List.set_cons_zero, List.set_cons_succ]
                        refine wpAnyM_one (i := 9) (by kernel_rfl) rfl (fun K hK => ?_)
                        go_simp
                        go_wp2_with (go_at_call 66; (with_reducible refine (HC1.out _ (Below.refl _ _).drew).mono ?_); rintro e w4 ⟨rfl, rfl⟩)
                        refine hK.out _ _ (fun _ => hS0) ?_
                        clear hK K
                        refine wpAnyM_take (i := 10) (v := ?_) rfl (by kernel_rfl) (by kernel_rfl) (by kernel_rfl) (by kernel_rfl) (fun _ _ _ h => h) (Or.inl ⟨by rfl, ?_⟩) hS0 ?_
                        rotate_left
                        · intro w hSw; (try dsimp only at hSw); go_simp; (try with_reducible rfl)
                        simp only [Act.put, List.getElem_toArray, List.getElem_cons_zero, List.getElem_cons_succ, List.setIfInBounds_toArray, List.set_cons_zero, List.set_cons_succ]
                        refine wpAnyM_take (i := 11) (v := undef) rfl (by kernel_rfl) (by kernel_rfl) (by kernel_rfl) (by kernel_rfl) (fun _ _ _ h => h) (Or.inr ⟨by rfl, rfl⟩) hS0 ?_
                        simp only [Act.put, List.getElem_toArray, List.getElem_cons_zero, List.getElem_cons_succ, List.setIfInBounds_toArray, List.set_cons_zero, List.set_cons_succ]
                        refine wpAnyM_take (i := 13) (v := undef) rfl (by kernel_rfl) (by kernel_rfl) (by kernel_rfl) (by kernel_rfl) (fun _ _ _ h => h) (Or.inr ⟨by rfl, rfl⟩) hS0 ?_
                        simp only [Act.put, List.getElem_toArray, List.getElem_cons_zero, List.getElem_cons_succ, List.setIfInBounds_toArray, List.set_cons_zero, List.set_cons_succ]
                        refine wpAnyM_take (i := 15) (v := undef) rfl (by kernel_rfl) (by kernel_rfl) (by kernel_rfl) (by kernel_rfl) (fun _ _ _ h => h) (Or.inr ⟨by rfl, rfl⟩) hS0 ?_
                        simp only [Act.put, List.getElem_toArray, List.getElem_cons_zero, List.getElem_cons_succ, List.setIfInBounds_toArray, List.set_cons_zero, List.set_cons_succ]
                        refine wpAnyM_take (i := 12) (v := undef) rfl (by kernel_rfl) (by kernel_rfl) (by kernel_rfl) (by kernel_rfl) (fun _ _ _ h => h) (Or.inr ⟨by rfl, rfl⟩) hS0 ?_
                        simp only [Act.put, List.getElem_toArray, List.getElem_cons_zero, List.getElem_cons_succ, List.setIfInBounds_toArray, List.set_cons_zero, List.set_cons_succ]
                        refine wpAnyM_take (i := 14) (v := undef) rfl (by kernel_rfl) (by kernel_rfl) (by kernel_rfl) (by kernel_rfl) (fun _ _ _ h => h) (Or.inr ⟨by rfl, rfl⟩) hS0 ?_
                        simp only [Act.put, List.getElem_toArray, List.getElem_cons_zero, List.getElem_cons_succ, List.setIfInBounds_toArray, List.set_cons_zero, List.set_cons_succ]
                        refine wpAnyM_take (i := 16) (v := undef) rfl (by kernel_rfl) (by kernel_rfl) (by kernel_rfl) (by kernel_rfl) (fun _ _ _ h => h) (Or.inr ⟨by rfl, rfl⟩) hS0 ?_
                        simp only [Act.put, List.getElem_toArray, List.getElem_cons_zero, List.getElem_cons_succ, List.setIfInBounds_toArray, List.set_cons_zero, List.set_cons_succ]
                        refine wpAnyM_take (i := 17) (v := undef) rfl (by kernel_rfl) (by kernel_rfl) (by kernel_rfl) (by kernel_rfl) (fun _ _ _ h => h) (Or.inr ⟨by rfl, rfl⟩) hS0 ?_
                        simp only [Act.put, List.getElem_toArray, List.getElem_cons_zero, List.getElem_cons_succ, List.setIfInBounds_toArray, List.set_cons_zero, List.set_cons_succ]
                        refine wpAnyM_take (i := 18) (v := undef) rfl (by kernel_rfl) (by kernel_rfl) (by kernel_rfl) (by kernel_rfl) (fun _ _ _ h => h) (Or.inr ⟨by rfl, rfl⟩) hS0 ?_
                        simp only [Act.put, List.getElem_toArray, List.getElem_cons_zero, List.getElem_cons_succ, List.setIfInBounds_toArray, List.set_cons_zero, List.set_cons_succ]
                        refine wpAnyM_take (i := 19) (v := undef) rfl (by kernel_rfl) (by kernel_rfl) (by kernel_rfl) (by kernel_rfl) (fun _ _ _ h => h) (Or.inr ⟨by rfl, rfl⟩) hS0 ?_
                        simp only [Act.put, List.getElem_toArray, List.getElem_cons_zero, List.getElem_cons_succ, List.setIfInBounds_toArray, List.set_cons_zero, List.set_cons_succ]
                        refine wpAnyM_take (i := 20) (v := ?_) rfl (by kernel_rfl) (by kernel_rfl) (by kernel_rfl) (by kernel_rfl) (fun _ _ _ h => h) (Or.inl ⟨by rfl, ?_⟩) hS0 ?_
                        rotate_left
                        · intro w hSw; (try dsimp only at hSw); go_simp; (try with_reducible rfl)
                        simp only [Act.put, List.getElem_toArray, List.getElem_cons_zero, List.getElem_cons_succ, List.setIfInBounds_toArray, List.set_cons_zero, List.set_cons_succ]
                        refine wpAnyM_done (by kernel_rfl) ?_ _
                        go_wp2_with (fail)
                        go_ret
                        exact ⟨by rw [HF.out]; rfl, HB.out.1.trans (lower' BB.out.drew HB.out.1.size)⟩
                      | false =>
                        simp only [e1] at hc1
                        rw [e1] at hgo
                        have HC1 := Lib.hid hc1
                        clear hc1 e1
                        cases e2 : decide (o ∈ varsL x.v.atoms) with
                        | false =>
                          have HF := Lib.hid (show R = false from by rw [hgo, show boundB x.v.atoms o = false from by rw [Bool.eq_false_iff]; intro h; have := boundB_iff.1 h; rw [decide_eq_false_iff_not] at e2; exact e2 this]; rfl)
                          clear hgo
                          go_upto_region 17 with (fail)
                          have hS0 := KS.out wr.drew (Below.refl _ _).drew
                          refine wp_region_M (fun _ => true) (fun w' => (w'.cell? ⟨w.heap.size, 0, none⟩ = some (.string ⟨x.v.name.toArray⟩) ∧ w'.cell? ⟨w.heap.size, 1, none⟩ = some (.int .i64 1) ∧ w'.cell? ⟨w.heap.size, 2, none⟩ = some (.slice (some ⟨ob, oo, none⟩) x.v.out.length x.oc) ∧ w'.cell? ⟨w.heap.size, 3, none⟩ = some (.slice x.aA x.v.atoms.length x.ac) ∧ w'.cell? ⟨w.heap.size, 4, none⟩ = some (.string ⟨#[]⟩)) ∧ w'.cell? ⟨ob, oo + k, none⟩ = some (.string ⟨o.toArray⟩)) (by kernel_rfl) ?_
                          refine wpAnyM_take (i := 0) (v := ?_) rfl (by kernel_rfl) (by kernel_rfl) (by kernel_rfl) (by kernel_rfl) (fun _ _ _ h => h) (Or.inl ⟨by rfl, ?_⟩) hS0 ?_
                          rotate_left
                          · intro w hSw; (try dsimp only at hSw); go_simp; (try with_reducible rfl)
                          simp only [Act.put, List.getElem_toArray, List.getElem_cons_zero, List.getElem_cons_succ, List.setIfInBounds_toArray, List.set_cons_zero, List.set_cons_succ]
                          refine wpAnyM_take (i := 1) (v := ?_) rfl (by kernel_rfl) (by kernel_rfl) (by kernel_rfl) (by kernel_rfl) (fun _ _ _ h => h) (Or.inl ⟨by rfl, ?_⟩) hS0 ?_
                          rotate_left
                          · intro w hSw; (try dsimp only at hSw); go_simp; (try with_reducible rfl)
                          simp only [Act.put, List.getElem_toArray, List.getElem_cons_zero, List.getElem_cons_succ, List.setIfInBounds_toArray, List.set_cons_zero, List.set_cons_succ]
                          refine wpAnyM_take (i := 2) (v := ?_) rfl (by kernel_rfl) (by kernel_rfl) (by kernel_rfl) (by kernel_rfl) (fun _ _ _ h => h) (Or.inl ⟨by rfl, ?_⟩) hS0 ?_
                          rotate_left
                          · intro w hSw; (try dsimp only at hSw); go_simp; (try with_reducible rfl)
                          simp only [Act.put, List.getElem_toArray, List.getElem_cons_zero, List.getElem_cons_succ, List.setIfInBounds_toArray, List.set_cons_zero, List.set_cons_succ]
                          refine wpAnyM_take (i := 3) (v := ?_) rfl (by kernel_rfl) (by kernel_rfl) (by kernel_rfl) (by kernel_rfl) (fun _ _ _ h => h) (Or.inl ⟨by rfl, ?_⟩) hS0 ?_
                          rotate_left
                          · intro w hSw; (try dsimp only at hSw); go_simp; (try with_reducible rfl)
                          simp only [Act.put, List.getElem_toArray, List.getElem_cons_zero, List.getElem_cons_succ, List.setIfInBounds_toArray, List.set_cons_zero, List.set_cons_succ]
                          refine wpAnyM_take (i := 4) (v := ?_) rfl (by kernel_rfl) (by kernel_rfl) (by kernel_rfl) (by kernel_rfl) (fun _ _ _ h => h) (Or.inl ⟨by rfl, ?_⟩) hS0 ?_
                          rotate_left
                          · intro w hSw; (try dsimp only at hSw); go_simp; (try with_reducible rfl)
                          simp only [Act.put, List.getElem_toArray, List.getElem_cons_zero, List.getElem_cons_succ, List.setIfInBounds_toArray, List.set_cons_zero, List.set_cons_succ]
                          refine wpAnyM_take (i := 5) (v := ?_) rfl (by kernel_rfl) (by kernel_rfl) (by kernel_rfl) (by kernel_rfl) (fun _ _ _ h => h) (Or.inl ⟨by rfl, ?_⟩) hS0 ?_
                          rotate_left
                          · intro w hSw; (try dsimp only at hSw); go_simp; (try with_reducible rfl)
                          simp only [Act.put, List.getElem_toArray, List.getElem_cons_zero, List.getElem_cons_succ, List.setIfInBounds_toArray, List.set_cons_zero, List.set_cons_succ]
                          refine wpAnyM_take (i := 6) (v := ?_) rfl (by kernel_rfl) (by kernel_rfl) (by kernel_rfl) (by kernel_rfl) (fun _ _ _ h => h) (Or.inl ⟨by rfl, ?_⟩) hS0 ?_
                          rotate_left
                          · intro w hSw; (try dsimp only at hSw); go_simp; (try with_reducible rfl)
                          simp only [Act.put, List.getElem_toArray, List.getElem_cons_zero, List.getElem_cons_succ, List.setIfInBounds_toArray, List.set_cons_zero, List.set_cons_succ]
                          refine wpAnyM_take (i := 7) (v := ?_) rfl (by kernel_rfl) (by kernel_rfl) (by kernel_rfl) (by kernel_rfl) (fun _ _ _ h => h) (Or.inl ⟨by rfl, ?_⟩) hS0 ?_
                          rotate_left
                          · intro w hSw; (try dsimp only at hSw); go_simp; (try with_reducible rfl)
                          simp only [Act.put, List.getElem_toArray, List.getElem_cons_zero, List.getElem_cons_succ, List.setIfInBounds_toArray, List.set_cons_zero, List.set_cons_succ]
                          refine wpAnyM_take (i := 8) (v := ?_) rfl (by kernel_rfl) (by kernel_rfl) (by kernel_rfl) (by kernel_rfl) (fun _ _ _ h => h) (Or.inl ⟨by rfl, ?_⟩) hS0 ?_
                          rotate_left
                          · intro w hSw; (try dsimp only at hSw); go_simp; (try with_reducible rfl)
                          simp only [Act.put, List.getElem_toArray, List.getElem_cons_zero, List.getElem_cons_succ, List.setIfInBounds_toArray, List.set_cons_zero, List.set_cons_succ]
                          refine wpAnyM_one (i := 9) (by kernel_rfl) rfl (fun K hK => ?_)
                          go_simp
                          go_wp2_with (go_at_call 66; (with_reducible refine (HC1.out _ (Below.refl _ _).drew).mono ?_); rintro e w4 ⟨rfl, rfl⟩)
                          refine hK.out _ _ (fun _ => hS0) ?_
                          clear hK K
                          refine wpAnyM_take (i := 10) (v := ?_) rfl (by kernel_rfl) (by kernel_rfl) (by kernel_rfl) (by kernel_rfl) (fun _ _ _ h => h) (Or.inl ⟨by rfl, ?_⟩) hS0 ?_
                          rotate_left
                          · intro w hSw; (try dsimp only at hSw); go_simp; (try with_reducible rfl)
                          simp only [Act.put, List.getElem_toArray, List.getElem_cons_zero, List.getElem_cons_succ, List.setIfInBounds_toArray, List.set_cons_zero, List.set_cons_succ]
                          refine wpAnyM_take (i := 11) (v := ?_) rfl (by kernel_rfl) (by kernel_rfl) (by kernel_rfl) (by kernel_rfl) (fun _ _ _ h => h) (Or.inl ⟨by rfl, ?_⟩) hS0 ?_
                          rotate_left
                          · intro w hSw; (try dsimp only at hSw); go_simp; (try with_reducible rfl)
                          simp only [Act.put, List.getElem_toArray, List.getElem_cons_zero, List.getElem_cons_succ, List.setIfInBounds_toArray, List.set_cons_zero, List.set_cons_succ]
                          refine wpAnyM_take (i := 13) (v := ?_) rfl (by kernel_rfl) (by kernel_rfl) (by kernel_rfl) (by kernel_rfl) (fun _ _ _ h => h) (Or.inl ⟨by rfl, ?_⟩) hS0 ?_
                          rotate_left
                          · intro w hSw; (try dsimp only at hSw); go_simp; (try with_reducible rfl)
                          simp only [Act.put, List.getElem_toArray, List.getElem_cons_zero, List.getElem_cons_succ, List.setIfInBounds_toArray, List.set_cons_zero, List.set_cons_succ]
                          refine wpAnyM_take (i := 14) (v := ?_) rfl (by kernel_rfl) (by kernel_rfl) (by kernel_rfl) (by kernel_rfl) (fun _ _ _ h => h) (Or.inl ⟨by rfl, ?_⟩) hS0 ?_
                          rotate_left
                          · intro w hSw; (try dsimp only at hSw); go_simp; (try with_reducible rfl)
                          simp only [Act.put, List.getElem_toArray, List.getElem_cons_zero, List.getElem_cons_succ, List.setIfInBounds_toArray, List.set_cons_zero, List.set_cons_succ]
                          refine wpAnyM_take (i := 15) (v := ?_) rfl (by kernel_rfl) (by kernel_rfl) (by kernel_rfl) (by kernel_rfl) (fun _ _ _ h => h) (Or.inl ⟨by rfl, ?_⟩) hS0 ?_
                          rotate_left
                          · intro w hSw; (try dsimp only at hSw); go_simp; (try with_reducible rfl)
                          simp only [Act.put, List.getElem_toArray, List.getElem_cons_zero, List.getElem_cons_succ, List.setIfInBounds_toArray, List.set_cons_zero, List.set_cons_succ]
                          refine wpAnyM_take (i := 16) (v := ?_) rfl (by kernel_rfl) (by kernel_rfl) (by kernel_rfl) (by kernel_rfl) (fun _ _ _ h => h) (Or.inl ⟨by rfl, ?_⟩) hS0 ?_
                          rotate_left
                          · intro w hSw; (try dsimp only at hSw); go_simp; (try with_reducible rfl)
                          simp only [Act.put, List.getElem_toArray, List.getElem_cons_zero, List.getElem_cons_succ, List.setIfInBounds_toArray, List.set_cons_zero, List.set_cons_succ]
                          refine wpAnyM_take (i := 17) (v := ?_) rfl (by kernel_rfl) (by kernel_rfl) (by kernel_rfl) (by kernel_rfl) (fun _ _ _ h => h) (Or.inl ⟨by rfl, ?_⟩) hS0 ?_
                          rotate_left
                          · intro w hSw; (try dsimp only at hSw); go_simp; (try with_reducible rfl)
                          simp only [Act.put, List.getElem_toArray, List.getElem_cons_zero, List.getElem_cons_succ, List.setIfInBounds_toArray, List.set_cons_zero, List.set_cons_succ]
                          refine wpAnyM_one (i := 12) (by kernel_rfl) rfl (fun K hK => ?_)
                          go_simp
                          go_wp2_with (go_at_call 38; (with_reducible refine (HVS.out _ (Below.refl _ _).drew).mono ?_); rintro e w5 ⟨vA, vc, rfl, _, s5, b5⟩; have hb5 := (Below.refl wr.heap.size wr).drew.trans b5; have hS5 := KS.out w5 hb5; have h5 := has_any vA vc (varsL x.v.atoms) o w5 s5; rw [e2] at h5; have H5 := Lib.hid h5; have B5 := Lib.hid (BB.out.trans (lower' hb5 BB.out.size)); clear s5 b5 hb5 h5)
                          refine hK.out _ _ (fun _ => hS5) ?_
                          clear hK K
                          refine wpAnyM_one (i := 18) (by kernel_rfl) rfl (fun K hK => ?_)
                          go_simp
                          go_wp2_with (go_at_call 66; (with_reducible refine H5.out.mono ?_); rintro e w6 ⟨rfl, rfl⟩)
                          refine hK.out _ _ (fun _ => hS5) ?_
                          clear hK K
                          refine wpAnyM_one (i := 19) (by kernel_rfl) rfl (fun K hK => ?_)
                          go_simp
                          refine hK.out _ _ (fun _ => hS5) ?_
                          clear hK K
                          refine wpAnyM_one (i := 20) (by kernel_rfl) rfl (fun K hK => ?_)
                          go_simp
                          refine hK.out _ _ (fun _ => hS5) ?_
                          clear hK K
                          refine wpAnyM_done (by kernel_rfl) ?_ _
                          go_wp2_with (fail)
                          go_ret
                          exact ⟨by rw [HF.out]; rfl, HB.out.1.trans (lower' B5.out HB.out.1.size)⟩
                        | true =>
                          have HN2 := Lib.hid (show R = outsGo x.v.atoms (x.v.out.take (k + 1)) (x.v.out.drop (k + 1)) from by rw [hgo, boundB_iff.2 (of_decide_eq_true e2)]; rfl)
                          clear hgo
                          go_upto_region 17 with (fail)
                          have hS0 := KS.out wr.drew (Below.refl _ _).drew
                          refine wp_region_M (fun _ => true) (fun w' => (w'.cell? ⟨w.heap.size, 0, none⟩ = some (.string ⟨x.v.name.toArray⟩) ∧ w'.cell? ⟨w.heap.size, 1, none⟩ = some (.int .i64 1) ∧ w'.cell? ⟨w.heap.size, 2, none⟩ = some (.slice (some ⟨ob, oo, none⟩) x.v.out.length x.oc) ∧ w'.cell? ⟨w.heap.size, 3, none⟩ = some (.slice x.aA x.v.atoms.length x.ac) ∧ w'.cell? ⟨w.heap.size, 4, none⟩ = some (.string ⟨#[]⟩)) ∧ w'.cell? ⟨ob, oo + k, none⟩ = some (.string ⟨o.toArray⟩)) (by kernel_rfl) ?_
                          refine wpAnyM_take (i := 0) (v := ?_) rfl (by kernel_rfl) (by kernel_rfl) (by kernel_rfl) (by kernel_rfl) (fun _ _ _ h => h) (Or.inl ⟨by rfl, ?_⟩) hS0 ?_
                          rotate_left
                          · intro w hSw; (try dsimp only at hSw); go_simp; (try with_reducible rfl)
                          simp only [Act.put, List.getElem_toArray, List.getElem_cons_zero, List.getElem_cons_succ, List.setIfInBounds_toArray, List.set_cons_zero, List.set_cons_succ]
                          refine wpAnyM_take (i := 1) (v := ?_) rfl (by kernel_rfl) (by kernel_rfl) (by kernel_rfl) (by kernel_rfl) (fun _ _ _ h => h) (Or.inl ⟨by rfl, ?_⟩) hS0 ?_
                          rotate_left
                          · intro w hSw; (try dsimp only at hSw); go_simp; (try with_reducible rfl)
                          simp only [Act.put, List.getElem_toArray, List.getElem_cons_zero, List.getElem_cons_succ, List.setIfInBounds_toArray, List.set_cons_zero, List.set_cons_succ]
                          refine wpAnyM_take (i := 2) (v := ?_) rfl (by kernel_rfl) (by kernel_rfl) (by kernel_rfl) (by kernel_rfl) (fun _ _ _ h => h) (Or.inl ⟨by rfl, ?_⟩) hS0 ?_
                          rotate_left
                          · intro w hSw; (try dsimp only at hSw); go_simp; (try with_reducible rfl)
                          simp only [Act.put, List.getElem_toArray, List.getElem_cons_zero, List.getElem_cons_succ, List.setIfInBounds_toArray, List.set_cons_zero, List.set_cons_succ]
                          refine wpAnyM_take (i := 3) (v := ?_) rfl (by kernel_rfl) (by kernel_rfl) (by kernel_rfl) (by kernel_rfl) (fun _ _ _ h => h) (Or.inl ⟨by rfl, ?_⟩) hS0 ?_
                          rotate_left
                          · intro w hSw; (try dsimp only at hSw); go_simp; (try with_reducible rfl)
                          simp only [Act.put, List.getElem_toArray, List.getElem_cons_zero, List.getElem_cons_succ, List.setIfInBounds_toArray, List.set_cons_zero, List.set_cons_succ]
                          refine wpAnyM_take (i := 4) (v := ?_) rfl (by kernel_rfl) (by kernel_rfl) (by kernel_rfl) (by kernel_rfl) (fun _ _ _ h => h) (Or.inl ⟨by rfl, ?_⟩) hS0 ?_
                          rotate_left
                          · intro w hSw; (try dsimp only at hSw); go_simp; (try with_reducible rfl)
                          simp only [Act.put, List.getElem_toArray, List.getElem_cons_zero, List.getElem_cons_succ, List.setIfInBounds_toArray, List.set_cons_zero, List.set_cons_succ]
                          refine wpAnyM_take (i := 5) (v := ?_) rfl (by kernel_rfl) (by kernel_rfl) (by kernel_rfl) (by kernel_rfl) (fun _ _ _ h => h) (Or.inl ⟨by rfl, ?_⟩) hS0 ?_
                          rotate_left
                          · intro w hSw; (try dsimp only at hSw); go_simp; (try with_reducible rfl)
                          simp only [Act.put, List.getElem_toArray, List.getElem_cons_zero, List.getElem_cons_succ, List.setIfInBounds_toArray, List.set_cons_zero, List.set_cons_succ]
                          refine wpAnyM_take (i := 6) (v := ?_) rfl (by kernel_rfl) (by kernel_rfl) (by kernel_rfl) (by kernel_rfl) (fun _ _ _ h => h) (Or.inl ⟨by rfl, ?_⟩) hS0 ?_
                          rotate_left
                          · intro w hSw; (try dsimp only at hSw); go_simp; (try with_reducible rfl)
                          simp only [Act.put, List.getElem_toArray, List.getElem_cons_zero, List.getElem_cons_succ, List.setIfInBounds_toArray, List.set_cons_zero, List.set_cons_succ]
                          refine wpAnyM_take (i := 7) (v := ?_) rfl (by kernel_rfl) (by kernel_rfl) (by kernel_rfl) (by kernel_rfl) (fun _ _ _ h => h) (Or.inl ⟨by rfl, ?_⟩) hS0 ?_
                          rotate_left
                          · intro w hSw; (try dsimp only at hSw); go_simp; (try with_reducible rfl)
                          simp only [Act.put, List.getElem_toArray, List.getElem_cons_zero, List.getElem_cons_succ, List.setIfInBounds_toArray, List.set_cons_zero, List.set_cons_succ]
                          refine wpAnyM_take (i := 8) (v := ?_) rfl (by kernel_rfl) (by kernel_rfl) (by kernel_rfl) (by kernel_rfl) (fun _ _ _ h => h) (Or.inl ⟨by rfl, ?_⟩) hS0 ?_
                          rotate_left
                          · intro w hSw; (try dsimp only at hSw); go_simp; (try with_reducible rfl)
                          simp only [Act.put, List.getElem_toArray, List.getElem_cons_zero, List.getElem_cons_succ, List.setIfInBounds_toArray, List.set_cons_zero, List.set_cons_succ]
                          refine wpAnyM_one (i := 9) (by kernel_rfl) rfl (fun K hK => ?_)
                          go_simp
                          go_wp2_with (go_at_call 66; (with_reducible refine (HC1.out _ (Below.refl _ _).drew).mono ?_); rintro e w4 ⟨rfl, rfl⟩)
                          refine hK.out _ _ (fun _ => hS0) ?_
                          clear hK K
                          refine wpAnyM_take (i := 10) (v := ?_) rfl (by kernel_rfl) (by kernel_rfl) (by kernel_rfl) (by kernel_rfl) (fun _ _ _ h => h) (Or.inl ⟨by rfl, ?_⟩) hS0 ?_
                          rotate_left
                          · intro w hSw; (try dsimp only at hSw); go_simp; (try with_reducible rfl)
                          simp only [Act.put, List.getElem_toArray, List.getElem_cons_zero, List.getElem_cons_succ, List.setIfInBounds_toArray, List.set_cons_zero, List.set_cons_succ]
                          refine wpAnyM_take (i := 11) (v := ?_) rfl (by kernel_rfl) (by kernel_rfl) (by kernel_rfl) (by kernel_rfl) (fun _ _ _ h => h) (Or.inl ⟨by rfl, ?_⟩) hS0 ?_
                          rotate_left
                          · intro w hSw; (try dsimp only at hSw); go_simp; (try with_reducible rfl)
                          simp only [Act.put, List.getElem_toArray, List.getElem_cons_zero, List.getElem_cons_succ, List.setIfInBounds_toArray, List.set_cons_zero, List.set_cons_succ]
                          refine wpAnyM_take (i := 13) (v := ?_) rfl (by kernel_rfl) (by kernel_rfl) (by kernel_rfl) (by kernel_rfl) (fun _ _ _ h => h) (Or.inl ⟨by rfl, ?_⟩) hS0 ?_
                          rotate_left
                          · intro w hSw; (try dsimp only at hSw); go_simp; (try with_reducible rfl)
                          simp only [Act.put, List.getElem_toArray, List.getElem_cons_zero, List.getElem_cons_succ, List.setIfInBounds_toArray, List.set_cons_zero, List.set_cons_succ]
                          refine wpAnyM_take (i := 14) (v := ?_) rfl (by kernel_rfl) (by kernel_rfl) (by kernel_rfl) (by kernel_rfl) (fun _ _ _ h => h) (Or.inl ⟨by rfl, ?_⟩) hS0 ?_
                          rotate_left
                          · intro w hSw; (try dsimp only at hSw); go_simp; (try with_reducible rfl)
                          simp only [Act.put, List.getElem_toArray, List.getElem_cons_zero, List.getElem_cons_succ, List.setIfInBounds_toArray, List.set_cons_zero, List.set_cons_succ]
                          refine wpAnyM_take (i := 15) (v := ?_) rfl (by kernel_rfl) (by kernel_rfl) (by kernel_rfl) (by kernel_rfl) (fun _ _ _ h => h) (Or.inl ⟨by rfl, ?_⟩) hS0 ?_
                          rotate_left
                          · intro w hSw; (try dsimp only at hSw); go_simp; (try with_reducible rfl)
                          simp only [Act.put, List.getElem_toArray, List.getElem_cons_zero, List.getElem_cons_succ, List.setIfInBounds_toArray, List.set_cons_zero, List.set_cons_succ]
                          refine wpAnyM_take (i := 16) (v := ?_) rfl (by kernel_rfl) (by kernel_rfl) (by kernel_rfl) (by kernel_rfl) (fun _ _ _ h => h) (Or.inl ⟨by rfl, ?_⟩) hS0 ?_
                          rotate_left
                          · intro w hSw; (try dsimp only at hSw); go_simp; (try with_reducible rfl)
                          simp only [Act.put, List.getElem_toArray, List.getElem_cons_zero, List.getElem_cons_succ, List.setIfInBounds_toArray, List.set_cons_zero, List.set_cons_succ]
                          refine wpAnyM_take (i := 17) (v := ?_) rfl (by kernel_rfl) (by kernel_rfl) (by kernel_rfl) (by kernel_rfl) (fun _ _ _ h => h) (Or.inl ⟨by rfl, ?_⟩) hS0 ?_
                          rotate_left
                          · intro w hSw; (try dsimp only at hSw); go_simp; (try with_reducible rfl)
                          simp only [Act.put, List.getElem_toArray, List.getElem_cons_zero, List.getElem_cons_succ, List.setIfInBounds_toArray, List.set_cons_zero, List.set_cons_succ]
                          refine wpAnyM_one (i := 12) (by kernel_rfl) rfl (fun K hK => ?_)
                          go_simp
                          go_wp2_with (go_at_call 38; (with_reducible refine (HVS.out _ (Below.refl _ _).drew).mono ?_); rintro e w5 ⟨vA, vc, rfl, _, s5, b5⟩; have hb5 := (Below.refl wr.heap.size wr).drew.trans b5; have hS5 := KS.out w5 hb5; have h5 := has_any vA vc (varsL x.v.atoms) o w5 s5; rw [e2] at h5; have H5 := Lib.hid h5; have B5 := Lib.hid (BB.out.trans (lower' hb5 BB.out.size)); clear s5 b5 hb5 h5)
                          refine hK.out _ _ (fun _ => hS5) ?_
                          clear hK K
                          refine wpAnyM_one (i := 18) (by kernel_rfl) rfl (fun K hK => ?_)
                          go_simp
                          go_wp2_with (go_at_call 66; (with_reducible refine H5.out.mono ?_); rintro e w6 ⟨rfl, rfl⟩)
                          refine hK.out _ _ (fun _ => hS5) ?_
                          clear hK K
                          refine wpAnyM_one (i := 19) (by kernel_rfl) rfl (fun K hK => ?_)
                          go_simp
                          refine hK.out _ _ (fun _ => hS5) ?_
                          clear hK K
                          refine wpAnyM_one (i := 20) (by kernel_rfl) rfl (fun K hK => ?_)
                          go_simp
                          refine hK.out _ _ (fun _ => hS5) ?_
                          clear hK K
                          refine wpAnyM_done (by kernel_rfl) ?_ _
                          go_wp2_with (fail)
                          go_roundw
                          case rel => exact ⟨k + 1, by omega, by go_num, Lib.hid ⟨HN2.out, B5.out⟩⟩
                          case measure => simp [intOf]; omega
                    · have hkI : ¬ (k : Int) < (x.v.out.length : Int) := by omega
                      have hgo := hrel.out.1
                      rw [List.drop_of_length_le (by omega)] at hgo
                      have HF := Lib.hid (show R = true from by rw [hgo]; rfl)
                      have BB := Lib.hid hrel.out.2
                      clear hgo hrel
                      go_wp2_with (fail)
                      go_ret
                      exact ⟨by rw [HF.out]; rfl, HB.out.1.trans (lower' BB.out HB.out.1.size)⟩
    · have HF := Lib.hid (show R = false from by rw [HR.out.1]; exact good_lab h2)
      have hlb : (x.v.label == []) = false := by rw [ba_nil]; exact decide_eq_false h2
      clear h2
      go_enter Try.func37, Try.ntmps37
      go_wp2_with (go_at_call 47; (with_reducible refine (HN.out _).mono ?_); rintro e w2 ⟨rfl, rfl⟩)
      go_ret
      exact ⟨by rw [HF.out]; rfl, HB.out.1⟩
end Go.Proofs.Ytgldcahhliokeaa
