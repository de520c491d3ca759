/- The document's Holds. -/
import Derived.Test.YtobieolonlddlaaJoBJ
namespace Go.Proofs.Ytobieolonlddlaa
open Go.RowKit Go.Maps

set_option maxRecDepth 100000 in
set_option maxHeartbeats 8000000 in
theorem rholds_any (x : VW) (A : Option Addr) (c : Nat) (es : List Ed) (t : TV) (w : World) (hx : x.Ok w) (hl : x.v.Lens) (h12 : x.v.atoms.length ≤ 12) (he : Eds w A c es) (ht : t.Ok w) :
    Calls Try.prog 21 #[.agg (vwA x), .slice A es.length c, .slice t.A t.l.length t.c] w fun e w' => e = .returned (.bool (holdsB x.v es t.l)) ∧ Below w.heap.size w w' := by
  have hb1 : Below w.heap.size w (w.alloc (.cells (vwA x) 25)) := (Below.refl _ _).alloc (Nat.le_refl _) _
  have hg1 := heap_alloc_new w (.cells (vwA x) 25)
  have hv := rvars_any x _ (hx.below hb1) h12
  have hgd := fun (hk1 : x.v.kind = 1) W (hW : Below w.heap.size w W) => good_any x W (hx.below hW) hl hk1
  have hts := ht.sm
  have hes := he.sm
  obtain ⟨R, hR⟩ : ∃ R, R = holdsB x.v es t.l := ⟨_, rfl⟩
  rw [← hR]
  unfold holdsB at hR
  have H0 := Lib.hid (And.intro hx (And.intro he ht))
  clear hx he ht
  by_cases hk1 : x.v.kind = 1
  · have hgd := hgd hk1
    unfold vwA at hb1 hg1 hv hgd ⊢
    rw [hk1] at hb1 hg1 hv hgd ⊢
    have HB := Lib.hid (And.intro hb1 hg1)
    have HV := Lib.hid hv
    clear hb1 hg1 hv hk1
    cases hg : goodP x.v with
    | false =>
      rw [hg] at hgd hR
      have HF := Lib.hid (show R = false from hR)
      have HGD := Lib.hid hgd
      clear hgd hR hg
      go_enter Try.func21, Try.ntmps21
      go_wp2_with (first
        | (go_at_call 23; (with_reducible refine HV.out.mono ?_); rintro e w2 ⟨vA, vc, rfl, _, s2, b2⟩; have g2 := (b2.block w.heap.size (by simp)).trans HB.out.2; obtain ⟨q0, q1, q2, q3, q4⟩ := box5 g2; have B2 := Lib.hid (And.intro (HB.out.1.trans (lower' b2 HB.out.1.size)) (And.intro g2 s2)); have HGD2 := Lib.hid (HGD.out w2 B2.out.1); clear g2 s2 b2)
        | (go_at_call 32; (with_reducible refine HGD2.out.mono ?_); rintro e w3 ⟨rfl, b3⟩; have B3 := Lib.hid (And.intro (B2.out.1.trans (lower' b3 B2.out.1.size)) (And.intro ((b3.block w.heap.size (heap_lt B2.out.2.1)).trans B2.out.2.1) (B2.out.2.2.below b3))); clear q0 q1 q2 q3 q4 b3))
      go_ret
      exact ⟨by rw [HF.out]; rfl, B3.out.1⟩
    | true =>
      rw [hg] at hgd hR
      rw [Bool.true_and] at hR
      have HGD := Lib.hid hgd
      clear hgd hg
      by_cases hlen : t.l.length = (varsL x.v.atoms).length
      · rw [decide_eq_true hlen, Bool.true_and] at hR
        have hlI : ((t.l.length : Int) != ((varsL x.v.atoms).length : Int)) = false := by simp [hlen]
        have HR := Lib.hid hR
        clear hR
        go_enter Try.func21, Try.ntmps21
        go_upto_region 4 with (first
          | (go_at_call 23; (with_reducible refine HV.out.mono ?_); rintro e w2 ⟨vA, vc, rfl, _, s2, b2⟩; have g2 := (b2.block w.heap.size (by simp)).trans HB.out.2; obtain ⟨q0, q1, q2, q3, q4⟩ := box5 g2; have B2 := Lib.hid (And.intro (HB.out.1.trans (lower' b2 HB.out.1.size)) (And.intro g2 s2)); have HGD2 := Lib.hid (HGD.out w2 B2.out.1); clear g2 s2 b2)
          | (go_at_call 32; (with_reducible refine HGD2.out.mono ?_); rintro e w3 ⟨rfl, b3⟩; have B3 := Lib.hid (And.intro (B2.out.1.trans (lower' b3 B2.out.1.size)) (And.intro ((b3.block w.heap.size (heap_lt B2.out.2.1)).trans B2.out.2.1) (B2.out.2.2.below b3))); clear q0 q1 q2 q3 q4 b3))
        obtain ⟨-, -, -, q3, -⟩ := box5 B3.out.2.1
        clear HV HGD HGD2 B2
        go_wp2_with (fail)
        go_loopw [32] (fun i wr => ∃ k : Nat, k ≤ x.v.atoms.length ∧ i = .int .i64 (k : Int) ∧ Hid (((x.v.atoms.take k).all fun a => decide (rowEd x.v.atoms t.l a ∈ es)) = true ∧ Below w3.heap.size w3 wr)) (fun i _ => x.v.atoms.length - (intOf i).toNat)
        case atStart => exact ⟨0, by omega, rfl, Lib.hid ⟨rfl, Below.refl _ _⟩⟩
        case round =>
          obtain ⟨k, hk, rfl, hrel⟩ := hrel
          by_cases hlt : k < x.v.atoms.length
          · have hbw := B3.out.1.trans (lower' hrel.out.2 B3.out.1.size)
            obtain ⟨ab, ao, hAA, _, a0, a1, a2⟩ := (H0.out.1.below hbw).ats.cell hlt
            obtain ⟨-, -, -, q3, -⟩ := box5 ((hrel.out.2.block _ (heap_lt B3.out.2.1)).trans B3.out.2.1)
            have hkI : (k : Int) < (x.v.atoms.length : Int) := by omega
            have hm1 : x.v.atoms[k].fr ∈ varsL x.v.atoms := varsL_mem.2 ⟨_, List.getElem_mem hlt, .inl rfl⟩
            have hm2 : x.v.atoms[k].to ∈ varsL x.v.atoms := varsL_mem.2 ⟨_, List.getElem_mem hlt, .inr rfl⟩
            have hat := all_take (p := fun a => decide (rowEd x.v.atoms t.l a ∈ es)) hlt
            have hpt := all_part (p := fun a => decide (rowEd x.v.atoms t.l a ∈ es)) hlt
            rw [hrel.out.1, Bool.true_and] at hat
            unfold rowEd at hat hpt
            rw [hAA]
            rw [hAA] at q3
            generalize x.v.atoms[k] = a at a0 a1 a2 hat hpt hm1 hm2
            have hil1 := idx_lt hm1
            have hil2 := idx_lt hm2
            have hg7 := heap_alloc_new wr (.cells #[.string ⟨a.fr.toArray⟩, .string ⟨a.lab.toArray⟩, .string ⟨a.to.toArray⟩] 49)
            have hb7 := hrel.out.2.alloc hrel.out.2.size (.cells #[.string ⟨a.fr.toArray⟩, .string ⟨a.lab.toArray⟩, .string ⟨a.to.toArray⟩] 49)
            have hq1 := fun W (hW : Below w3.heap.size w3 W) => at_any vA vc (varsL x.v.atoms) a.fr W (B3.out.2.2.below hW)
            have hq2 := fun W (hW : Below w3.heap.size w3 W) => at_any vA vc (varsL x.v.atoms) a.to W (B3.out.2.2.below hW)
            rw [index_at hm1] at hq1
            rw [index_at hm2] at hq2
            generalize (varsL x.v.atoms).idxOf a.fr = p at hil1 hq1 hat hpt
            generalize (varsL x.v.atoms).idxOf a.to = q at hil2 hq2 hat hpt
            obtain ⟨rb, ro, hRA, hrb, r0⟩ := (H0.out.2.2.below B3.out.1).cell (k := p) (by rw [hlen]; exact hil1)
            obtain ⟨rb', ro', hRA', _, r1⟩ := (H0.out.2.2.below B3.out.1).cell (k := q) (by rw [hlen]; exact hil2)
            rw [hRA] at hRA'
            injection hRA' with hRA'
            injection hRA' with e8 e9
            subst e8 e9
            have hg1 : t.l.getD p 0 = t.l[p]'(by rw [hlen]; exact hil1) := by rw [List.getD_eq_getElem?_getD, List.getElem?_eq_getElem (by rw [hlen]; exact hil1)]; rfl
            have hg2 : t.l.getD q 0 = t.l[q]'(by rw [hlen]; exact hil2) := by rw [List.getD_eq_getElem?_getD, List.getElem?_eq_getElem (by rw [hlen]; exact hil2)]; rfl
            rw [← hg1] at r0
            rw [← hg2] at r1
            generalize hF : t.l.getD p 0 = f9 at r0 hat hpt
            generalize hT : t.l.getD q 0 = t9 at r1 hat hpt
            have hpI : (p : Int) < ((varsL x.v.atoms).length : Int) := by omega
            have hqI : (q : Int) < ((varsL x.v.atoms).length : Int) := by omega
            have hpt2 : (p : Int) < (t.l.length : Int) := by omega
            have hqt2 : (q : Int) < (t.l.length : Int) := by omega
            rw [hRA]
            have HP1 := Lib.hid hq1
            have HP2 := Lib.hid hq2
            have HJ := Lib.hid (And.intro hat hpt)
            have R7 := Lib.hid (And.intro hg7 (And.intro hb7 hrb))
            have RC := Lib.hid (And.intro r0 r1)
            clear hbw hAA hm1 hm2 hat hpt hil1 hil2 hg7 hb7 hq1 hq2 hRA hrb hg1 hg2 hF hT hrel r0 r1
            go_upto_region 8 with (fail)
            clear a0 a1 a2 q3
            generalize (wr.alloc (.cells #[.string ⟨a.fr.toArray⟩, .string ⟨a.lab.toArray⟩, .string ⟨a.to.toArray⟩] 49)) = w7 at R7 ⊢
            generalize wr.heap.size = g7 at R7 ⊢
            go_wp2_with (fail)
            go_loopw [10, 42] (fun s10 i wl => ∃ n : Nat, n ≤ es.length ∧ s10 = .bool ((es.take n).any fun e => decide (e = (⟨f9, a.lab, t9⟩ : Ed))) ∧ i = .int .i64 (n : Int) ∧ Hid (Below w7.heap.size w7 wl)) (fun _ i _ => es.length - (intOf i).toNat)
            case atStart => exact ⟨0, by omega, rfl, rfl, Lib.hid (Below.refl _ _)⟩
            case round =>
              obtain ⟨n, hn, rfl, rfl, hrel⟩ := hrel
              rename World => wl
              have hb7 := R7.out.2.1.trans (lower' hrel.out R7.out.2.1.size)
              by_cases hnt : n < es.length
              · have hnI : (n : Int) < (es.length : Int) := by omega
                obtain ⟨eb, eo, hEA, _, c0, c1, c2⟩ := (H0.out.2.1.below (B3.out.1.trans (lower' hb7 B3.out.1.size))).cell hnt
                have hx0 := box3 ((hrel.out.block _ (heap_lt R7.out.1)).trans R7.out.1)
                have r0 := (hb7.cell (p := ⟨rb, ro + p, none⟩) R7.out.2.2).trans RC.out.1
                have r1 := (hb7.cell (p := ⟨rb, ro + q, none⟩) R7.out.2.2).trans RC.out.2
                have han := any_take (p := fun e => decide (e = (⟨f9, a.lab, t9⟩ : Ed))) hnt
                rw [hEA]
                generalize es[n] = y at c0 c1 c2 han
                generalize (es.take n).any (fun e => decide (e = (⟨f9, a.lab, t9⟩ : Ed))) = U at han ⊢
                have BL := Lib.hid hrel.out
                have B7 := Lib.hid hb7.drew
                have HAN := Lib.hid han
                have SS : (wl.cell? ⟨eb, eo + n * 3, none⟩ = some (.int .i64 y.f) ∧ wl.cell? ⟨eb, eo + n * 3 + 1, none⟩ = some (.string ⟨y.lab.toArray⟩) ∧ wl.cell? ⟨eb, eo + n * 3 + 2, none⟩ = some (.int .i64 y.t)) ∧ (wl.cell? ⟨g7, 0, none⟩ = some (.string ⟨a.fr.toArray⟩) ∧ wl.cell? ⟨g7, 1, none⟩ = some (.string ⟨a.lab.toArray⟩) ∧ wl.cell? ⟨g7, 2, none⟩ = some (.string ⟨a.to.toArray⟩)) ∧ (wl.cell? ⟨rb, ro + p, none⟩ = some (.int .i64 f9) ∧ wl.cell? ⟨rb, ro + q, none⟩ = some (.int .i64 t9)) := ⟨⟨c0, c1, c2⟩, hx0, r0, r1⟩
                have HS := Lib.hid SS
                clear hb7 hEA c0 c1 c2 hx0 r0 r1 han SS hrel
                cases U with
                | true =>
                  go_upto_region 12 with (fail)
                  go_quiet (fail)
                  go_wp2_with (fail)
                  go_roundw
                  case rel => exact ⟨n + 1, by omega, by rw [HAN.out]; rfl, by go_num, Lib.hid (Below.drewN' BL.out _)⟩
                  case measure => simp [intOf]; omega
                | false =>
                  by_cases h1 : y.f = f9
                  · by_cases h2 : y.lab = a.lab
                    · by_cases h3 : y.t = t9
                      · have HE := Lib.hid (show decide (y = (⟨f9, a.lab, t9⟩ : Ed)) = true from decide_eq_true (by cases y; simp at h1 h2 h3; rw [h1, h2, h3]))
                        go_upto_region 12 with (fail)
                        have hS0 : (wl.drew.cell? ⟨eb, eo + n * 3, none⟩ = some (.int .i64 y.f) ∧ wl.drew.cell? ⟨eb, eo + n * 3 + 1, none⟩ = some (.string ⟨y.lab.toArray⟩) ∧ wl.drew.cell? ⟨eb, eo + n * 3 + 2, none⟩ = some (.int .i64 y.t)) ∧ (wl.drew.cell? ⟨g7, 0, none⟩ = some (.string ⟨a.fr.toArray⟩) ∧ wl.drew.cell? ⟨g7, 1, none⟩ = some (.string ⟨a.lab.toArray⟩) ∧ wl.drew.cell? ⟨g7, 2, none⟩ = some (.string ⟨a.to.toArray⟩)) ∧ (wl.drew.cell? ⟨rb, ro + p, none⟩ = some (.int .i64 f9) ∧ wl.drew.cell? ⟨rb, ro + q, none⟩ = some (.int .i64 t9)) := HS.out
                        refine wp_region_M (fun _ => true) (fun w' => (w'.cell? ⟨eb, eo + n * 3, none⟩ = some (.int .i64 y.f) ∧ w'.cell? ⟨eb, eo + n * 3 + 1, none⟩ = some (.string ⟨y.lab.toArray⟩) ∧ w'.cell? ⟨eb, eo + n * 3 + 2, none⟩ = some (.int .i64 y.t)) ∧ (w'.cell? ⟨g7, 0, none⟩ = some (.string ⟨a.fr.toArray⟩) ∧ w'.cell? ⟨g7, 1, none⟩ = some (.string ⟨a.lab.toArray⟩) ∧ w'.cell? ⟨g7, 2, none⟩ = some (.string ⟨a.to.toArray⟩)) ∧ (w'.cell? ⟨rb, ro + p, none⟩ = some (.int .i64 f9) ∧ w'.cell? ⟨rb, ro + q, none⟩ = some (.int .i64 t9))) (by kernel_rfl) ?_
                        refine wpAnyM_take (i := 0) (v := ?_) rfl (by kernel_rfl) (by kernel_rfl) (by kernel_rfl) (by kernel_rfl) (fun _ _ _ h => h) (Or.inl ⟨by rfl, ?_⟩) hS0 ?_
                        rotate_left
                        · intro w hSw; (try dsimp only at hSw); go_simp; (try with_reducible rfl)
                        simp only [Act.put, List.getElem_toArray, List.getElem_cons_zero, List.getElem_cons_succ, List.setIfInBounds_toArray, List.set_cons_zero, List.set_cons_succ]
                        refine wpAnyM_take (i := 1) (v := ?_) rfl (by kernel_rfl) (by kernel_rfl) (by kernel_rfl) (by kernel_rfl) (fun _ _ _ h => h) (Or.inl ⟨by rfl, ?_⟩) hS0 ?_
                        rotate_left
                        · intro w hSw; (try dsimp only at hSw); go_simp; (try with_reducible rfl)
                        simp only [Act.put, List.getElem_toArray, List.getElem_cons_zero, List.getElem_cons_succ, List.setIfInBounds_toArray, List.set_cons_zero, List.set_cons_succ]
                        refine wpAnyM_take (i := 2) (v := ?_) rfl (by kernel_rfl) (by kernel_rfl) (by kernel_rfl) (by kernel_rfl) (fun _ _ _ h => h) (Or.inl ⟨by rfl, ?_⟩) hS0 ?_
                        rotate_left
                        · intro w hSw; (try dsimp only at hSw); go_simp; (try with_reducible rfl)
                        simp only [Act.put, List.getElem_toArray, List.getElem_cons_zero, List.getElem_cons_succ, List.setIfInBounds_toArray, List.set_cons_zero, List.set_cons_succ]
                        refine wpAnyM_take (i := 3) (v := ?_) rfl (by kernel_rfl) (by kernel_rfl) (by kernel_rfl) (by kernel_rfl) (fun _ _ _ h => h) (Or.inl ⟨by rfl, ?_⟩) hS0 ?_
                        rotate_left
                        · intro w hSw; (try dsimp only at hSw); go_simp; (try with_reducible rfl)
                        simp only [Act.put, List.getElem_toArray, List.getElem_cons_zero, List.getElem_cons_succ, List.setIfInBounds_toArray, List.set_cons_zero, List.set_cons_succ]
                        refine wpAnyM_take (i := 4) (v := ?_) rfl (by kernel_rfl) (by kernel_rfl) (by kernel_rfl) (by kernel_rfl) (fun _ _ _ h => h) (Or.inl ⟨by rfl, ?_⟩) hS0 ?_
                        rotate_left
                        · intro w hSw; (try dsimp only at hSw); go_simp; (try with_reducible rfl)
                        simp only [Act.put, List.getElem_toArray, List.getElem_cons_zero, List.getElem_cons_succ, List.setIfInBounds_toArray, List.set_cons_zero, List.set_cons_succ]
                        refine wpAnyM_take (i := 5) (v := ?_) rfl (by kernel_rfl) (by kernel_rfl) (by kernel_rfl) (by kernel_rfl) (fun _ _ _ h => h) (Or.inl ⟨by rfl, ?_⟩) hS0 ?_
                        rotate_left
                        · intro w hSw; (try dsimp only at hSw); go_simp; (try with_reducible rfl)
                        simp only [Act.put, List.getElem_toArray, List.getElem_cons_zero, List.getElem_cons_succ, List.setIfInBounds_toArray, List.set_cons_zero, List.set_cons_succ]
                        refine wpAnyM_take (i := 6) (v := ?_) rfl (by kernel_rfl) (by kernel_rfl) (by kernel_rfl) (by kernel_rfl) (fun _ _ _ h => h) (Or.inl ⟨by rfl, ?_⟩) hS0 ?_
                        rotate_left
                        · intro w hSw; (try dsimp only at hSw); go_simp; (try with_reducible rfl)
                        simp only [Act.put, List.getElem_toArray, List.getElem_cons_zero, List.getElem_cons_succ, List.setIfInBounds_toArray, List.set_cons_zero, List.set_cons_succ]
                        refine wpAnyM_take (i := 7) (v := ?_) rfl (by kernel_rfl) (by kernel_rfl) (by kernel_rfl) (by kernel_rfl) (fun _ _ _ h => h) (Or.inl ⟨by rfl, ?_⟩) hS0 ?_
                        rotate_left
                        · intro w hSw; (try dsimp only at hSw); go_simp; (try with_reducible rfl)
                        simp only [Act.put, List.getElem_toArray, List.getElem_cons_zero, List.getElem_cons_succ, List.setIfInBounds_toArray, List.set_cons_zero, List.set_cons_succ]
                        refine wpAnyM_take (i := 8) (v := ?_) rfl (by kernel_rfl) (by kernel_rfl) (by kernel_rfl) (by kernel_rfl) (fun _ _ _ h => h) (Or.inl ⟨by rfl, ?_⟩) hS0 ?_
                        rotate_left
                        · intro w hSw; (try dsimp only at hSw); go_simp; (try with_reducible rfl)
                        simp only [Act.put, List.getElem_toArray, List.getElem_cons_zero, List.getElem_cons_succ, List.setIfInBounds_toArray, List.set_cons_zero, List.set_cons_succ]
                        refine wpAnyM_take (i := 9) (v := ?_) rfl (by kernel_rfl) (by kernel_rfl) (by kernel_rfl) (by kernel_rfl) (fun _ _ _ h => h) (Or.inl ⟨by rfl, ?_⟩) hS0 ?_
                        rotate_left
                        · intro w hSw; (try dsimp only at hSw); go_simp; (try with_reducible rfl)
                        simp only [Act.put, List.getElem_toArray, List.getElem_cons_zero, List.getElem_cons_succ, List.setIfInBounds_toArray, List.set_cons_zero, List.set_cons_succ]
                        refine wpAnyM_take (i := 13) (v := ?_) rfl (by kernel_rfl) (by kernel_rfl) (by kernel_rfl) (by kernel_rfl) (fun _ _ _ h => h) (Or.inl ⟨by rfl, ?_⟩) hS0 ?_
                        rotate_left
                        · intro w hSw; (try dsimp only at hSw); go_simp; (try with_reducible rfl)
                        simp only [Act.put, List.getElem_toArray, List.getElem_cons_zero, List.getElem_cons_succ, List.setIfInBounds_toArray, List.set_cons_zero, List.set_cons_succ]
                        refine wpAnyM_take (i := 14) (v := ?_) rfl (by kernel_rfl) (by kernel_rfl) (by kernel_rfl) (by kernel_rfl) (fun _ _ _ h => h) (Or.inl ⟨by rfl, ?_⟩) hS0 ?_
                        rotate_left
                        · intro w hSw; (try dsimp only at hSw); go_simp; (try with_reducible rfl)
                        simp only [Act.put, List.getElem_toArray, List.getElem_cons_zero, List.getElem_cons_succ, List.setIfInBounds_toArray, List.set_cons_zero, List.set_cons_succ]
                        refine wpAnyM_take (i := 15) (v := ?_) rfl (by kernel_rfl) (by kernel_rfl) (by kernel_rfl) (by kernel_rfl) (fun _ _ _ h => h) (Or.inl ⟨by rfl, ?_⟩) hS0 ?_
                        rotate_left
                        · intro w hSw; (try dsimp only at hSw); go_simp; (try with_reducible rfl)
                        simp only [Act.put, List.getElem_toArray, List.getElem_cons_zero, List.getElem_cons_succ, List.setIfInBounds_toArray, List.set_cons_zero, List.set_cons_succ]
                        refine wpAnyM_take (i := 16) (v := ?_) rfl (by kernel_rfl) (by kernel_rfl) (by kernel_rfl) (by kernel_rfl) (fun _ _ _ h => h) (Or.inl ⟨by rfl, ?_⟩) hS0 ?_
                        rotate_left
                        · intro w hSw; (try dsimp only at hSw); go_simp; (try with_reducible rfl)
                        simp only [Act.put, List.getElem_toArray, List.getElem_cons_zero, List.getElem_cons_succ, List.setIfInBounds_toArray, List.set_cons_zero, List.set_cons_succ]
                        refine wpAnyM_take (i := 17) (v := ?_) rfl (by kernel_rfl) (by kernel_rfl) (by kernel_rfl) (by kernel_rfl) (fun _ _ _ h => h) (Or.inl ⟨by rfl, ?_⟩) hS0 ?_
                        rotate_left
                        · intro w hSw; (try dsimp only at hSw); go_simp; (try with_reducible rfl)
                        simp only [Act.put, List.getElem_toArray, List.getElem_cons_zero, List.getElem_cons_succ, List.setIfInBounds_toArray, List.set_cons_zero, List.set_cons_succ]
                        refine wpAnyM_take (i := 18) (v := ?_) rfl (by kernel_rfl) (by kernel_rfl) (by kernel_rfl) (by kernel_rfl) (fun _ _ _ h => h) (Or.inl ⟨by rfl, ?_⟩) hS0 ?_
                        rotate_left
                        · intro w hSw; (try dsimp only at hSw); go_simp; (try with_reducible rfl)
                        simp only [Act.put, List.getElem_toArray, List.getElem_cons_zero, List.getElem_cons_succ, List.setIfInBounds_toArray, List.set_cons_zero, List.set_cons_succ]
                        refine wpAnyM_one (i := 10) (by kernel_rfl) rfl (fun K hK => ?_)
                        go_simp
                        go_wp2_with (go_at_call 34; (with_reducible refine (HP1.out _ B7.out).mono ?_); rintro e w9 ⟨rfl, rfl⟩)
                        refine hK.out _ _ (fun _ => hS0) ?_
                        clear hK K
                        refine wpAnyM_take (i := 11) (v := ?_) rfl (by kernel_rfl) (by kernel_rfl) (by kernel_rfl) (by kernel_rfl) (fun _ _ _ h => h) (Or.inl ⟨by rfl, ?_⟩) hS0 ?_
                        rotate_left
                        · intro w hSw; (try dsimp only at hSw); go_simp; (try with_reducible rfl)
                        simp only [Act.put, List.getElem_toArray, List.getElem_cons_zero, List.getElem_cons_succ, List.setIfInBounds_toArray, List.set_cons_zero, List.set_cons_succ]
                        refine wpAnyM_take (i := 12) (v := ?_) rfl (by kernel_rfl) (by kernel_rfl) (by kernel_rfl) (by kernel_rfl) (fun _ _ _ h => h) (Or.inl ⟨by rfl, ?_⟩) hS0 ?_
                        rotate_left
                        · intro w hSw; (try dsimp only at hSw); go_simp; (try with_reducible rfl)
                        simp only [Act.put, List.getElem_toArray, List.getElem_cons_zero, List.getElem_cons_succ, List.setIfInBounds_toArray, List.set_cons_zero, List.set_cons_succ]
                        refine wpAnyM_one (i := 19) (by kernel_rfl) rfl (fun K hK => ?_)
                        go_simp
                        go_wp2_with (go_at_call 34; (with_reducible refine (HP2.out _ B7.out).mono ?_); rintro e w9 ⟨rfl, rfl⟩)
                        refine hK.out _ _ (fun _ => hS0) ?_
                        clear hK K
                        refine wpAnyM_take (i := 20) (v := ?_) rfl (by kernel_rfl) (by kernel_rfl) (by kernel_rfl) (by kernel_rfl) (fun _ _ _ h => h) (Or.inl ⟨by rfl, ?_⟩) hS0 ?_
                        rotate_left
                        · intro w hSw; (try dsimp only at hSw); go_simp; (try with_reducible rfl)
                        simp only [Act.put, List.getElem_toArray, List.getElem_cons_zero, List.getElem_cons_succ, List.setIfInBounds_toArray, List.set_cons_zero, List.set_cons_succ]
                        refine wpAnyM_take (i := 21) (v := ?_) rfl (by kernel_rfl) (by kernel_rfl) (by kernel_rfl) (by kernel_rfl) (fun _ _ _ h => h) (Or.inl ⟨by rfl, ?_⟩) hS0 ?_
                        rotate_left
                        · intro w hSw; (try dsimp only at hSw); go_simp; (try with_reducible rfl)
                        simp only [Act.put, List.getElem_toArray, List.getElem_cons_zero, List.getElem_cons_succ, List.setIfInBounds_toArray, List.set_cons_zero, List.set_cons_succ]
                        refine wpAnyM_take (i := 22) (v := ?_) rfl (by kernel_rfl) (by kernel_rfl) (by kernel_rfl) (by kernel_rfl) (fun _ _ _ h => h) (Or.inl ⟨by rfl, ?_⟩) hS0 ?_
                        rotate_left
                        · intro w hSw; (try dsimp only at hSw); go_simp; (try with_reducible rfl)
                        simp only [Act.put, List.getElem_toArray, List.getElem_cons_zero, List.getElem_cons_succ, List.setIfInBounds_toArray, List.set_cons_zero, List.set_cons_succ]
                        refine wpAnyM_take (i := 23) (v := ?_) rfl (by kernel_rfl) (by kernel_rfl) (by kernel_rfl) (by kernel_rfl) (fun _ _ _ h => h) (Or.inl ⟨by rfl, ?_⟩) hS0 ?_
                        rotate_left
                        · intro w hSw; (try dsimp only at hSw); go_simp; (try with_reducible rfl)
                        simp only [Act.put, List.getElem_toArray, List.getElem_cons_zero, List.getElem_cons_succ, List.setIfInBounds_toArray, List.set_cons_zero, List.set_cons_succ]
                        refine wpAnyM_take (i := 24) (v := ?_) rfl (by kernel_rfl) (by kernel_rfl) (by kernel_rfl) (by kernel_rfl) (fun _ _ _ h => h) (Or.inl ⟨by rfl, ?_⟩) hS0 ?_
                        rotate_left
                        · intro w hSw; (try dsimp only at hSw); go_simp; (try with_reducible rfl)
                        simp only [Act.put, List.getElem_toArray, List.getElem_cons_zero, List.getElem_cons_succ, List.setIfInBounds_toArray, List.set_cons_zero, List.set_cons_succ]
                        refine wpAnyM_one (i := 25) (by kernel_rfl) rfl (fun K hK => ?_)
                        go_simp
                        refine hK.out _ _ (fun _ => hS0) ?_
                        clear hK K
                        refine wpAnyM_done (by kernel_rfl) ?_ _
                        clear h1 h2 h3
                        go_wp2_with (fail)
                        go_roundw
                        case rel => exact ⟨n + 1, by omega, by rw [HAN.out, HE.out]; rfl, by go_num, Lib.hid BL.out.drew⟩
                        case measure => simp [intOf]; omega
                      · have HE := Lib.hid (show decide (y = (⟨f9, a.lab, t9⟩ : Ed)) = false from decide_eq_false (fun e => h3 (by rw [e])))
                        go_upto_region 12 with (fail)
                        have hS0 : (wl.drew.cell? ⟨eb, eo + n * 3, none⟩ = some (.int .i64 y.f) ∧ wl.drew.cell? ⟨eb, eo + n * 3 + 1, none⟩ = some (.string ⟨y.lab.toArray⟩) ∧ wl.drew.cell? ⟨eb, eo + n * 3 + 2, none⟩ = some (.int .i64 y.t)) ∧ (wl.drew.cell? ⟨g7, 0, none⟩ = some (.string ⟨a.fr.toArray⟩) ∧ wl.drew.cell? ⟨g7, 1, none⟩ = some (.string ⟨a.lab.toArray⟩) ∧ wl.drew.cell? ⟨g7, 2, none⟩ = some (.string ⟨a.to.toArray⟩)) ∧ (wl.drew.cell? ⟨rb, ro + p, none⟩ = some (.int .i64 f9) ∧ wl.drew.cell? ⟨rb, ro + q, none⟩ = some (.int .i64 t9)) := HS.out
                        refine wp_region_M (fun _ => true) (fun w' => (w'.cell? ⟨eb, eo + n * 3, none⟩ = some (.int .i64 y.f) ∧ w'.cell? ⟨eb, eo + n * 3 + 1, none⟩ = some (.string ⟨y.lab.toArray⟩) ∧ w'.cell? ⟨eb, eo + n * 3 + 2, none⟩ = some (.int .i64 y.t)) ∧ (w'.cell? ⟨g7, 0, none⟩ = some (.string ⟨a.fr.toArray⟩) ∧ w'.cell? ⟨g7, 1, none⟩ = some (.string ⟨a.lab.toArray⟩) ∧ w'.cell? ⟨g7, 2, none⟩ = some (.string ⟨a.to.toArray⟩)) ∧ (w'.cell? ⟨rb, ro + p, none⟩ = some (.int .i64 f9) ∧ w'.cell? ⟨rb, ro + q, none⟩ = some (.int .i64 t9))) (by kernel_rfl) ?_
                        refine wpAnyM_take (i := 0) (v := ?_) rfl (by kernel_rfl) (by kernel_rfl) (by kernel_rfl) (by kernel_rfl) (fun _ _ _ h => h) (Or.inl ⟨by rfl, ?_⟩) hS0 ?_
                        rotate_left
                        · intro w hSw; (try dsimp only at hSw); go_simp; (try with_reducible rfl)
                        simp only [Act.put, List.getElem_toArray, List.getElem_cons_zero, List.getElem_cons_succ, List.setIfInBounds_toArray, List.set_cons_zero, List.set_cons_succ]
                        refine wpAnyM_take (i := 1) (v := ?_) rfl (by kernel_rfl) (by kernel_rfl) (by kernel_rfl) (by kernel_rfl) (fun _ _ _ h => h) (Or.inl ⟨by rfl, ?_⟩) hS0 ?_
                        rotate_left
                        · intro w hSw; (try dsimp only at hSw); go_simp; (try with_reducible rfl)
                        simp only [Act.put, List.getElem_toArray, List.getElem_cons_zero, List.getElem_cons_succ, List.setIfInBounds_toArray, List.set_cons_zero, List.set_cons_succ]
                        refine wpAnyM_take (i := 2) (v := ?_) rfl (by kernel_rfl) (by kernel_rfl) (by kernel_rfl) (by kernel_rfl) (fun _ _ _ h => h) (Or.inl ⟨by rfl, ?_⟩) hS0 ?_
                        rotate_left
                        · intro w hSw; (try dsimp only at hSw); go_simp; (try with_reducible rfl)
                        simp only [Act.put, List.getElem_toArray, List.getElem_cons_zero, List.getElem_cons_succ, List.setIfInBounds_toArray, List.set_cons_zero, List.set_cons_succ]
                        refine wpAnyM_take (i := 3) (v := ?_) rfl (by kernel_rfl) (by kernel_rfl) (by kernel_rfl) (by kernel_rfl) (fun _ _ _ h => h) (Or.inl ⟨by rfl, ?_⟩) hS0 ?_
                        rotate_left
                        · intro w hSw; (try dsimp only at hSw); go_simp; (try with_reducible rfl)
                        simp only [Act.put, List.getElem_toArray, List.getElem_cons_zero, List.getElem_cons_succ, List.setIfInBounds_toArray, List.set_cons_zero, List.set_cons_succ]
                        refine wpAnyM_take (i := 4) (v := ?_) rfl (by kernel_rfl) (by kernel_rfl) (by kernel_rfl) (by kernel_rfl) (fun _ _ _ h => h) (Or.inl ⟨by rfl, ?_⟩) hS0 ?_
                        rotate_left
                        · intro w hSw; (try dsimp only at hSw); go_simp; (try with_reducible rfl)
                        simp only [Act.put, List.getElem_toArray, List.getElem_cons_zero, List.getElem_cons_succ, List.setIfInBounds_toArray, List.set_cons_zero, List.set_cons_succ]
                        refine wpAnyM_take (i := 5) (v := ?_) rfl (by kernel_rfl) (by kernel_rfl) (by kernel_rfl) (by kernel_rfl) (fun _ _ _ h => h) (Or.inl ⟨by rfl, ?_⟩) hS0 ?_
                        rotate_left
                        · intro w hSw; (try dsimp only at hSw); go_simp; (try with_reducible rfl)
                        simp only [Act.put, List.getElem_toArray, List.getElem_cons_zero, List.getElem_cons_succ, List.setIfInBounds_toArray, List.set_cons_zero, List.set_cons_succ]
                        refine wpAnyM_take (i := 6) (v := ?_) rfl (by kernel_rfl) (by kernel_rfl) (by kernel_rfl) (by kernel_rfl) (fun _ _ _ h => h) (Or.inl ⟨by rfl, ?_⟩) hS0 ?_
                        rotate_left
                        · intro w hSw; (try dsimp only at hSw); go_simp; (try with_reducible rfl)
                        simp only [Act.put, List.getElem_toArray, List.getElem_cons_zero, List.getElem_cons_succ, List.setIfInBounds_toArray, List.set_cons_zero, List.set_cons_succ]
                        refine wpAnyM_take (i := 7) (v := ?_) rfl (by kernel_rfl) (by kernel_rfl) (by kernel_rfl) (by kernel_rfl) (fun _ _ _ h => h) (Or.inl ⟨by rfl, ?_⟩) hS0 ?_
                        rotate_left
                        · intro w hSw; (try dsimp only at hSw); go_simp; (try with_reducible rfl)
                        simp only [Act.put, List.getElem_toArray, List.getElem_cons_zero, List.getElem_cons_succ, List.setIfInBounds_toArray, List.set_cons_zero, List.set_cons_succ]
                        refine wpAnyM_take (i := 8) (v := ?_) rfl (by kernel_rfl) (by kernel_rfl) (by kernel_rfl) (by kernel_rfl) (fun _ _ _ h => h) (Or.inl ⟨by rfl, ?_⟩) hS0 ?_
                        rotate_left
                        · intro w hSw; (try dsimp only at hSw); go_simp; (try with_reducible rfl)
                        simp only [Act.put, List.getElem_toArray, List.getElem_cons_zero, List.getElem_cons_succ, List.setIfInBounds_toArray, List.set_cons_zero, List.set_cons_succ]
                        refine wpAnyM_take (i := 9) (v := ?_) rfl (by kernel_rfl) (by kernel_rfl) (by kernel_rfl) (by kernel_rfl) (fun _ _ _ h => h) (Or.inl ⟨by rfl, ?_⟩) hS0 ?_
                        rotate_left
                        · intro w hSw; (try dsimp only at hSw); go_simp; (try with_reducible rfl)
                        simp only [Act.put, List.getElem_toArray, List.getElem_cons_zero, List.getElem_cons_succ, List.setIfInBounds_toArray, List.set_cons_zero, List.set_cons_succ]
                        refine wpAnyM_take (i := 13) (v := ?_) rfl (by kernel_rfl) (by kernel_rfl) (by kernel_rfl) (by kernel_rfl) (fun _ _ _ h => h) (Or.inl ⟨by rfl, ?_⟩) hS0 ?_
                        rotate_left
                        · intro w hSw; (try dsimp only at hSw); go_simp; (try with_reducible rfl)
                        simp only [Act.put, List.getElem_toArray, List.getElem_cons_zero, List.getElem_cons_succ, List.setIfInBounds_toArray, List.set_cons_zero, List.set_cons_succ]
                        refine wpAnyM_take (i := 14) (v := ?_) rfl (by kernel_rfl) (by kernel_rfl) (by kernel_rfl) (by kernel_rfl) (fun _ _ _ h => h) (Or.inl ⟨by rfl, ?_⟩) hS0 ?_
                        rotate_left
                        · intro w hSw; (try dsimp only at hSw); go_simp; (try with_reducible rfl)
                        simp only [Act.put, List.getElem_toArray, List.getElem_cons_zero, List.getElem_cons_succ, List.setIfInBounds_toArray, List.set_cons_zero, List.set_cons_succ]
                        refine wpAnyM_take (i := 15) (v := ?_) rfl (by kernel_rfl) (by kernel_rfl) (by kernel_rfl) (by kernel_rfl) (fun _ _ _ h => h) (Or.inl ⟨by rfl, ?_⟩) hS0 ?_
                        rotate_left
                        · intro w hSw; (try dsimp only at hSw); go_simp; (try with_reducible rfl)
                        simp only [Act.put, List.getElem_toArray, List.getElem_cons_zero, List.getElem_cons_succ, List.setIfInBounds_toArray, List.set_cons_zero, List.set_cons_succ]
                        refine wpAnyM_take (i := 16) (v := ?_) rfl (by kernel_rfl) (by kernel_rfl) (by kernel_rfl) (by kernel_rfl) (fun _ _ _ h => h) (Or.inl ⟨by rfl, ?_⟩) hS0 ?_
                        rotate_left
                        · intro w hSw; (try dsimp only at hSw); go_simp; (try with_reducible rfl)
                        simp only [Act.put, List.getElem_toArray, List.getElem_cons_zero, List.getElem_cons_succ, List.setIfInBounds_toArray, List.set_cons_zero, List.set_cons_succ]
                        refine wpAnyM_take (i := 17) (v := ?_) rfl (by kernel_rfl) (by kernel_rfl) (by kernel_rfl) (by kernel_rfl) (fun _ _ _ h => h) (Or.inl ⟨by rfl, ?_⟩) hS0 ?_
                        rotate_left
                        · intro w hSw; (try dsimp only at hSw); go_simp; (try with_reducible rfl)
                        simp only [Act.put, List.getElem_toArray, List.getElem_cons_zero, List.getElem_cons_succ, List.setIfInBounds_toArray, List.set_cons_zero, List.set_cons_succ]
                        refine wpAnyM_take (i := 18) (v := ?_) rfl (by kernel_rfl) (by kernel_rfl) (by kernel_rfl) (by kernel_rfl) (fun _ _ _ h => h) (Or.inl ⟨by rfl, ?_⟩) hS0 ?_
                        rotate_left
                        · intro w hSw; (try dsimp only at hSw); go_simp; (try with_reducible rfl)
                        simp only [Act.put, List.getElem_toArray, List.getElem_cons_zero, List.getElem_cons_succ, List.setIfInBounds_toArray, List.set_cons_zero, List.set_cons_succ]
                        refine wpAnyM_one (i := 10) (by kernel_rfl) rfl (fun K hK => ?_)
                        go_simp
                        go_wp2_with (go_at_call 34; (with_reducible refine (HP1.out _ B7.out).mono ?_); rintro e w9 ⟨rfl, rfl⟩)
                        refine hK.out _ _ (fun _ => hS0) ?_
                        clear hK K
                        refine wpAnyM_take (i := 11) (v := ?_) rfl (by kernel_rfl) (by kernel_rfl) (by kernel_rfl) (by kernel_rfl) (fun _ _ _ h => h) (Or.inl ⟨by rfl, ?_⟩) hS0 ?_
                        rotate_left
                        · intro w hSw; (try dsimp only at hSw); go_simp; (try with_reducible rfl)
                        simp only [Act.put, List.getElem_toArray, List.getElem_cons_zero, List.getElem_cons_succ, List.setIfInBounds_toArray, List.set_cons_zero, List.set_cons_succ]
                        refine wpAnyM_take (i := 12) (v := ?_) rfl (by kernel_rfl) (by kernel_rfl) (by kernel_rfl) (by kernel_rfl) (fun _ _ _ h => h) (Or.inl ⟨by rfl, ?_⟩) hS0 ?_
                        rotate_left
                        · intro w hSw; (try dsimp only at hSw); go_simp; (try with_reducible rfl)
                        simp only [Act.put, List.getElem_toArray, List.getElem_cons_zero, List.getElem_cons_succ, List.setIfInBounds_toArray, List.set_cons_zero, List.set_cons_succ]
                        refine wpAnyM_one (i := 19) (by kernel_rfl) rfl (fun K hK => ?_)
                        go_simp
                        go_wp2_with (go_at_call 34; (with_reducible refine (HP2.out _ B7.out).mono ?_); rintro e w9 ⟨rfl, rfl⟩)
                        refine hK.out _ _ (fun _ => hS0) ?_
                        clear hK K
                        refine wpAnyM_take (i := 20) (v := ?_) rfl (by kernel_rfl) (by kernel_rfl) (by kernel_rfl) (by kernel_rfl) (fun _ _ _ h => h) (Or.inl ⟨by rfl, ?_⟩) hS0 ?_
                        rotate_left
                        · intro w hSw; (try dsimp only at hSw); go_simp; (try with_reducible rfl)
                        simp only [Act.put, List.getElem_toArray, List.getElem_cons_zero, List.getElem_cons_succ, List.setIfInBounds_toArray, List.set_cons_zero, List.set_cons_succ]
                        refine wpAnyM_take (i := 21) (v := ?_) rfl (by kernel_rfl) (by kernel_rfl) (by kernel_rfl) (by kernel_rfl) (fun _ _ _ h => h) (Or.inl ⟨by rfl, ?_⟩) hS0 ?_
                        rotate_left
                        · intro w hSw; (try dsimp only at hSw); go_simp; (try with_reducible rfl)
                        simp only [Act.put, List.getElem_toArray, List.getElem_cons_zero, List.getElem_cons_succ, List.setIfInBounds_toArray, List.set_cons_zero, List.set_cons_succ]
                        refine wpAnyM_take (i := 22) (v := ?_) rfl (by kernel_rfl) (by kernel_rfl) (by kernel_rfl) (by kernel_rfl) (fun _ _ _ h => h) (Or.inl ⟨by rfl, ?_⟩) hS0 ?_
                        rotate_left
                        · intro w hSw; (try dsimp only at hSw); go_simp; (try with_reducible rfl)
                        simp only [Act.put, List.getElem_toArray, List.getElem_cons_zero, List.getElem_cons_succ, List.setIfInBounds_toArray, List.set_cons_zero, List.set_cons_succ]
                        refine wpAnyM_take (i := 23) (v := ?_) rfl (by kernel_rfl) (by kernel_rfl) (by kernel_rfl) (by kernel_rfl) (fun _ _ _ h => h) (Or.inl ⟨by rfl, ?_⟩) hS0 ?_
                        rotate_left
                        · intro w hSw; (try dsimp only at hSw); go_simp; (try with_reducible rfl)
                        simp only [Act.put, List.getElem_toArray, List.getElem_cons_zero, List.getElem_cons_succ, List.setIfInBounds_toArray, List.set_cons_zero, List.set_cons_succ]
                        refine wpAnyM_take (i := 24) (v := ?_) rfl (by kernel_rfl) (by kernel_rfl) (by kernel_rfl) (by kernel_rfl) (fun _ _ _ h => h) (Or.inl ⟨by rfl, ?_⟩) hS0 ?_
                        rotate_left
                        · intro w hSw; (try dsimp only at hSw); go_simp; (try with_reducible rfl)
                        simp only [Act.put, List.getElem_toArray, List.getElem_cons_zero, List.getElem_cons_succ, List.setIfInBounds_toArray, List.set_cons_zero, List.set_cons_succ]
                        refine wpAnyM_one (i := 25) (by kernel_rfl) rfl (fun K hK => ?_)
                        go_simp
                        refine hK.out _ _ (fun _ => hS0) ?_
                        clear hK K
                        refine wpAnyM_done (by kernel_rfl) ?_ _
                        clear h1 h2 h3
                        go_wp2_with (fail)
                        go_roundw
                        case rel => exact ⟨n + 1, by omega, by rw [HAN.out, HE.out]; rfl, by go_num, Lib.hid BL.out.drew⟩
                        case measure => simp [intOf]; omega
                    · have HE := Lib.hid (show decide (y = (⟨f9, a.lab, t9⟩ : Ed)) = false from decide_eq_false (fun e => h2 (by rw [e])))
                      go_upto_region 12 with (fail)
                      have hS0 : (wl.drew.cell? ⟨eb, eo + n * 3, none⟩ = some (.int .i64 y.f) ∧ wl.drew.cell? ⟨eb, eo + n * 3 + 1, none⟩ = some (.string ⟨y.lab.toArray⟩) ∧ wl.drew.cell? ⟨eb, eo + n * 3 + 2, none⟩ = some (.int .i64 y.t)) ∧ (wl.drew.cell? ⟨g7, 0, none⟩ = some (.string ⟨a.fr.toArray⟩) ∧ wl.drew.cell? ⟨g7, 1, none⟩ = some (.string ⟨a.lab.toArray⟩) ∧ wl.drew.cell? ⟨g7, 2, none⟩ = some (.string ⟨a.to.toArray⟩)) ∧ (wl.drew.cell? ⟨rb, ro + p, none⟩ = some (.int .i64 f9) ∧ wl.drew.cell? ⟨rb, ro + q, none⟩ = some (.int .i64 t9)) := HS.out
                      refine wp_region_M (fun _ => true) (fun w' => (w'.cell? ⟨eb, eo + n * 3, none⟩ = some (.int .i64 y.f) ∧ w'.cell? ⟨eb, eo + n * 3 + 1, none⟩ = some (.string ⟨y.lab.toArray⟩) ∧ w'.cell? ⟨eb, eo + n * 3 + 2, none⟩ = some (.int .i64 y.t)) ∧ (w'.cell? ⟨g7, 0, none⟩ = some (.string ⟨a.fr.toArray⟩) ∧ w'.cell? ⟨g7, 1, none⟩ = some (.string ⟨a.lab.toArray⟩) ∧ w'.cell? ⟨g7, 2, none⟩ = some (.string ⟨a.to.toArray⟩)) ∧ (w'.cell? ⟨rb, ro + p, none⟩ = some (.int .i64 f9) ∧ w'.cell? ⟨rb, ro + q, none⟩ = some (.int .i64 t9))) (by kernel_rfl) ?_
                      refine wpAnyM_take (i := 0) (v := ?_) rfl (by kernel_rfl) (by kernel_rfl) (by kernel_rfl) (by kernel_rfl) (fun _ _ _ h => h) (Or.inl ⟨by rfl, ?_⟩) hS0 ?_
                      rotate_left
                      · intro w hSw; (try dsimp only at hSw); go_simp; (try with_reducible rfl)
                      simp only [Act.put, List.getElem_toArray, List.getElem_cons_zero, List.getElem_cons_succ, List.setIfInBounds_toArray, List.set_cons_zero, List.set_cons_succ]
                      refine wpAnyM_take (i := 1) (v := ?_) rfl (by kernel_rfl) (by kernel_rfl) (by kernel_rfl) (by kernel_rfl) (fun _ _ _ h => h) (Or.inl ⟨by rfl, ?_⟩) hS0 ?_
                      rotate_left
                      · intro w hSw; (try dsimp only at hSw); go_simp; (try with_reducible rfl)
                      simp only [Act.put, List.getElem_toArray, List.getElem_cons_zero, List.getElem_cons_succ, List.setIfInBounds_toArray, List.set_cons_zero, List.set_cons_succ]
                      refine wpAnyM_take (i := 2) (v := ?_) rfl (by kernel_rfl) (by kernel_rfl) (by kernel_rfl) (by kernel_rfl) (fun _ _ _ h => h) (Or.inl ⟨by rfl, ?_⟩) hS0 ?_
                      rotate_left
                      · intro w hSw; (try dsimp only at hSw); go_simp; (try with_reducible rfl)
                      simp only [Act.put, List.getElem_toArray, List.getElem_cons_zero, List.getElem_cons_succ, List.setIfInBounds_toArray, List.set_cons_zero, List.set_cons_succ]
                      refine wpAnyM_take (i := 3) (v := ?_) rfl (by kernel_rfl) (by kernel_rfl) (by kernel_rfl) (by kernel_rfl) (fun _ _ _ h => h) (Or.inl ⟨by rfl, ?_⟩) hS0 ?_
                      rotate_left
                      · intro w hSw; (try dsimp only at hSw); go_simp; (try with_reducible rfl)
                      simp only [Act.put, List.getElem_toArray, List.getElem_cons_zero, List.getElem_cons_succ, List.setIfInBounds_toArray, List.set_cons_zero, List.set_cons_succ]
                      refine wpAnyM_take (i := 4) (v := ?_) rfl (by kernel_rfl) (by kernel_rfl) (by kernel_rfl) (by kernel_rfl) (fun _ _ _ h => h) (Or.inl ⟨by rfl, ?_⟩) hS0 ?_
                      rotate_left
                      · intro w hSw; (try dsimp only at hSw); go_simp; (try with_reducible rfl)
                      simp only [Act.put, List.getElem_toArray, List.getElem_cons_zero, List.getElem_cons_succ, List.setIfInBounds_toArray, List.set_cons_zero, List.set_cons_succ]
                      refine wpAnyM_take (i := 5) (v := ?_) rfl (by kernel_rfl) (by kernel_rfl) (by kernel_rfl) (by kernel_rfl) (fun _ _ _ h => h) (Or.inl ⟨by rfl, ?_⟩) hS0 ?_
                      rotate_left
                      · intro w hSw; (try dsimp only at hSw); go_simp; (try with_reducible rfl)
                      simp only [Act.put, List.getElem_toArray, List.getElem_cons_zero, List.getElem_cons_succ, List.setIfInBounds_toArray, List.set_cons_zero, List.set_cons_succ]
                      refine wpAnyM_take (i := 6) (v := ?_) rfl (by kernel_rfl) (by kernel_rfl) (by kernel_rfl) (by kernel_rfl) (fun _ _ _ h => h) (Or.inl ⟨by rfl, ?_⟩) hS0 ?_
                      rotate_left
                      · intro w hSw; (try dsimp only at hSw); go_simp; (try with_reducible rfl)
                      simp only [Act.put, List.getElem_toArray, List.getElem_cons_zero, List.getElem_cons_succ, List.setIfInBounds_toArray, List.set_cons_zero, List.set_cons_succ]
                      refine wpAnyM_take (i := 7) (v := ?_) rfl (by kernel_rfl) (by kernel_rfl) (by kernel_rfl) (by kernel_rfl) (fun _ _ _ h => h) (Or.inl ⟨by rfl, ?_⟩) hS0 ?_
                      rotate_left
                      · intro w hSw; (try dsimp only at hSw); go_simp; (try with_reducible rfl)
                      simp only [Act.put, List.getElem_toArray, List.getElem_cons_zero, List.getElem_cons_succ, List.setIfInBounds_toArray, List.set_cons_zero, List.set_cons_succ]
                      refine wpAnyM_take (i := 8) (v := ?_) rfl (by kernel_rfl) (by kernel_rfl) (by kernel_rfl) (by kernel_rfl) (fun _ _ _ h => h) (Or.inl ⟨by rfl, ?_⟩) hS0 ?_
                      rotate_left
                      · intro w hSw; (try dsimp only at hSw); go_simp; (try with_reducible rfl)
                      simp only [Act.put, List.getElem_toArray, List.getElem_cons_zero, List.getElem_cons_succ, List.setIfInBounds_toArray, List.set_cons_zero, List.set_cons_succ]
                      refine wpAnyM_take (i := 9) (v := ?_) rfl (by kernel_rfl) (by kernel_rfl) (by kernel_rfl) (by kernel_rfl) (fun _ _ _ h => h) (Or.inl ⟨by rfl, ?_⟩) hS0 ?_
                      rotate_left
                      · intro w hSw; (try dsimp only at hSw); go_simp; (try with_reducible rfl)
                      simp only [Act.put, List.getElem_toArray, List.getElem_cons_zero, List.getElem_cons_succ, List.setIfInBounds_toArray, List.set_cons_zero, List.set_cons_succ]
                      refine wpAnyM_take (i := 13) (v := ?_) rfl (by kernel_rfl) (by kernel_rfl) (by kernel_rfl) (by kernel_rfl) (fun _ _ _ h => h) (Or.inl ⟨by rfl, ?_⟩) hS0 ?_
                      rotate_left
                      · intro w hSw; (try dsimp only at hSw); go_simp; (try with_reducible rfl)
                      simp only [Act.put, List.getElem_toArray, List.getElem_cons_zero, List.getElem_cons_succ, List.setIfInBounds_toArray, List.set_cons_zero, List.set_cons_succ]
                      refine wpAnyM_take (i := 14) (v := ?_) rfl (by kernel_rfl) (by kernel_rfl) (by kernel_rfl) (by kernel_rfl) (fun _ _ _ h => h) (Or.inl ⟨by rfl, ?_⟩) hS0 ?_
                      rotate_left
                      · intro w hSw; (try dsimp only at hSw); go_simp; (try with_reducible rfl)
                      simp only [Act.put, List.getElem_toArray, List.getElem_cons_zero, List.getElem_cons_succ, List.setIfInBounds_toArray, List.set_cons_zero, List.set_cons_succ]
                      refine wpAnyM_take (i := 15) (v := ?_) rfl (by kernel_rfl) (by kernel_rfl) (by kernel_rfl) (by kernel_rfl) (fun _ _ _ h => h) (Or.inl ⟨by rfl, ?_⟩) hS0 ?_
                      rotate_left
                      · intro w hSw; (try dsimp only at hSw); go_simp; (try with_reducible rfl)
                      simp only [Act.put, List.getElem_toArray, List.getElem_cons_zero, List.getElem_cons_succ, List.setIfInBounds_toArray, List.set_cons_zero, List.set_cons_succ]
                      refine wpAnyM_take (i := 16) (v := ?_) rfl (by kernel_rfl) (by kernel_rfl) (by kernel_rfl) (by kernel_rfl) (fun _ _ _ h => h) (Or.inl ⟨by rfl, ?_⟩) hS0 ?_
                      rotate_left
                      · intro w hSw; (try dsimp only at hSw); go_simp; (try with_reducible rfl)
                      simp only [Act.put, List.getElem_toArray, List.getElem_cons_zero, List.getElem_cons_succ, List.setIfInBounds_toArray, List.set_cons_zero, List.set_cons_succ]
                      refine wpAnyM_take (i := 17) (v := ?_) rfl (by kernel_rfl) (by kernel_rfl) (by kernel_rfl) (by kernel_rfl) (fun _ _ _ h => h) (Or.inl ⟨by rfl, ?_⟩) hS0 ?_
                      rotate_left
                      · intro w hSw; (try dsimp only at hSw); go_simp; (try with_reducible rfl)
                      simp only [Act.put, List.getElem_toArray, List.getElem_cons_zero, List.getElem_cons_succ, List.setIfInBounds_toArray, List.set_cons_zero, List.set_cons_succ]
                      refine wpAnyM_take (i := 18) (v := ?_) rfl (by kernel_rfl) (by kernel_rfl) (by kernel_rfl) (by kernel_rfl) (fun _ _ _ h => h) (Or.inl ⟨by rfl, ?_⟩) hS0 ?_
                      rotate_left
                      · intro w hSw; (try dsimp only at hSw); go_simp; (try with_reducible rfl)
                      simp only [Act.put, List.getElem_toArray, List.getElem_cons_zero, List.getElem_cons_succ, List.setIfInBounds_toArray, List.set_cons_zero, List.set_cons_succ]
                      refine wpAnyM_one (i := 10) (by kernel_rfl) rfl (fun K hK => ?_)
                      go_simp
                      go_wp2_with (go_at_call 34; (with_reducible refine (HP1.out _ B7.out).mono ?_); rintro e w9 ⟨rfl, rfl⟩)
                      refine hK.out _ _ (fun _ => hS0) ?_
                      clear hK K
                      refine wpAnyM_take (i := 11) (v := ?_) rfl (by kernel_rfl) (by kernel_rfl) (by kernel_rfl) (by kernel_rfl) (fun _ _ _ h => h) (Or.inl ⟨by rfl, ?_⟩) hS0 ?_
                      rotate_left
                      · intro w hSw; (try dsimp only at hSw); go_simp; (try with_reducible rfl)
                      simp only [Act.put, List.getElem_toArray, List.getElem_cons_zero, List.getElem_cons_succ, List.setIfInBounds_toArray, List.set_cons_zero, List.set_cons_succ]
                      refine wpAnyM_take (i := 12) (v := ?_) rfl (by kernel_rfl) (by kernel_rfl) (by kernel_rfl) (by kernel_rfl) (fun _ _ _ h => h) (Or.inl ⟨by rfl, ?_⟩) hS0 ?_
                      rotate_left
                      · intro w hSw; (try dsimp only at hSw); go_simp; (try with_reducible rfl)
                      simp only [Act.put, List.getElem_toArray, List.getElem_cons_zero, List.getElem_cons_succ, List.setIfInBounds_toArray, List.set_cons_zero, List.set_cons_succ]
                      refine wpAnyM_one (i := 19) (by kernel_rfl) rfl (fun K hK => ?_)
                      go_simp
                      go_wp2_with (go_at_call 34; (with_reducible refine (HP2.out _ B7.out).mono ?_); rintro e w9 ⟨rfl, rfl⟩)
                      refine hK.out _ _ (fun _ => hS0) ?_
                      clear hK K
                      refine wpAnyM_take (i := 20) (v := ?_) rfl (by kernel_rfl) (by kernel_rfl) (by kernel_rfl) (by kernel_rfl) (fun _ _ _ h => h) (Or.inl ⟨by rfl, ?_⟩) hS0 ?_
                      rotate_left
                      · intro w hSw; (try dsimp only at hSw); go_simp; (try with_reducible rfl)
                      simp only [Act.put, List.getElem_toArray, List.getElem_cons_zero, List.getElem_cons_succ, List.setIfInBounds_toArray, List.set_cons_zero, List.set_cons_succ]
                      refine wpAnyM_take (i := 21) (v := ?_) rfl (by kernel_rfl) (by kernel_rfl) (by kernel_rfl) (by kernel_rfl) (fun _ _ _ h => h) (Or.inl ⟨by rfl, ?_⟩) hS0 ?_
                      rotate_left
                      · intro w hSw; (try dsimp only at hSw); go_simp; (try with_reducible rfl)
                      simp only [Act.put, List.getElem_toArray, List.getElem_cons_zero, List.getElem_cons_succ, List.setIfInBounds_toArray, List.set_cons_zero, List.set_cons_succ]
                      refine wpAnyM_take (i := 22) (v := ?_) rfl (by kernel_rfl) (by kernel_rfl) (by kernel_rfl) (by kernel_rfl) (fun _ _ _ h => h) (Or.inl ⟨by rfl, ?_⟩) hS0 ?_
                      rotate_left
                      · intro w hSw; (try dsimp only at hSw); go_simp; (try with_reducible rfl)
                      simp only [Act.put, List.getElem_toArray, List.getElem_cons_zero, List.getElem_cons_succ, List.setIfInBounds_toArray, List.set_cons_zero, List.set_cons_succ]
                      refine wpAnyM_take (i := 23) (v := ?_) rfl (by kernel_rfl) (by kernel_rfl) (by kernel_rfl) (by kernel_rfl) (fun _ _ _ h => h) (Or.inl ⟨by rfl, ?_⟩) hS0 ?_
                      rotate_left
                      · intro w hSw; (try dsimp only at hSw); go_simp; (try with_reducible rfl)
                      simp only [Act.put, List.getElem_toArray, List.getElem_cons_zero, List.getElem_cons_succ, List.setIfInBounds_toArray, List.set_cons_zero, List.set_cons_succ]
                      refine wpAnyM_take (i := 24) (v := ?_) rfl (by kernel_rfl) (by kernel_rfl) (by kernel_rfl) (by kernel_rfl) (fun _ _ _ h => h) (Or.inl ⟨by rfl, ?_⟩) hS0 ?_
                      rotate_left
                      · intro w hSw; (try dsimp only at hSw); go_simp; (try with_reducible rfl)
                      simp only [Act.put, List.getElem_toArray, List.getElem_cons_zero, List.getElem_cons_succ, List.setIfInBounds_toArray, List.set_cons_zero, List.set_cons_succ]
                      refine wpAnyM_one (i := 25) (by kernel_rfl) rfl (fun K hK => ?_)
                      go_simp
                      refine hK.out _ _ (fun _ => hS0) ?_
                      clear hK K
                      refine wpAnyM_done (by kernel_rfl) ?_ _
                      clear h1 h2
                      go_wp2_with (fail)
                      go_roundw
                      case rel => exact ⟨n + 1, by omega, by rw [HAN.out, HE.out]; rfl, by go_num, Lib.hid BL.out.drew⟩
                      case measure => simp [intOf]; omega
                  · have HE := Lib.hid (show decide (y = (⟨f9, a.lab, t9⟩ : Ed)) = false from decide_eq_false (fun e => h1 (by rw [e])))
                    go_upto_region 12 with (fail)
                    have hS0 : (wl.drew.cell? ⟨eb, eo + n * 3, none⟩ = some (.int .i64 y.f) ∧ wl.drew.cell? ⟨eb, eo + n * 3 + 1, none⟩ = some (.string ⟨y.lab.toArray⟩) ∧ wl.drew.cell? ⟨eb, eo + n * 3 + 2, none⟩ = some (.int .i64 y.t)) ∧ (wl.drew.cell? ⟨g7, 0, none⟩ = some (.string ⟨a.fr.toArray⟩) ∧ wl.drew.cell? ⟨g7, 1, none⟩ = some (.string ⟨a.lab.toArray⟩) ∧ wl.drew.cell? ⟨g7, 2, none⟩ = some (.string ⟨a.to.toArray⟩)) ∧ (wl.drew.cell? ⟨rb, ro + p, none⟩ = some (.int .i64 f9) ∧ wl.drew.cell? ⟨rb, ro + q, none⟩ = some (.int .i64 t9)) := HS.out
                    refine wp_region_M (fun _ => true) (fun w' => (w'.cell? ⟨eb, eo + n * 3, none⟩ = some (.int .i64 y.f) ∧ w'.cell? ⟨eb, eo + n * 3 + 1, none⟩ = some (.string ⟨y.lab.toArray⟩) ∧ w'.cell? ⟨eb, eo + n * 3 + 2, none⟩ = some (.int .i64 y.t)) ∧ (w'.cell? ⟨g7, 0, none⟩ = some (.string ⟨a.fr.toArray⟩) ∧ w'.cell? ⟨g7, 1, none⟩ = some (.string ⟨a.lab.toArray⟩) ∧ w'.cell? ⟨g7, 2, none⟩ = some (.string ⟨a.to.toArray⟩)) ∧ (w'.cell? ⟨rb, ro + p, none⟩ = some (.int .i64 f9) ∧ w'.cell? ⟨rb, ro + q, none⟩ = some (.int .i64 t9))) (by kernel_rfl) ?_
                    refine wpAnyM_take (i := 0) (v := ?_) rfl (by kernel_rfl) (by kernel_rfl) (by kernel_rfl) (by kernel_rfl) (fun _ _ _ h => h) (Or.inl ⟨by rfl, ?_⟩) hS0 ?_
                    rotate_left
                    · intro w hSw; (try dsimp only at hSw); go_simp; (try with_reducible rfl)
                    simp only [Act.put, List.getElem_toArray, List.getElem_cons_zero, List.getElem_cons_succ, List.setIfInBounds_toArray, List.set_cons_zero, List.set_cons_succ]
                    refine wpAnyM_take (i := 1) (v := ?_) rfl (by kernel_rfl) (by kernel_rfl) (by kernel_rfl) (by kernel_rfl) (fun _ _ _ h => h) (Or.inl ⟨by rfl, ?_⟩) hS0 ?_
                    rotate_left
                    · intro w hSw; (try dsimp only at hSw); go_simp; (try with_reducible rfl)
                    simp only [Act.put, List.getElem_toArray, List.getElem_cons_zero, List.getElem_cons_succ, List.setIfInBounds_toArray, List.set_cons_zero, List.set_cons_succ]
                    refine wpAnyM_take (i := 2) (v := ?_) rfl (by kernel_rfl) (by kernel_rfl) (by kernel_rfl) (by kernel_rfl) (fun _ _ _ h => h) (Or.inl ⟨by rfl, ?_⟩) hS0 ?_
                    rotate_left
                    · intro w hSw; (try dsimp only at hSw); go_simp; (try with_reducible rfl)
                    simp only [Act.put, List.getElem_toArray, List.getElem_cons_zero, List.getElem_cons_succ, List.setIfInBounds_toArray, List.set_cons_zero, List.set_cons_succ]
                    refine wpAnyM_take (i := 3) (v := ?_) rfl (by kernel_rfl) (by kernel_rfl) (by kernel_rfl) (by kernel_rfl) (fun _ _ _ h => h) (Or.inl ⟨by rfl, ?_⟩) hS0 ?_
                    rotate_left
                    · intro w hSw; (try dsimp only at hSw); go_simp; (try with_reducible rfl)
                    simp only [Act.put, List.getElem_toArray, List.getElem_cons_zero, List.getElem_cons_succ, List.setIfInBounds_toArray, List.set_cons_zero, List.set_cons_succ]
                    refine wpAnyM_take (i := 4) (v := ?_) rfl (by kernel_rfl) (by kernel_rfl) (by kernel_rfl) (by kernel_rfl) (fun _ _ _ h => h) (Or.inl ⟨by rfl, ?_⟩) hS0 ?_
                    rotate_left
                    · intro w hSw; (try dsimp only at hSw); go_simp; (try with_reducible rfl)
                    simp only [Act.put, List.getElem_toArray, List.getElem_cons_zero, List.getElem_cons_succ, List.setIfInBounds_toArray, List.set_cons_zero, List.set_cons_succ]
                    refine wpAnyM_take (i := 5) (v := ?_) rfl (by kernel_rfl) (by kernel_rfl) (by kernel_rfl) (by kernel_rfl) (fun _ _ _ h => h) (Or.inl ⟨by rfl, ?_⟩) hS0 ?_
                    rotate_left
                    · intro w hSw; (try dsimp only at hSw); go_simp; (try with_reducible rfl)
                    simp only [Act.put, List.getElem_toArray, List.getElem_cons_zero, List.getElem_cons_succ, List.setIfInBounds_toArray, List.set_cons_zero, List.set_cons_succ]
                    refine wpAnyM_take (i := 6) (v := ?_) rfl (by kernel_rfl) (by kernel_rfl) (by kernel_rfl) (by kernel_rfl) (fun _ _ _ h => h) (Or.inl ⟨by rfl, ?_⟩) hS0 ?_
                    rotate_left
                    · intro w hSw; (try dsimp only at hSw); go_simp; (try with_reducible rfl)
                    simp only [Act.put, List.getElem_toArray, List.getElem_cons_zero, List.getElem_cons_succ, List.setIfInBounds_toArray, List.set_cons_zero, List.set_cons_succ]
                    refine wpAnyM_take (i := 7) (v := ?_) rfl (by kernel_rfl) (by kernel_rfl) (by kernel_rfl) (by kernel_rfl) (fun _ _ _ h => h) (Or.inl ⟨by rfl, ?_⟩) hS0 ?_
                    rotate_left
                    · intro w hSw; (try dsimp only at hSw); go_simp; (try with_reducible rfl)
                    simp only [Act.put, List.getElem_toArray, List.getElem_cons_zero, List.getElem_cons_succ, List.setIfInBounds_toArray, List.set_cons_zero, List.set_cons_succ]
                    refine wpAnyM_take (i := 8) (v := ?_) rfl (by kernel_rfl) (by kernel_rfl) (by kernel_rfl) (by kernel_rfl) (fun _ _ _ h => h) (Or.inl ⟨by rfl, ?_⟩) hS0 ?_
                    rotate_left
                    · intro w hSw; (try dsimp only at hSw); go_simp; (try with_reducible rfl)
                    simp only [Act.put, List.getElem_toArray, List.getElem_cons_zero, List.getElem_cons_succ, List.setIfInBounds_toArray, List.set_cons_zero, List.set_cons_succ]
                    refine wpAnyM_take (i := 9) (v := ?_) rfl (by kernel_rfl) (by kernel_rfl) (by kernel_rfl) (by kernel_rfl) (fun _ _ _ h => h) (Or.inl ⟨by rfl, ?_⟩) hS0 ?_
                    rotate_left
                    · intro w hSw; (try dsimp only at hSw); go_simp; (try with_reducible rfl)
                    simp only [Act.put, List.getElem_toArray, List.getElem_cons_zero, List.getElem_cons_succ, List.setIfInBounds_toArray, List.set_cons_zero, List.set_cons_succ]
                    refine wpAnyM_take (i := 13) (v := ?_) rfl (by kernel_rfl) (by kernel_rfl) (by kernel_rfl) (by kernel_rfl) (fun _ _ _ h => h) (Or.inl ⟨by rfl, ?_⟩) hS0 ?_
                    rotate_left
                    · intro w hSw; (try dsimp only at hSw); go_simp; (try with_reducible rfl)
                    simp only [Act.put, List.getElem_toArray, List.getElem_cons_zero, List.getElem_cons_succ, List.setIfInBounds_toArray, List.set_cons_zero, List.set_cons_succ]
                    refine wpAnyM_take (i := 14) (v := ?_) rfl (by kernel_rfl) (by kernel_rfl) (by kernel_rfl) (by kernel_rfl) (fun _ _ _ h => h) (Or.inl ⟨by rfl, ?_⟩) hS0 ?_
                    rotate_left
                    · intro w hSw; (try dsimp only at hSw); go_simp; (try with_reducible rfl)
                    simp only [Act.put, List.getElem_toArray, List.getElem_cons_zero, List.getElem_cons_succ, List.setIfInBounds_toArray, List.set_cons_zero, List.set_cons_succ]
                    refine wpAnyM_take (i := 15) (v := ?_) rfl (by kernel_rfl) (by kernel_rfl) (by kernel_rfl) (by kernel_rfl) (fun _ _ _ h => h) (Or.inl ⟨by rfl, ?_⟩) hS0 ?_
                    rotate_left
                    · intro w hSw; (try dsimp only at hSw); go_simp; (try with_reducible rfl)
                    simp only [Act.put, List.getElem_toArray, List.getElem_cons_zero, List.getElem_cons_succ, List.setIfInBounds_toArray, List.set_cons_zero, List.set_cons_succ]
                    refine wpAnyM_take (i := 16) (v := ?_) rfl (by kernel_rfl) (by kernel_rfl) (by kernel_rfl) (by kernel_rfl) (fun _ _ _ h => h) (Or.inl ⟨by rfl, ?_⟩) hS0 ?_
                    rotate_left
                    · intro w hSw; (try dsimp only at hSw); go_simp; (try with_reducible rfl)
                    simp only [Act.put, List.getElem_toArray, List.getElem_cons_zero, List.getElem_cons_succ, List.setIfInBounds_toArray, List.set_cons_zero, List.set_cons_succ]
                    refine wpAnyM_take (i := 17) (v := ?_) rfl (by kernel_rfl) (by kernel_rfl) (by kernel_rfl) (by kernel_rfl) (fun _ _ _ h => h) (Or.inl ⟨by rfl, ?_⟩) hS0 ?_
                    rotate_left
                    · intro w hSw; (try dsimp only at hSw); go_simp; (try with_reducible rfl)
                    simp only [Act.put, List.getElem_toArray, List.getElem_cons_zero, List.getElem_cons_succ, List.setIfInBounds_toArray, List.set_cons_zero, List.set_cons_succ]
                    refine wpAnyM_take (i := 18) (v := ?_) rfl (by kernel_rfl) (by kernel_rfl) (by kernel_rfl) (by kernel_rfl) (fun _ _ _ h => h) (Or.inl ⟨by rfl, ?_⟩) hS0 ?_
                    rotate_left
                    · intro w hSw; (try dsimp only at hSw); go_simp; (try with_reducible rfl)
                    simp only [Act.put, List.getElem_toArray, List.getElem_cons_zero, List.getElem_cons_succ, List.setIfInBounds_toArray, List.set_cons_zero, List.set_cons_succ]
                    refine wpAnyM_one (i := 10) (by kernel_rfl) rfl (fun K hK => ?_)
                    go_simp
                    go_wp2_with (go_at_call 34; (with_reducible refine (HP1.out _ B7.out).mono ?_); rintro e w9 ⟨rfl, rfl⟩)
                    refine hK.out _ _ (fun _ => hS0) ?_
                    clear hK K
                    refine wpAnyM_take (i := 11) (v := ?_) rfl (by kernel_rfl) (by kernel_rfl) (by kernel_rfl) (by kernel_rfl) (fun _ _ _ h => h) (Or.inl ⟨by rfl, ?_⟩) hS0 ?_
                    rotate_left
                    · intro w hSw; (try dsimp only at hSw); go_simp; (try with_reducible rfl)
                    simp only [Act.put, List.getElem_toArray, List.getElem_cons_zero, List.getElem_cons_succ, List.setIfInBounds_toArray, List.set_cons_zero, List.set_cons_succ]
                    refine wpAnyM_take (i := 12) (v := ?_) rfl (by kernel_rfl) (by kernel_rfl) (by kernel_rfl) (by kernel_rfl) (fun _ _ _ h => h) (Or.inl ⟨by rfl, ?_⟩) hS0 ?_
                    rotate_left
                    · intro w hSw; (try dsimp only at hSw); go_simp; (try with_reducible rfl)
                    simp only [Act.put, List.getElem_toArray, List.getElem_cons_zero, List.getElem_cons_succ, List.setIfInBounds_toArray, List.set_cons_zero, List.set_cons_succ]
                    refine wpAnyM_one (i := 19) (by kernel_rfl) rfl (fun K hK => ?_)
                    go_simp
                    go_wp2_with (go_at_call 34; (with_reducible refine (HP2.out _ B7.out).mono ?_); rintro e w9 ⟨rfl, rfl⟩)
                    refine hK.out _ _ (fun _ => hS0) ?_
                    clear hK K
                    refine wpAnyM_take (i := 20) (v := ?_) rfl (by kernel_rfl) (by kernel_rfl) (by kernel_rfl) (by kernel_rfl) (fun _ _ _ h => h) (Or.inl ⟨by rfl, ?_⟩) hS0 ?_
                    rotate_left
                    · intro w hSw; (try dsimp only at hSw); go_simp; (try with_reducible rfl)
                    simp only [Act.put, List.getElem_toArray, List.getElem_cons_zero, List.getElem_cons_succ, List.setIfInBounds_toArray, List.set_cons_zero, List.set_cons_succ]
                    refine wpAnyM_take (i := 21) (v := ?_) rfl (by kernel_rfl) (by kernel_rfl) (by kernel_rfl) (by kernel_rfl) (fun _ _ _ h => h) (Or.inl ⟨by rfl, ?_⟩) hS0 ?_
                    rotate_left
                    · intro w hSw; (try dsimp only at hSw); go_simp; (try with_reducible rfl)
                    simp only [Act.put, List.getElem_toArray, List.getElem_cons_zero, List.getElem_cons_succ, List.setIfInBounds_toArray, List.set_cons_zero, List.set_cons_succ]
                    refine wpAnyM_take (i := 22) (v := ?_) rfl (by kernel_rfl) (by kernel_rfl) (by kernel_rfl) (by kernel_rfl) (fun _ _ _ h => h) (Or.inl ⟨by rfl, ?_⟩) hS0 ?_
                    rotate_left
                    · intro w hSw; (try dsimp only at hSw); go_simp; (try with_reducible rfl)
                    simp only [Act.put, List.getElem_toArray, List.getElem_cons_zero, List.getElem_cons_succ, List.setIfInBounds_toArray, List.set_cons_zero, List.set_cons_succ]
                    refine wpAnyM_take (i := 23) (v := ?_) rfl (by kernel_rfl) (by kernel_rfl) (by kernel_rfl) (by kernel_rfl) (fun _ _ _ h => h) (Or.inl ⟨by rfl, ?_⟩) hS0 ?_
                    rotate_left
                    · intro w hSw; (try dsimp only at hSw); go_simp; (try with_reducible rfl)
                    simp only [Act.put, List.getElem_toArray, List.getElem_cons_zero, List.getElem_cons_succ, List.setIfInBounds_toArray, List.set_cons_zero, List.set_cons_succ]
                    refine wpAnyM_take (i := 24) (v := ?_) rfl (by kernel_rfl) (by kernel_rfl) (by kernel_rfl) (by kernel_rfl) (fun _ _ _ h => h) (Or.inl ⟨by rfl, ?_⟩) hS0 ?_
                    rotate_left
                    · intro w hSw; (try dsimp only at hSw); go_simp; (try with_reducible rfl)
                    simp only [Act.put, List.getElem_toArray, List.getElem_cons_zero, List.getElem_cons_succ, List.setIfInBounds_toArray, List.set_cons_zero, List.set_cons_succ]
                    refine wpAnyM_one (i := 25) (by kernel_rfl) rfl (fun K hK => ?_)
                    go_simp
                    refine hK.out _ _ (fun _ => hS0) ?_
                    clear hK K
                    refine wpAnyM_done (by kernel_rfl) ?_ _
                    clear h1
                    go_wp2_with (fail)
                    go_roundw
                    case rel => exact ⟨n + 1, by omega, by rw [HAN.out, HE.out]; rfl, by go_num, Lib.hid BL.out.drew⟩
                    case measure => simp [intOf]; omega
              · obtain rfl : n = es.length := by omega
                have hnI : ¬ (es.length : Int) < (es.length : Int) := by omega
                rw [List.take_length]
                have hany : (es.any fun e => decide (e = (⟨f9, a.lab, t9⟩ : Ed))) = decide ((⟨f9, a.lab, t9⟩ : Ed) ∈ es) := by
                  by_cases hm : (⟨f9, a.lab, t9⟩ : Ed) ∈ es
                  · rw [decide_eq_true hm, List.any_eq_true]
                    exact ⟨_, hm, decide_eq_true rfl⟩
                  · rw [decide_eq_false hm, List.any_eq_false]
                    intro e he h
                    exact hm (of_decide_eq_true h ▸ he)
                rw [hany]
                have B9 := Lib.hid hb7
                clear hany hb7 hrel
                cases hd : decide ((⟨f9, a.lab, t9⟩ : Ed) ∈ es) with
                | true =>
                  have HJ1 := Lib.hid (HJ.out.1.trans hd)
                  clear hd HJ
                  go_wp2_with (fail)
                  go_roundw
                  case rel => exact ⟨k + 1, by omega, by go_num, Lib.hid ⟨HJ1.out, B9.out⟩⟩
                  case measure => simp [intOf]; omega
                | false =>
                  have HF := Lib.hid (show R = false from by rw [HR.out]; exact HJ.out.2 hd)
                  clear hd HJ
                  go_wp2_with (fail)
                  go_ret
                  exact ⟨by rw [HF.out]; rfl, B3.out.1.trans (lower' B9.out B3.out.1.size)⟩
          · have hkI : ¬ (k : Int) < (x.v.atoms.length : Int) := by omega
            have hall := hrel.out.1
            rw [List.take_of_length_le (by omega)] at hall
            have HF := Lib.hid (show R = true from by rw [HR.out]; exact hall)
            have HB9 := Lib.hid (B3.out.1.trans (lower' hrel.out.2 B3.out.1.size))
            clear hall hrel
            go_wp2_with (fail)
            go_ret
            exact ⟨by rw [HF.out]; rfl, HB9.out⟩
      · have HF := Lib.hid (show R = false from by rw [hR, decide_eq_false hlen]; rfl)
        have hlI : ((t.l.length : Int) != ((varsL x.v.atoms).length : Int)) = true := by simp; omega
        clear hR hlen
        go_enter Try.func21, Try.ntmps21
        go_wp2_with (first
          | (go_at_call 23; (with_reducible refine HV.out.mono ?_); rintro e w2 ⟨vA, vc, rfl, _, s2, b2⟩; have g2 := (b2.block w.heap.size (by simp)).trans HB.out.2; obtain ⟨q0, q1, q2, q3, q4⟩ := box5 g2; have B2 := Lib.hid (And.intro (HB.out.1.trans (lower' b2 HB.out.1.size)) (And.intro g2 s2)); have HGD2 := Lib.hid (HGD.out w2 B2.out.1); clear g2 s2 b2)
          | (go_at_call 32; (with_reducible refine HGD2.out.mono ?_); rintro e w3 ⟨rfl, b3⟩; have B3 := Lib.hid (And.intro (B2.out.1.trans (lower' b3 B2.out.1.size)) (And.intro ((b3.block w.heap.size (heap_lt B2.out.2.1)).trans B2.out.2.1) (B2.out.2.2.below b3))); clear q0 q1 q2 q3 q4 b3))
        go_ret
        exact ⟨by rw [HF.out]; rfl, B3.out.1⟩
  · have HF := Lib.hid (show R = false from by
      rw [hR, show goodP x.v = false from by unfold goodP patOk; rw [decide_eq_false hk1]; simp]
      rfl)
    have hkb : (x.v.kind != 1) = true := by simp [hk1]
    unfold vwA at hb1 hg1 hv ⊢
    have HB := Lib.hid (And.intro hb1 hg1)
    have HV := Lib.hid hv
    clear hb1 hg1 hv hgd hR hk1
    go_enter Try.func21, Try.ntmps21
    go_wp2_with (go_at_call 23; (with_reducible refine HV.out.mono ?_); rintro e w2 ⟨vA, vc, rfl, _, s2, b2⟩; have g2 := (b2.block w.heap.size (by simp)).trans HB.out.2; obtain ⟨q0, q1, q2, q3, q4⟩ := box5 g2; have B2 := Lib.hid (And.intro (HB.out.1.trans (lower' b2 HB.out.1.size)) (And.intro g2 s2)); clear g2 s2 b2)
    go_ret
    exact ⟨by rw [HF.out]; rfl, B2.out.1⟩
end Go.Proofs.Ytobieolonlddlaa
