/- The document's Result. -/
import Derived.Test.YtgldcahhliokeaaJoBV0
namespace Go.Proofs.Ytgldcahhliokeaa
open Go.RowKit Go.Maps

set_option maxRecDepth 100000 in
set_option maxHeartbeats 8000000 in
theorem rresult_bad (x : VW) (A : Option Addr) (c : Nat) (es : List Ed) (w : World) (hx : x.Ok w) (hl : x.v.Lens) (h12 : x.v.atoms.length ≤ 12) (he : Eds w A c es) (h0 : rowsC x.v es ≠ 0) :
    Calls Try.prog 18 #[.agg (vwA x), .slice A es.length c] w (RrPost w (rowsC x.v es) (resR x.v es) (resN x.v es)) := by
  have hb1 : Below w.heap.size w (w.alloc (.cells (vwA x) 25)) := (Below.refl _ _).alloc (Nat.le_refl _) _
  have hg1 := heap_alloc_new w (.cells (vwA x) 25)
  have hk := rrows_any x A c es _ (hx.below hb1) hl h12 (he.below hb1)
  have hRR : resR x.v es = [] := if_neg h0
  have hNN : resN x.v es = [] := if_neg h0
  have hc1 : (rowsC x.v es != 0) = true := by simp [h0]
  unfold vwA at hb1 hg1 hk ⊢
  obtain ⟨q0, q1, q2, q3, q4⟩ := box5 hg1
  generalize hC : rowsC x.v es = C at hk hc1
  have HB := Lib.hid hb1
  have HK := Lib.hid hk
  have HC := Lib.hid (And.intro hC (And.intro hRR hNN))
  clear hx hl h12 he h0 hb1 hg1 hk hRR hNN hC
  go_enter Try.func18, Try.ntmps18
  go_wp2_with (go_at_call 16; (with_reducible refine HK.out.mono ?_); rintro e w1 ⟨y, rfl, _, _, b1⟩; have B1 := Lib.hid (HB.out.trans (lower' b1 HB.out.size)); clear b1)
  exact bodyPost_ret (results_tmp3 rfl _ _ _) rfl ⟨⟨none, [], 0⟩, ⟨none, [], 0⟩, rfl, okL_nil _, HC.out.2.1.symm, ⟨Rd.emp _ _ _, Nat.le_refl _, by simp⟩, HC.out.2.2.symm, B1.out, ⟨fun _ h => (nomatch h), fun _ h => (nomatch h)⟩⟩
set_option maxRecDepth 100000 in
set_option maxHeartbeats 8000000 in
theorem rresult_ok (x : VW) (A : Option Addr) (c : Nat) (es : List Ed) (w : World) (hx : x.Ok w) (hl : x.v.Lens) (h12 : x.v.atoms.length ≤ 12) (he : Eds w A c es) (h0 : rowsC x.v es = 0) :
    Calls Try.prog 18 #[.agg (vwA x), .slice A es.length c] w (RrPost w 0 (setL (outsOf x.v es)) (cnt (setL (outsOf x.v es)) (outsOf x.v es))) := by
  have hb1 : Below w.heap.size w (w.alloc (.cells (vwA x) 25)) := (Below.refl _ _).alloc (Nat.le_refl _) _
  have hg1 := heap_alloc_new w (.cells (vwA x) 25)
  have hk := rrows_any x A c es _ (hx.below hb1) hl h12 (he.below hb1)
  have hv := fun W (hW : Below w.heap.size w W) => rvars_any x W (hx.below hW) h12
  obtain ⟨-, g2, g3, -, g5, -⟩ := goodP_names (rows_good h0)
  have hlen := rowsR_lens (v := x.v) (es := es)
  rw [h0] at hk
  unfold vwA at hb1 hg1 hk hv ⊢
  obtain ⟨q0, q1, q2, q3, q4⟩ := box5 hg1
  have HB := Lib.hid (And.intro hb1 hg1)
  have HK := Lib.hid hk
  have HV := Lib.hid hv
  have HX := Lib.hid (And.intro hx (And.intro hlen g5))
  have ho6 : x.v.out.length ≤ 6 := g3
  clear hx hl h12 he h0 hb1 hg1 hk hv hlen g2 g5 g3
  go_enter Try.func18, Try.ntmps18
  go_upto_region 2 with (go_at_call 16; (with_reducible refine HK.out.mono ?_); rintro e w1 ⟨y, rfl, k1, e1, b1⟩; have B1 := Lib.hid (And.intro (HB.out.1.trans (lower' b1 HB.out.1.size)) ((b1.block w.heap.size (by simp)).trans HB.out.2)); have Y1 := Lib.hid (And.intro k1 e1); have HV1 := Lib.hid (HV.out w1 B1.out.1); clear q0 q1 q2 q3 q4 k1 e1 b1)
  obtain ⟨q0, q1, q2, q3, q4⟩ := box5 B1.out.2
  go_upto_region 5 with (go_at_call 38; (with_reducible refine HV1.out.mono ?_); rintro e w3 ⟨vA, vc, rfl, _, s3, b3⟩; have B3 := Lib.hid (And.intro (B1.out.1.trans (lower' b3 B1.out.1.size)) (And.intro ((b3.block w.heap.size (heap_lt B1.out.2)).trans B1.out.2) (And.intro s3 (Y1.out.1.below b3)))); clear q0 q1 q2 q3 q4 b3 s3)
  have hys : y.ts.length ≤ 5000 := Y1.out.1.sm
  have hyl := fun (r : TV) (hr : r ∈ y.ts) => HX.out.2.1 r.l (by rw [← Y1.out.2]; exact mem_tus hr)
  have HYL := Lib.hid hyl
  have HE := Lib.hid (show (tus y.ts).map (outL (varsL x.v.atoms) x.v.out) = outsOf x.v es from by rw [Y1.out.2]; rfl)
  clear hyl HK HV HV1 Y1 B1 HB
  go_wp2_with (fail)
  go_loopw [10, 31] (fun all i wr => ∃ (k : Nat) (us : List TV), k ≤ y.ts.length ∧ i = .int .i64 (k : Int) ∧ Hid (RowsAt wr w3.heap.size all us ∧ tus us = ((tus y.ts).take k).map (outL (varsL x.v.atoms) x.v.out) ∧ us.length = k ∧ Below w3.heap.size w3 wr)) (fun _ i _ => y.ts.length - (intOf i).toNat)
  case atStart => exact ⟨0, [], by omega, rfl, Lib.hid ⟨RowsAt.nil _ _, rfl, rfl, Below.refl _ _⟩⟩
  case round =>
    obtain ⟨k, us, hk, rfl, hrel⟩ := hrel
    rename World => wi
    have hBw := B3.out.1.trans (lower' hrel.out.2.2.2 B3.out.1.size)
    by_cases hlt : k < y.ts.length
    · obtain ⟨b, o, hA, hbb, c0⟩ := LV.Ok.cell' (B3.out.2.2.2.below hrel.out.2.2.2) hlt
      have hlI : (k : Int) < (y.ts.length : Int) := by omega
      have hok := (B3.out.2.2.2.below hrel.out.2.2.2).at hlt
      have hrl := HYL.out _ (List.getElem_mem hlt)
      have htl : k < (tus y.ts).length := by rw [tus_len]; exact hlt
      have hat : (tus y.ts)[k] = y.ts[k].l := tus_at y.ts k hlt
      have htk : (tus y.ts).take (k + 1) = (tus y.ts).take k ++ [(tus y.ts)[k]] := List.take_succ_eq_append_getElem htl
      rw [hat] at htk
      rw [hA]
      generalize y.ts[k] = r at c0 hok hrl htk
      obtain ⟨-, -, q2, -, -⟩ := box5 ((hrel.out.2.2.2.block _ (heap_lt B3.out.2.1)).trans B3.out.2.1)
      have HR := Lib.hid (And.intro hok (And.intro hrl (And.intro htk (And.intro hbb c0))))
      have HR0 := Lib.hid hrel.out
      have HBW := Lib.hid hBw
      clear hBw hok hrl htl hat htk hbb c0 hrel
      go_wp2_with (fail)
      clear q2
      go_loopw [12, 37] (fun t j wr => ∃ (m : Nat) (cu : TV), m ≤ x.v.out.length ∧ j = .int .i64 (m : Int) ∧ t = .slice cu.A cu.l.length cu.c ∧ Hid (OwnI wr wi.heap.size cu ∧ cu.l = (x.v.out.take m).map (fun o => r.l.getD ((varsL x.v.atoms).idxOf o) 0) ∧ Below wi.heap.size wi wr)) (fun _ j _ => x.v.out.length - (intOf j).toNat)
      case atStart => exact ⟨0, ⟨none, [], 0⟩, by omega, rfl, rfl, Lib.hid ⟨World.ownsRow_nil _ _ _ _, rfl, Below.refl _ _⟩⟩
      case round =>
        obtain ⟨m, cu, hm, rfl, rfl, hrel⟩ := hrel
        by_cases hmt : m < x.v.out.length
        · have hBwr := HBW.out.trans (lower' hrel.out.2.2 HBW.out.size)
          have hB3r := HR0.out.2.2.2.trans (lower' hrel.out.2.2 HR0.out.2.2.2.size)
          obtain ⟨b', o', hA', hbb', d0⟩ := (HX.out.1.below hBwr).out.cell hmt
          have hmI : (m : Int) < (x.v.out.length : Int) := by omega
          have htm : x.v.out.take (m + 1) = x.v.out.take m ++ [x.v.out[m]] := List.take_succ_eq_append_getElem hmt
          have hin := HX.out.2.2 _ (List.getElem_mem hmt)
          have hgv := (hB3r.block _ (heap_lt B3.out.2.1)).trans B3.out.2.1
          have q2 := (box5 hgv).2.2.1
          rw [hA'] at q2
          have hcs : ∀ W, Below w.heap.size w W → W.cell? ⟨b', o' + m, none⟩ = some (.string ⟨x.v.out[m].toArray⟩) := fun W hW => by
            obtain ⟨b2, o2, hA2, _, d2⟩ := (HX.out.1.below hW).out.cell hmt
            rw [hA'] at hA2
            injection hA2 with hA2
            injection hA2 with e8 e9
            subst e8 e9
            exact d2
          generalize x.v.out[m] = nm at d0 htm hin hcs
          have hD : Below wr.heap.size wr wr.drew := (Below.refl wr.heap.size wr).drew
          have hix := at_any vA vc (varsL x.v.atoms) nm wr.drew (B3.out.2.2.1.below (hB3r.trans (lower' hD hB3r.size)))
          rw [index_at hin] at hix
          have hil := idx_lt hin
          have hcl : cu.l.length ≤ 6 := by rw [hrel.out.2.1, List.length_map, List.length_take]; omega
          generalize hp : (varsL x.v.atoms).idxOf nm = p at hix hil
          obtain ⟨rb, ro, hrA, hrb, rc⟩ := HR.out.1.cell (k := p) (by rw [HR.out.2.1]; exact hil)
          have hget : r.l.getD p 0 = r.l[p]'(by rw [HR.out.2.1]; exact hil) := by rw [List.getD_eq_getElem?_getD, List.getElem?_eq_getElem (by rw [HR.out.2.1]; exact hil)]; rfl
          rw [← hget] at rc
          have rc := (hrel.out.2.2.cell (p := ⟨rb, ro + p, none⟩) hrb).trans rc
          have rr := (hrel.out.2.2.cell (p := ⟨b, o + k, none⟩) HR.out.2.2.2.1).trans HR.out.2.2.2.2
          rw [hrA] at rr
          generalize hxv : r.l.getD p 0 = xv at rc
          have hpl : (p : Int) < (r.l.length : Int) := by rw [HR.out.2.1]; omega
          have hcu2 := OwnI.below hrel.out.1 hD
          obtain ⟨u', w5, hrun, hul, hO5, hB5⟩ := run_app1I wr.drew wi.heap.size cu xv hcu2 hrel.out.2.2.size (by omega)
          have hnl : u'.l = (x.v.out.take (m + 1)).map (fun o => r.l.getD ((varsL x.v.atoms).idxOf o) 0) := by
            rw [hul, hrel.out.2.1, htm, List.map_append]
            show _ = _ ++ [r.l.getD ((varsL x.v.atoms).idxOf nm) 0]
            rw [hp, hxv]
          have hB5' := hrel.out.2.2.trans ((lower' hD hrel.out.2.2.size).trans hB5)
          have H5 := Lib.hid (And.intro hO5 (And.intro hnl hB5'))
          have cS : ∀ WW, Below wi.heap.size wi WW → WW.cell? ⟨b, o + k, none⟩ = some (.slice (some ⟨rb, ro, none⟩) r.l.length r.c) ∧ WW.cell? ⟨w.heap.size, 2, none⟩ = some (.slice (some ⟨b', o', none⟩) x.v.out.length x.oc) ∧ WW.cell? ⟨b', o' + m, none⟩ = some (.string ⟨nm.toArray⟩) ∧ WW.cell? ⟨rb, ro + p, none⟩ = some (.int .i64 xv) := by
            intro WW hW
            have e1 := (hW.cell (p := ⟨b, o + k, none⟩) HR.out.2.2.2.1).trans HR.out.2.2.2.2
            rw [hrA] at e1
            have e2 := (box5 (((HR0.out.2.2.2.trans (lower' hW HR0.out.2.2.2.size)).block _ (heap_lt B3.out.2.1)).trans B3.out.2.1)).2.2.1
            rw [hA'] at e2
            have e4 := (hW.cell (p := ⟨rb, ro + p, none⟩) hrb).trans ((hrel.out.2.2.cell (p := ⟨rb, ro + p, none⟩) hrb).symm.trans rc)
            exact ⟨e1, e2, hcs _ (HBW.out.trans (lower' hW HBW.out.size)), e4⟩
          have HSP := Lib.hid (fun WW (hW : Below wr.heap.size wr WW) => cS WW (hrel.out.2.2.trans (lower' hW hrel.out.2.2.size)))
          have HIX := Lib.hid hix
          have B0 := Lib.hid hD
          have B5 := Lib.hid (cS w5 hB5')
          have hrun := hrun
          clear hBwr hB3r hbb' d0 htm hin hgv hcs hD hix hil hcl hp hrA hrb hget rc rr hxv hcu2 hul hO5 hB5 hnl hB5' cS q2 hA' hrel
          go_upto_region 13 with (fail)
          refine wp_region_M (fun j => decide (j < 16)) (fun w' => w'.cell? ⟨b, o + k, none⟩ = some (.slice (some ⟨rb, ro, none⟩) r.l.length r.c) ∧ w'.cell? ⟨w.heap.size, 2, none⟩ = some (.slice (some ⟨b', o', none⟩) x.v.out.length x.oc) ∧ w'.cell? ⟨b', o' + m, none⟩ = some (.string ⟨nm.toArray⟩) ∧ w'.cell? ⟨rb, ro + p, none⟩ = some (.int .i64 xv)) (by kernel_rfl) ?_
          refine wpAnyM_take (i := 0) (v := ?_) rfl (by kernel_rfl) (by kernel_rfl) (by kernel_rfl) (by kernel_rfl) (fun _ _ _ h => h) (Or.inl ⟨by rfl, ?_⟩) (HSP.out _ B0.out) ?_
          rotate_left
          · intro w hSw; (try dsimp only at hSw); go_simp; (try with_reducible rfl)
          simp only [Act.put, List.getElem_toArray, List.getElem_cons_zero, List.getElem_cons_succ, List.setIfInBounds_toArray, List.set_cons_zero, List.set_cons_succ]
          refine wpAnyM_take (i := 1) (v := ?_) rfl (by kernel_rfl) (by kernel_rfl) (by kernel_rfl) (by kernel_rfl) (fun _ _ _ h => h) (Or.inl ⟨by rfl, ?_⟩) (HSP.out _ B0.out) ?_
          rotate_left
          · intro w hSw; (try dsimp only at hSw); go_simp; (try with_reducible rfl)
          simp only [Act.put, List.getElem_toArray, List.getElem_cons_zero, List.getElem_cons_succ, List.setIfInBounds_toArray, List.set_cons_zero, List.set_cons_succ]
          refine wpAnyM_take (i := 2) (v := ?_) rfl (by kernel_rfl) (by kernel_rfl) (by kernel_rfl) (by kernel_rfl) (fun _ _ _ h => h) (Or.inl ⟨by rfl, ?_⟩) (HSP.out _ B0.out) ?_
          rotate_left
          · intro w hSw; (try dsimp only at hSw); go_simp; (try with_reducible rfl)
          simp only [Act.put, List.getElem_toArray, List.getElem_cons_zero, List.getElem_cons_succ, List.setIfInBounds_toArray, List.set_cons_zero, List.set_cons_succ]
          refine wpAnyM_take (i := 3) (v := ?_) rfl (by kernel_rfl) (by kernel_rfl) (by kernel_rfl) (by kernel_rfl) (fun _ _ _ h => h) (Or.inl ⟨by rfl, ?_⟩) (HSP.out _ B0.out) ?_
          rotate_left
          · intro w hSw; (try dsimp only at hSw); go_simp; (try with_reducible rfl)
          simp only [Act.put, List.getElem_toArray, List.getElem_cons_zero, List.getElem_cons_succ, List.setIfInBounds_toArray, List.set_cons_zero, List.set_cons_succ]
          refine wpAnyM_take (i := 4) (v := ?_) rfl (by kernel_rfl) (by kernel_rfl) (by kernel_rfl) (by kernel_rfl) (fun _ _ _ h => h) (Or.inl ⟨by rfl, ?_⟩) (HSP.out _ B0.out) ?_
          rotate_left
          · intro w hSw; (try dsimp only at hSw); go_simp; (try with_reducible rfl)
          simp only [Act.put, List.getElem_toArray, List.getElem_cons_zero, List.getElem_cons_succ, List.setIfInBounds_toArray, List.set_cons_zero, List.set_cons_succ]
          refine wpAnyM_take (i := 5) (v := ?_) rfl (by kernel_rfl) (by kernel_rfl) (by kernel_rfl) (by kernel_rfl) (fun _ _ _ h => h) (Or.inl ⟨by rfl, ?_⟩) (HSP.out _ B0.out) ?_
          rotate_left
          · intro w hSw; (try dsimp only at hSw); go_simp; (try with_reducible rfl)
          simp only [Act.put, List.getElem_toArray, List.getElem_cons_zero, List.getElem_cons_succ, List.setIfInBounds_toArray, List.set_cons_zero, List.set_cons_succ]
          refine wpAnyM_take (i := 6) (v := ?_) rfl (by kernel_rfl) (by kernel_rfl) (by kernel_rfl) (by kernel_rfl) (fun _ _ _ h => h) (Or.inl ⟨by rfl, ?_⟩) (HSP.out _ B0.out) ?_
          rotate_left
          · intro w hSw; (try dsimp only at hSw); go_simp; (try with_reducible rfl)
          simp only [Act.put, List.getElem_toArray, List.getElem_cons_zero, List.getElem_cons_succ, List.setIfInBounds_toArray, List.set_cons_zero, List.set_cons_succ]
          refine wpAnyM_take (i := 7) (v := ?_) rfl (by kernel_rfl) (by kernel_rfl) (by kernel_rfl) (by kernel_rfl) (fun _ _ _ h => h) (Or.inl ⟨by rfl, ?_⟩) (HSP.out _ B0.out) ?_
          rotate_left
          · intro w hSw; (try dsimp only at hSw); go_simp; (try with_reducible rfl)
          simp only [Act.put, List.getElem_toArray, List.getElem_cons_zero, List.getElem_cons_succ, List.setIfInBounds_toArray, List.set_cons_zero, List.set_cons_succ]
          refine wpAnyM_take (i := 8) (v := ?_) rfl (by kernel_rfl) (by kernel_rfl) (by kernel_rfl) (by kernel_rfl) (fun _ _ _ h => h) (Or.inl ⟨by rfl, ?_⟩) (HSP.out _ B0.out) ?_
          rotate_left
          · intro w hSw; (try dsimp only at hSw); go_simp; (try with_reducible rfl)
          simp only [Act.put, List.getElem_toArray, List.getElem_cons_zero, List.getElem_cons_succ, List.setIfInBounds_toArray, List.set_cons_zero, List.set_cons_succ]
          refine wpAnyM_take (i := 9) (v := ?_) rfl (by kernel_rfl) (by kernel_rfl) (by kernel_rfl) (by kernel_rfl) (fun _ _ _ h => h) (Or.inl ⟨by rfl, ?_⟩) (HSP.out _ B0.out) ?_
          rotate_left
          · intro w hSw; (try dsimp only at hSw); go_simp; (try with_reducible rfl)
          simp only [Act.put, List.getElem_toArray, List.getElem_cons_zero, List.getElem_cons_succ, List.setIfInBounds_toArray, List.set_cons_zero, List.set_cons_succ]
          refine wpAnyM_take (i := 10) (v := ?_) rfl (by kernel_rfl) (by kernel_rfl) (by kernel_rfl) (by kernel_rfl) (fun _ _ _ h => h) (Or.inl ⟨by rfl, ?_⟩) (HSP.out _ B0.out) ?_
          rotate_left
          · intro w hSw; (try dsimp only at hSw); go_simp; (try with_reducible rfl)
          simp only [Act.put, List.getElem_toArray, List.getElem_cons_zero, List.getElem_cons_succ, List.setIfInBounds_toArray, List.set_cons_zero, List.set_cons_succ]
          refine wpAnyM_one (i := 11) (by kernel_rfl) rfl (fun K hK => ?_)
          go_simp
          go_wp2_with (go_at_call 40; (with_reducible refine HIX.out.mono ?_); rintro e w9 ⟨rfl, rfl⟩)
          refine hK.out _ _ (fun _ => HSP.out _ B0.out) ?_
          clear hK K
          refine wpAnyM_take (i := 12) (v := ?_) rfl (by kernel_rfl) (by kernel_rfl) (by kernel_rfl) (by kernel_rfl) (fun _ _ _ h => h) (Or.inl ⟨by rfl, ?_⟩) (HSP.out _ B0.out) ?_
          rotate_left
          · intro w hSw; (try dsimp only at hSw); go_simp; (try with_reducible rfl)
          simp only [Act.put, List.getElem_toArray, List.getElem_cons_zero, List.getElem_cons_succ, List.setIfInBounds_toArray, List.set_cons_zero, List.set_cons_succ]
          refine wpAnyM_take (i := 13) (v := ?_) rfl (by kernel_rfl) (by kernel_rfl) (by kernel_rfl) (by kernel_rfl) (fun _ _ _ h => h) (Or.inl ⟨by rfl, ?_⟩) (HSP.out _ B0.out) ?_
          rotate_left
          · intro w hSw; (try dsimp only at hSw); go_simp; (try with_reducible rfl)
          simp only [Act.put, List.getElem_toArray, List.getElem_cons_zero, List.getElem_cons_succ, List.setIfInBounds_toArray, List.set_cons_zero, List.set_cons_succ]
          refine wpAnyM_one (i := 14) (by kernel_rfl) rfl (fun K hK => ?_)
          go_simp
          have B1 := Lib.hid (Below.alloc B0.out B0.out.size (.cells #[.int .i64 xv] 3))
          refine hK.out _ _ (fun _ => HSP.out _ B1.out) ?_
          clear hK K
          refine wpAnyM_one (i := 15) (by kernel_rfl) rfl (fun K hK => ?_)
          refine step_appK _ (by rfl) (.tmp 40) (.tmp 54) 43 rfl rfl _ _ _ _ rfl rfl hrun ?_
          refine hK.out _ _ (fun _ => B5.out) ?_
          clear hK K
          refine wpAnyM_one (i := 16) (by kernel_rfl) rfl (fun K hK => ?_)
          go_simp
          refine hK.out _ _ (fun h => absurd h (by decide)) ?_
          clear hK K
          refine wpAnyM_done (by kernel_rfl) ?_ _
          go_wp2_with (fail)
          go_roundw
          case rel => exact ⟨m + 1, u', by omega, by go_num, rfl, Lib.hid H5.out⟩
          case measure => simp [intOf]; omega
        · have hmI : ¬ (m : Int) < (x.v.out.length : Int) := by omega
          have hB3r := HR0.out.2.2.2.trans (lower' hrel.out.2.2 HR0.out.2.2.2.size)
          have q2 := (box5 ((hB3r.block _ (heap_lt B3.out.2.1)).trans B3.out.2.1)).2.2.1
          have hcu := hrel.out.2.1
          rw [List.take_of_length_le (by omega)] at hcu
          have htu : tus (us ++ [cu]) = ((tus y.ts).take (k + 1)).map (outL (varsL x.v.atoms) x.v.out) := by
            rw [tus_app, HR0.out.2.1, HR.out.2.2.1, List.map_append]
            show _ ++ [cu.l] = _
            rw [hcu]
            rfl
          have hcl : cu.l.length ≤ 100 := by rw [hcu, List.length_map]; omega
          obtain ⟨A5, c5, w5, hrun5, h5, b5⟩ := (HR0.out.1.kept hrel.out.2.2).push (own_mono hrel.out.1 HR0.out.2.2.2.size) hcl (by rw [HR0.out.2.2.1]; omega) hB3r.size
          have HN := Lib.hid (And.intro h5 (And.intro htu (And.intro (show (us ++ [cu]).length = k + 1 by rw [List.length_append, HR0.out.2.2.1]; rfl) (hB3r.trans b5))))
          clear hcu htu hcl h5 b5 hB3r hrel
          go_wp2_with (at_builtin; refine wpL_appK _ rfl (.tmp 57) (.tmp 59) 30 rfl rfl _ _ _ _ rfl rfl hrun5 ?_)
          go_roundw
          case rel => exact ⟨k + 1, us ++ [cu], by omega, by go_num, HN⟩
          case measure => simp [intOf]; omega
    · have hlI : ¬ (k : Int) < (y.ts.length : Int) := by omega
      have hul : us.length = y.ts.length := by have := hrel.out.2.2.1; omega
      have htu := hrel.out.2.1
      rw [List.take_of_length_le (by rw [tus_len]; omega), HE.out] at htu
      obtain ⟨A5, c5, e5, _, _, _⟩ := own_shape hrel.out.1.row
      have h5 := hrel.out.1
      rw [e5] at h5
      have hok5 := (h5.ok (by omega)).2
      have hsr := rsorted_p (fun b => w.heap.size ≤ b) ⟨A5, us, c5⟩ wi hok5 ⟨fun a ha => Nat.le_trans B3.out.1.size ((World.ownsRow.lt h5.row a.block (by dsimp only at ha; rw [ha]; simp [Value.ownBlock])).1), fun t ht a ha => Nat.le_trans B3.out.1.size (((h5.tup t ht).1.lo a ha).1)⟩ (fun b hb => Nat.le_trans hBw.size hb)
      dsimp only at hsr
      rw [htu] at hsr
      have HF := Lib.hid (And.intro hok5 (And.intro htu hBw))
      have HSR := Lib.hid hsr
      rw [e5]
      clear hul htu e5 h5 hok5 hsr hBw hrel
      go_upto_region 18 with (go_at_call 41; (with_reducible refine HSR.out.mono ?_); rintro e w9 ⟨z, rfl, k9, e9, b9, p9⟩; have BP := Lib.hid p9; have B9 := Lib.hid (And.intro k9 (And.intro e9 (And.intro (HF.out.1.below b9) (HF.out.2.2.trans (lower' b9 HF.out.2.2.size))))); clear k9 e9 b9 p9)
      have hzs : z.ts.length ≤ 5000 := B9.out.1.sm
      have hus : us.length ≤ 5000 := HF.out.1.sm
      have hmk := fun W => makeI z.ts.length (by omega) W
      obtain ⟨all, hall⟩ : ∃ all, all = outsOf x.v es := ⟨_, rfl⟩
      have F2 := Lib.hid (show tus us = all from by rw [HF.out.2.1, hall])
      have F3 := Lib.hid (show tus z.ts = setL all from by rw [B9.out.2.1, hall])
      have HALL := Lib.hid hall
      clear hall HSR HE HYL
      have hlz : z.ts.length = (setL all).length := by rw [← F3.out, tus_len]
      have hN1 := CnAt.made w9 z.ts.length (by omega)
      have hC1 := Below.alloc (Below.refl w9.heap.size w9) (Nat.le_refl _) (.cells (intsV (List.replicate z.ts.length 0)).toArray 3)
      have H1 := Lib.hid (And.intro (show CnAt w9.heap.size (w9.alloc (.cells (intsV (List.replicate z.ts.length 0)).toArray 3)) w9.heap.size (cntP (setL all) all 0 0) from by rw [cntP_zero, ← hlz]; exact hN1) (And.intro hC1 hlz))
      clear hN1 hC1 hlz
      go_upto_region 19 with (fail)
      clear hmk
      generalize w9.alloc (.cells (intsV (List.replicate z.ts.length 0)).toArray 3) = w4 at H1 ⊢
      go_wp2_with (fail)
      go_loopw [69] (fun i wr => ∃ k : Nat, k ≤ z.ts.length ∧ i = .int .i64 (k : Int) ∧ Hid (CnAt w9.heap.size wr w9.heap.size (cntP (setL all) all k 0) ∧ Below w9.heap.size w9 wr)) (fun i _ => z.ts.length - (intOf i).toNat)
      case atStart => exact ⟨0, by omega, rfl, Lib.hid ⟨H1.out.1, H1.out.2.1⟩⟩
      case round =>
        obtain ⟨i, hi, rfl, hrel⟩ := hrel
        rename World => wo
        by_cases hit : i < z.ts.length
        · have hiI : (i : Int) < (z.ts.length : Int) := by omega
          obtain ⟨zb, zo, hzA, -, -⟩ := LV.Ok.cell' (B9.out.1.below hrel.out.2) hit
          rw [hzA]
          have HZA := Lib.hid hzA
          have HO := Lib.hid hrel.out
          clear hzA hrel
          go_wp2_with (fail)
          go_loopw [74] (fun j wr => ∃ k : Nat, k ≤ us.length ∧ j = .int .i64 (k : Int) ∧ Hid (CnAt w9.heap.size wr w9.heap.size (cntP (setL all) all i k) ∧ Below w9.heap.size w9 wr)) (fun j _ => us.length - (intOf j).toNat)
          case atStart => exact ⟨0, by omega, rfl, Lib.hid HO.out⟩
          case round =>
            obtain ⟨k, hk, rfl, hrel⟩ := hrel
            by_cases hkt : k < us.length
            · have hkI : (k : Int) < (us.length : Int) := by omega
              obtain ⟨zb', zo', hzA', hzb, c0⟩ := LV.Ok.cell' (B9.out.1.below hrel.out.2) hit
              rw [HZA.out] at hzA'
              injection hzA' with hzA'
              injection hzA' with e8 e9
              subst e8 e9
              obtain ⟨ub, uo, huA, hub, d0⟩ := LV.Ok.cell' (B9.out.2.2.1.below hrel.out.2) hkt
              dsimp only at huA d0
              have ho1 := (B9.out.1.below hrel.out.2).at hit
              have ho2 := (B9.out.2.2.1.below hrel.out.2).at hkt
              dsimp only at ho2
              have hst : i < (setL all).length := by rw [← H1.out.2.2]; exact hit
              have hat : k < all.length := by rw [← F2.out, tus_len]; exact hkt
              have hr1 : (setL all)[i] = z.ts[i].l := by have := tus_at z.ts i hit; simpa only [F3.out] using this
              have hr2 : all[k] = us[k].l := by have := tus_at us k hkt; simpa only [F2.out] using this
              have hcl : i < (cntP (setL all) all i k).length := by rw [cntP_len]; exact hst
              have hle := cntP_rng (setL all) all i k _ (List.getElem_mem hcl)
              have hy := cntP_yes (R := setL all) (all := all) (k := k) hst hat
              have hn := cntP_no (R := setL all) (all := all) (k := k) hst hat
              rw [hr1, hr2] at hy hn
              have hal : all.length ≤ 5000 := by rw [← F2.out, tus_len]; exact hus
              have hcmp := fun n => rcmp_any z.ts[i] us[k] (wr.drewN n) (ho1.drewN n) (ho2.drewN n)
              rw [huA]
              generalize z.ts[i] = p at c0 hy hn hcmp
              generalize us[k] = q at d0 hy hn hcmp
              generalize hK : cmpI p.l q.l = C at hcmp
              have HC : Hid (∀ n, Calls Try.prog 42 #[.slice p.A p.l.length p.c, .slice q.A q.l.length q.c] (wr.drewN n) fun e w' => e = .returned (.int .i64 C) ∧ ∃ m, w' = (wr.drewN n).drewN m) := Lib.hid hcmp
              have HCN := Lib.hid hrel.out
              have HB1 := Lib.hid (And.intro hy (And.intro hn hK))
              have hcl2 := hcl
              clear hzb hub ho1 ho2 hat hr1 hr2 hy hn hcmp hK hrel
              by_cases hc0 : C = 0
              · have hcb : (C == 0) = true := by rw [hc0]; rfl
                have he : q.l = p.l := (cmpI_eq (by rw [HB1.out.2.2]; exact hc0)).symm
                have hstep := HCN.out.1.step hcl ((cntP (setL all) all i k)[i] + 1)
                rw [← HB1.out.1 he] at hstep
                obtain ⟨d1, d2, d3, d4⟩ := hstep
                have hx0 : 0 ≤ (cntP (setL all) all i k)[i] ∧ (cntP (setL all) all i k)[i] ≤ 5000 := by omega
                generalize (cntP (setL all) all i k)[i] = x0 at d1 d3 d4 hx0 hle
                have HS := Lib.hid (And.intro d3 (HCN.out.2.trans d4))
                have D12 : Hid (∀ n, (wr.drewN n).cell? ⟨w9.heap.size, i, none⟩ = some (.int .i64 x0) ∧ (wr.drewN n).frozen? ⟨w9.heap.size, i, none⟩ = false) := Lib.hid fun n => ⟨d1, d2⟩
                clear hc0 he d1 d2 d3 d4 hcl hle hcl2 hal
                go_upto_region 25 with (fail)
                go_quiet ((go_at_call 42; with_reducible exact Calls.quiet_of (HC.out _)))
                clear c0 d0
                obtain ⟨d1, d2⟩ := D12.out nq
                have HS2 := Lib.hid (fun v => cn_drew (w := wr) nq ⟨w9.heap.size, i, none⟩ v)
                go_wp2_with (fail)
                go_roundw
                case rel => exact ⟨k + 1, by omega, by go_num, Lib.hid ⟨by rw [HS2.out]; exact cn_drewN HS.out.1 _, by rw [HS2.out]; exact Below.drewN' HS.out.2 _⟩⟩
                case measure => simp [intOf]; omega
              · have hcb : (C == 0) = false := beq_eq_false_iff_ne.2 hc0
                have hne : q.l ≠ p.l := fun e => hc0 (by rw [← HB1.out.2.2, e, cmpI_refl])
                have HS := Lib.hid (show cntP (setL all) all i (k + 1) = cntP (setL all) all i k from HB1.out.2.1 hne)
                clear hc0 hne hcl hle hcl2 hal
                go_upto_region 25 with (fail)
                go_quiet ((go_at_call 42; with_reducible exact Calls.quiet_of (HC.out _)))
                go_wp2_with (fail)
                go_roundw
                case rel => exact ⟨k + 1, by omega, by go_num, Lib.hid ⟨by rw [HS.out]; exact cn_drewN HCN.out.1 _, Below.drewN' HCN.out.2 _⟩⟩
                case measure => simp [intOf]; omega
            · have hkI : ¬ (k : Int) < (us.length : Int) := by omega
              have hnx := cntP_next (setL all) all i k (by rw [← F2.out, tus_len]; omega)
              have HN := Lib.hid (show CnAt w9.heap.size wr w9.heap.size (cntP (setL all) all (i + 1) 0) ∧ Below w9.heap.size w9 wr from by rw [← hnx]; exact hrel.out)
              clear hnx hrel
              go_wp2_with (fail)
              go_roundw
              case rel => exact ⟨i + 1, by omega, by go_num, HN⟩
              case measure => simp [intOf]; omega
        · have hiI : ¬ (i : Int) < (z.ts.length : Int) := by omega
          have hfin := hrel.out.1
          rw [cntP_all _ _ _ (by rw [← H1.out.2.2]; omega)] at hfin
          have hcl : (cnt (setL all) all).length = z.ts.length := by rw [cnt_len, H1.out.2.2]
          have HF9 := Lib.hid (And.intro hfin (And.intro hrel.out.2 (And.intro (B9.out.1.below hrel.out.2) hcl)))
          clear hfin hcl hrel
          go_wp2_with (fail)
          exact bodyPost_ret (results_tmp3 rfl _ _ _) rfl ⟨z, ⟨some ⟨w9.heap.size, 0, none⟩, cnt (setL all) all, z.ts.length⟩, by (try dsimp only); rw [HF9.out.2.2.2]; rfl, HF9.out.2.2.1, F3.out.trans (congrArg setL HALL.out), by
            have := HF9.out.1.row.ok (by rw [show (TV.mk (some ⟨w9.heap.size, 0, none⟩) (cnt (setL all) all) (cnt (setL all) all).length).l.length = z.ts.length from HF9.out.2.2.2]; exact hzs)
            rw [HF9.out.2.2.2] at this
            exact this, congrArg (fun a => cnt (setL a) a) HALL.out, B9.out.2.2.2.trans (lower' HF9.out.2.1 B9.out.2.2.2.size), BP.out⟩
theorem rresult_any (x : VW) (A : Option Addr) (c : Nat) (es : List Ed) (w : World) (hx : x.Ok w) (hl : x.v.Lens) (h12 : x.v.atoms.length ≤ 12) (he : Eds w A c es) :
    Calls Try.prog 18 #[.agg (vwA x), .slice A es.length c] w (RrPost w (rowsC x.v es) (resR x.v es) (resN x.v es)) := by
  by_cases h0 : rowsC x.v es = 0
  · have h := rresult_ok x A c es w hx hl h12 he h0
    rw [h0, show resR x.v es = setL (outsOf x.v es) from if_pos h0, show resN x.v es = cnt (setL (outsOf x.v es)) (outsOf x.v es) from if_pos h0]
    exact h
  · exact rresult_bad x A c es w hx hl h12 he h0
end Go.Proofs.Ytgldcahhliokeaa
