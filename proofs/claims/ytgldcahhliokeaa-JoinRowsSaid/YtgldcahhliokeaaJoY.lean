/- join.outputsOf. -/
import Derived.Test.YtgldcahhliokeaaJoX
import Derived.Test.YtgldcahhliokeaaOrdM
namespace Go.Proofs.Ytgldcahhliokeaa
open Go.RowKit Go.Maps

/-- append of one number to a tuple of the call's own: what else stays. -/
theorem run_app1F (w : World) (lo : Nat) (u : TV) (x : Int) (h : OwnI w lo u) (hb : lo ≤ w.heap.size) (hl : u.l.length ≤ 900) :
    ∃ u' : TV, ∃ w', (Builtin.append_ #[43, 43] 43 #[.slice u.A u.l.length u.c, .slice (some ⟨w.heap.size, 0, none⟩) 1 1]).run Try.prog (w.alloc (.cells #[.int .i64 x] 3)) = .ok (.slice u'.A u'.l.length u'.c) w' ∧ u'.l = u.l ++ [x] ∧ OwnI w' lo u' ∧ Fr (w.alloc (.cells #[.int .i64 x] 3)) w' u.val.ownBlock.toList ∧ (u'.val.ownBlock = u.val.ownBlock ∨ u'.val.ownBlock = some (w.heap.size + 1)) := by
  obtain ⟨i, hi, hz0, hz1, hz2⟩ := info_parts infoInt
  have hb4 : Below w.heap.size w (w.alloc (.cells #[.int .i64 x] 3)) := (Below.refl _ _).alloc (Nat.le_refl _) _
  have hr4 := own_below h hb4 (Nat.le_refl _)
  have hrd : Rd (w.alloc (.cells #[.int .i64 x] 3)) (w.heap.size + 1) (some ⟨w.heap.size, 0, none⟩) (intsV [x]) := Rd.new w #[.int .i64 x] 3 (0, 0)
  obtain ⟨v5, w5, hrun, g1, g2, g3⟩ := run_appR (P := Try.prog) _ lo 43 43 3 i _ 1 8 Try.underlying43 hi hz0 hz1 hz2 rfl (by omega) u.val u.l.length (intsV u.l) hr4 (w.heap.size + 1) (some ⟨w.heap.size, 0, none⟩) 1 1 (intsV [x]) rfl hrd (intsV_one _) (by omega) (by omega) (Nat.le_trans hb hb4.size)
  have e1 : intsV u.l ++ intsV [x] = intsV (u.l ++ [x]) := (List.map_append).symm
  rw [e1] at g1
  rw [alloc1_size] at g3
  obtain ⟨A, c, rfl, _, _, _⟩ := own_shape g1
  refine ⟨⟨A, u.l ++ [x], c⟩, w5, ?_, rfl, ?_, fr_grown g2, ?_⟩
  · rw [List.length_append]
    exact hrun
  · unfold OwnI TV.val
    rw [List.length_append]
    exact g1
  · rcases g3 with g3 | g3
    · exact .inl (by unfold TV.val; rw [List.length_append]; exact g3)
    · exact .inr (by unfold TV.val; rw [List.length_append]; exact g3)
theorem LV.Ok.cell' {w : World} {x : LV} (h : x.Ok w) {k : Nat} (hk : k < x.ts.length) : ∃ b o, x.A = some ⟨b, o, none⟩ ∧ b < w.heap.size ∧ w.cell? ⟨b, o + k, none⟩ = some (.slice x.ts[k].A x.ts[k].l.length x.ts[k].c) := Lst.cell h hk
/-- Where outputsOf is: the tuples that are done, the one under way. -/
structure OuAt (lo : Nat) (wr : World) (g n : Nat) (us : List TV) (cu : TV) : Prop where
  lt : us.length < n
  row : wr.ownsRow lo 43 1 (.slice (some ⟨g, 0, none⟩) n n) n (vals us ++ cu.val :: List.replicate (n - us.length - 1) nilV)
  tup : ∀ u ∈ us, OwnI wr lo u
  own : OwnI wr lo cu
  off : ∀ u ∈ us, ∀ q ∈ u.val.ownBlock.toList, q ∉ cu.val.ownBlock.toList
theorem OuAt.cell {lo : Nat} {wr : World} {g n : Nat} {us : List TV} {cu : TV} (h : OuAt lo wr g n us cu) : wr.cell? ⟨g, us.length, none⟩ = some (.slice cu.A cu.l.length cu.c) ∧ wr.frozen? ⟨g, us.length, none⟩ = false := by
  refine ⟨?_, World.ownsRow.frozenAt h.row us.length⟩
  rw [World.ownsRow.cellAt h.row us.length (by rw [Nat.mul_one]; exact h.lt), List.getElem?_append_right (by rw [vals_len]; exact Nat.le_refl _), vals_len, Nat.sub_self]
  rfl
theorem OuAt.kept {lo : Nat} {wr w' : World} {g n : Nat} {us : List TV} {cu : TV} (h : OuAt lo wr g n us cu) (hb : Below wr.heap.size wr w') : OuAt lo w' g n us cu :=
  ⟨h.lt, own_below h.row hb (Nat.le_refl _), fun u hu => (h.tup u hu).below hb, h.own.below hb, h.off⟩
/-- One number more. -/
theorem OuAt.push {lo : Nat} {wr : World} {g n : Nat} {us : List TV} {cu : TV} (h : OuAt lo wr g n us cu) (hlo : lo ≤ wr.heap.size) (hl : cu.l.length ≤ 900) (x : Int) :
    ∃ u' : TV, ∃ w', (Builtin.append_ #[43, 43] 43 #[.slice cu.A cu.l.length cu.c, .slice (some ⟨wr.heap.size, 0, none⟩) 1 1]).run Try.prog (wr.alloc (.cells #[.int .i64 x] 3)) = .ok (.slice u'.A u'.l.length u'.c) w' ∧ u'.l = cu.l ++ [x] ∧ w'.cell? ⟨g, us.length, none⟩ = some (.slice cu.A cu.l.length cu.c) ∧ w'.frozen? ⟨g, us.length, none⟩ = false ∧
      OuAt lo (w'.setCell ⟨g, us.length, none⟩ (.slice u'.A u'.l.length u'.c)) g n us u' ∧ Below lo wr (w'.setCell ⟨g, us.length, none⟩ (.slice u'.A u'.l.length u'.c)) ∧ Below lo wr w' := by
  obtain ⟨u', w', hrun, hul, ho, hf, hbk⟩ := run_app1F wr lo cu x h.own hlo hl
  have hb4 : Below wr.heap.size wr (wr.alloc (.cells #[.int .i64 x] 3)) := (Below.refl _ _).alloc (Nat.le_refl _) _
  have h4 := h.kept hb4
  have hrw := rowFrS h4.row hf (own_apart h4.row h4.own (by decide))
  have htw : ∀ u ∈ us, OwnI w' lo u := fun u hu => rowFrS (h4.tup u hu) hf (h4.off u hu)
  have hc : w'.cell? ⟨g, us.length, none⟩ = some (.slice cu.A cu.l.length cu.c) := by
    rw [World.ownsRow.cellAt hrw us.length (by rw [Nat.mul_one]; exact h.lt), List.getElem?_append_right (by rw [vals_len]; exact Nat.le_refl _), vals_len, Nat.sub_self]
    rfl
  obtain ⟨hst, hgr⟩ := World.ownsRow.stored hrw us.length u'.val
  have hfr := Fr.of_grown hgr
  have hap : ∀ t : TV, OwnI w' lo t → ∀ s ∈ t.val.ownBlock.toList, s ∉ [g] := fun t ht s hs hm => by
    have := own_apart ht hrw (by decide) s hs
    exact this (by simp [Value.ownBlock] at hm ⊢; exact hm)
  refine ⟨u', w', hrun, hul, hc, World.ownsRow.frozenAt hrw us.length, ⟨h.lt, ?_, fun u hu => rowFrS (htw u hu) hfr (hap u (htw u hu)), rowFrS ho hfr (hap u' ho), fun u hu q hq hm => ?_⟩, ?_⟩
  · have e : (vals us ++ cu.val :: List.replicate (n - us.length - 1) nilV).set us.length u'.val = vals us ++ u'.val :: List.replicate (n - us.length - 1) nilV := by
      rw [List.set_append, if_neg (by rw [vals_len]; omega), vals_len, Nat.sub_self, List.set_cons_zero]
    rw [← e]
    exact hst
  · rcases hbk with e | e
    · rw [e] at hm
      exact h.off u hu q hq hm
    · rw [e] at hm
      have h5 := own_lt' (h.tup u hu) q hq
      simp at hm
      omega
  · have h1 : Below lo (wr.alloc (.cells #[.int .i64 x] 3)) w' := hf.below (Nat.le_trans hlo hb4.size) (own_ge h4.own)
    have h2 := (World.ownsRow.lt hrw g rfl).1
    exact ⟨((lower' hb4 hlo).trans h1).setCell h2 _, (lower' hb4 hlo).trans h1⟩
/-- Tuples that are done, and room for the others. -/
def OuRow (lo : Nat) (wr : World) (g n : Nat) (us : List TV) : Prop := wr.ownsRow lo 43 1 (.slice (some ⟨g, 0, none⟩) n n) n (vals us ++ List.replicate (n - us.length) nilV) ∧ ∀ u ∈ us, OwnI wr lo u
theorem OuRow.start {lo : Nat} {wr : World} {g n : Nat} {us : List TV} (h : OuRow lo wr g n us) (hl : us.length < n) : OuAt lo wr g n us ⟨none, [], 0⟩ := by
  refine ⟨hl, ?_, h.2, World.ownsRow_nil _ _ _ _, fun u hu q hq hm => by simp [TV.val, Value.ownBlock] at hm⟩
  have e : n - us.length = (n - us.length - 1) + 1 := by omega
  have h1 := h.1
  rw [e, List.replicate_succ] at h1
  exact h1
theorem OuAt.done {lo : Nat} {wr : World} {g n : Nat} {us : List TV} {cu : TV} (h : OuAt lo wr g n us cu) : OuRow lo wr g n (us ++ [cu]) := by
  refine ⟨?_, fun u hu => ?_⟩
  · rw [vals_app, List.append_assoc, List.length_append]
    exact h.row
  · rcases List.mem_append.1 hu with hu | hu
    · exact h.tup u hu
    · rw [List.mem_singleton.1 hu]; exact h.own
theorem OuRow.made (w : World) (n : Nat) (hn : n ≤ 20000) : OuRow w.heap.size (w.alloc (.cells (Array.replicate n nilV) 43)) w.heap.size n [] := by
  refine ⟨?_, fun _ h => nomatch h⟩
  have := World.ownsRow_lit (base := w.heap.size) (size := 1) (e := 43) w (Array.replicate n nilV) n (Nat.le_refl _) (by simp [maxLen]; omega) (by simp)
  simpa [vals] using this
theorem OuRow.kept {lo : Nat} {wr w' : World} {g n : Nat} {us : List TV} (h : OuRow lo wr g n us) (hb : Below wr.heap.size wr w') : OuRow lo w' g n us := ⟨own_below h.1 hb (Nat.le_refl _), fun u hu => (h.2 u hu).below hb⟩
theorem index_at {l : List Nm} {s : Nm} (h : s ∈ l) : indexL l s = (l.idxOf s : Int) := if_pos h
set_option maxRecDepth 100000 in
set_option maxHeartbeats 8000000 in
theorem outputs_any (x : VW) (y : LV) (w : World) (hx : x.Ok w) (hg : goodP x.v = true) (hy : y.Ok w) (hr : ∀ r ∈ tus y.ts, r.length = (varsL x.v.atoms).length) :
    Calls Try.prog 34 #[.agg (vwA x), .slice y.A y.ts.length y.c] w (WoL w ((tus y.ts).map (outL (varsL x.v.atoms) x.v.out))) := by
  obtain ⟨g1, g2, g3, g4, g5, _⟩ := goodP_names hg
  have hb1 : Below w.heap.size w (w.alloc (.cells (vwA x) 25)) := (Below.refl _ _).alloc (Nat.le_refl _) _
  have hk := vars_any x _ (hx.below hb1) hg
  have hgg := heap_alloc_new w (.cells (vwA x) 25)
  have hys := hy.sm
  have hmk := fun W => makeTT y.ts.length (by omega) W
  unfold vwA at hb1 hk hgg ⊢
  have HA := Lib.hid (And.intro hx (And.intro hy (And.intro hr g5)))
  have HB := Lib.hid hb1
  have HK := Lib.hid hk
  have HG := Lib.hid hgg
  clear hx hg hy hr g1 g2 g4 g5 hb1 hk hgg
  go_enter Try.func34, Try.ntmps34
  go_wp2_with (go_at_call 63; (with_reducible refine HK.out.mono ?_); rintro e w1 ⟨vA, vc, rfl, o2, s2, b2⟩; have HV := Lib.hid (And.intro s2 (And.intro (HB.out.trans (lower' b2 HB.out.size)) ((b2.block w.heap.size (by simp)).trans HG.out))); clear b2 o2 s2)
  have hB1 := HV.out.2.1.alloc HV.out.2.1.size (.cells (Array.replicate y.ts.length nilV) 43)
  have hO1 := OuRow.made w1 y.ts.length (by omega)
  have hC1 := Below.alloc (Below.refl w1.heap.size w1) (Nat.le_refl _) (.cells (Array.replicate y.ts.length nilV) 43)
  have H1 := Lib.hid (And.intro hO1 hC1)
  clear hmk hB1 hO1 hC1
  generalize w1.alloc (.cells (Array.replicate y.ts.length nilV) 43) = w2 at H1 ⊢
  go_loopw [18] (fun i wr => ∃ (k : Nat) (us : List TV), k ≤ y.ts.length ∧ i = .int .i64 (k : Int) ∧ Hid (us.length = k ∧ OuRow w1.heap.size wr w1.heap.size y.ts.length us ∧ tus us = ((tus y.ts).take k).map (outL (varsL x.v.atoms) x.v.out) ∧ Below w1.heap.size w1 wr)) (fun i _ => y.ts.length - (intOf i).toNat)
  case atStart => exact ⟨0, [], by omega, rfl, Lib.hid ⟨rfl, H1.out.1, rfl, H1.out.2⟩⟩
  case round =>
    obtain ⟨k, us, hk, rfl, hrel⟩ := hrel
    by_cases hlt : k < y.ts.length
    · have hBw := HV.out.2.1.trans (lower' hrel.out.2.2.2 HV.out.2.1.size)
      obtain ⟨b, o, hA, _, c0⟩ := LV.Ok.cell' (HA.out.2.1.below hBw) hlt
      have hlI : (k : Int) < (y.ts.length : Int) := by omega
      have hok := HA.out.2.1.ok _ (List.getElem_mem hlt)
      have htl : k < (tus y.ts).length := by rw [tus_len]; exact hlt
      have hat : (tus y.ts)[k] = y.ts[k].l := tus_at y.ts k hlt
      have hrl := HA.out.2.2.1 _ (List.getElem_mem htl)
      have htk : (tus y.ts).take (k + 1) = (tus y.ts).take k ++ [(tus y.ts)[k]] := List.take_succ_eq_append_getElem htl
      rw [hat] at hrl htk
      rw [hA]
      generalize y.ts[k] = r at c0 hok hrl htk
      have hgv := (hrel.out.2.2.2.block _ (heap_lt HV.out.2.2)).trans HV.out.2.2
      have q2 := cell_of_row _ _ 2 _ _ _ hgv
      have HR := Lib.hid (And.intro hok (And.intro hrl (And.intro htk (And.intro hrel.out.1 hrel.out.2.2.1))))
      have HO := Lib.hid (And.intro (hrel.out.2.1.start (by rw [hrel.out.1]; exact hlt)) hrel.out.2.2.2)
      clear hBw hok htl hat hrl htk hgv hrel
      go_wp2_with (fail)
      go_loopw [26] (fun j wr => ∃ (m : Nat) (cu : TV), m ≤ x.v.out.length ∧ j = .int .i64 (m : Int) ∧ Hid (OuAt w1.heap.size wr w1.heap.size y.ts.length us cu ∧ Below w1.heap.size w1 wr ∧ cu.l = (x.v.out.take m).map (fun o => r.l.getD ((varsL x.v.atoms).idxOf o) 0))) (fun j _ => x.v.out.length - (intOf j).toNat)
      case atStart => exact ⟨0, ⟨none, [], 0⟩, by omega, rfl, Lib.hid ⟨HO.out.1, HO.out.2, rfl⟩⟩
      case round =>
        obtain ⟨m, cu, hm, rfl, hrel⟩ := hrel
        have hBw := HV.out.2.1.trans (lower' hrel.out.2.1 HV.out.2.1.size)
        by_cases hmt : m < x.v.out.length
        · obtain ⟨b', o', hA', _, d0⟩ := (HA.out.1.below hBw).out.cell hmt
          have hmI : (m : Int) < (x.v.out.length : Int) := by omega
          have htm : x.v.out.take (m + 1) = x.v.out.take m ++ [x.v.out[m]] := List.take_succ_eq_append_getElem hmt
          have hin := HA.out.2.2.2 _ (List.getElem_mem hmt)
          rw [hA']
          generalize x.v.out[m] = nm at d0 htm hin
          have hD : Below wr.heap.size wr wr.drew := (Below.refl wr.heap.size wr).drew
          have hix := index_any vA vc (varsL x.v.atoms) nm wr.drew (HV.out.1.below (hrel.out.2.1.trans (lower' hD hrel.out.2.1.size)))
          rw [index_at hin] at hix
          have hil := idx_lt hin
          have hcl : cu.l.length ≤ 6 := by rw [hrel.out.2.2, List.length_map, List.length_take]; omega
          generalize hp : (varsL x.v.atoms).idxOf nm = p at hix hil
          obtain ⟨rb, ro, hrA, hrb, rc⟩ := HR.out.1.cell (k := p) (by rw [HR.out.2.1]; exact hil)
          have hget : r.l.getD p 0 = r.l[p]'(by rw [HR.out.2.1]; exact hil) := by rw [List.getD_eq_getElem?_getD, List.getElem?_eq_getElem (by rw [HR.out.2.1]; exact hil)]; rfl
          rw [← hget] at rc
          have rc := (hBw.cell (p := ⟨rb, ro + p, none⟩) hrb).trans rc
          generalize hxv : r.l.getD p 0 = xv at rc
          have hpl : (p : Int) < (r.l.length : Int) := by rw [HR.out.2.1]; omega
          obtain ⟨u', w5, hrun, hul, hc5, hf5, hO5, hB5, hB6⟩ := (hrel.out.1.kept hD).push (Nat.le_trans hrel.out.2.1.size hD.size) (by omega) xv
          obtain ⟨cc, cf⟩ := hrel.out.1.cell
          rw [HR.out.2.2.2.1] at hc5 hf5 hO5 hB5 cc
          have hnl : u'.l = (x.v.out.take (m + 1)).map (fun o => r.l.getD ((varsL x.v.atoms).idxOf o) 0) := by
            rw [hul, hrel.out.2.2, htm, List.map_append]
            show _ = _ ++ [r.l.getD ((varsL x.v.atoms).idxOf nm) 0]
            rw [hp, hxv]
          have H5 := Lib.hid (And.intro hO5 (And.intro ((hrel.out.2.1.trans (lower' hD hrel.out.2.1.size)).trans hB5) hnl))
          have HSP := Lib.hid (fun WW (hW : Below wr.heap.size wr WW) => (⟨(hW.cell (p := ⟨w1.heap.size, k, none⟩) (own_lt' hrel.out.1.row w1.heap.size (by simp [Value.ownBlock]))).trans cc, (hW.cell (p := ⟨rb, ro + p, none⟩) (World.block_lt_of_cell? wr _ rc)).trans rc⟩ : WW.cell? ⟨w1.heap.size, k, none⟩ = some (.slice cu.A cu.l.length cu.c) ∧ WW.cell? ⟨rb, ro + p, none⟩ = some (.int .i64 xv)))
          have HIX := Lib.hid hix
          have rc5 := (hB6.cell (p := ⟨rb, ro + p, none⟩) (Nat.lt_of_lt_of_le hrb HV.out.2.1.size)).trans (show wr.drew.cell? ⟨rb, ro + p, none⟩ = _ from rc)
          have S5 := Lib.hid (And.intro hc5 rc5)
          rw [hrA]
          have B0 := Lib.hid hD
          clear hix hin hil hp hget hxv hul hO5 hB5 hnl hrel hBw htm cc cf hcl hD hB6 rc5 hrb
          go_upto_region 9 with (fail)
          refine wp_region_M (fun j => decide (j < 14)) (fun w' => w'.cell? ⟨w1.heap.size, k, none⟩ = some (.slice cu.A cu.l.length cu.c) ∧ w'.cell? ⟨rb, ro + p, none⟩ = some (.int .i64 xv)) (by kernel_rfl) ?_
          refine wpAnyM_take (i := 0) (v := ?_) rfl (by kernel_rfl) (by kernel_rfl) (by kernel_rfl) (by kernel_rfl) (fun _ _ _ h => h) (Or.inl ⟨by rfl, ?_⟩) (HSP.out _ B0.out) ?_
          rotate_left
          · intro w hSw; (try dsimp only at hSw); go_simp; (try with_reducible rfl)
          simp only [Act.put, List.getElem_toArray, List.getElem_cons_zero, List.getElem_cons_succ, List.setIfInBounds_toArray, List.set_cons_zero, List.set_cons_succ]
          refine wpAnyM_take (i := 1) (v := ?_) rfl (by kernel_rfl) (by kernel_rfl) (by kernel_rfl) (by kernel_rfl) (fun _ _ _ h => h) (Or.inl ⟨by rfl, ?_⟩) (HSP.out _ B0.out) ?_
          rotate_left
          · intro w hSw; (try dsimp only at hSw); go_simp; (try with_reducible rfl)
          simp only [Act.put, List.getElem_toArray, List.getElem_cons_zero, List.getElem_cons_succ, List.setIfInBounds_toArray, List.set_cons_zero, List.set_cons_succ]
          refine wpAnyM_take (i := 2) (v := ?_) rfl (by kernel_rfl) (by kernel_rfl) (by kernel_rfl) (by kernel_rfl) (fun _ _ _ h => h) (Or.inl ⟨by rfl, ?_⟩) (HSP.out _ B0.out) ?_
          rotate_left
          · intro w hSw; (try dsimp only at hSw); go_simp; (try with_reducible rfl)
          simp only [Act.put, List.getElem_toArray, List.getElem_cons_zero, List.getElem_cons_succ, List.setIfInBounds_toArray, List.set_cons_zero, List.set_cons_succ]
          refine wpAnyM_take (i := 3) (v := ?_) rfl (by kernel_rfl) (by kernel_rfl) (by kernel_rfl) (by kernel_rfl) (fun _ _ _ h => h) (Or.inl ⟨by rfl, ?_⟩) (HSP.out _ B0.out) ?_
          rotate_left
          · intro w hSw; (try dsimp only at hSw); go_simp; (try with_reducible rfl)
          simp only [Act.put, List.getElem_toArray, List.getElem_cons_zero, List.getElem_cons_succ, List.setIfInBounds_toArray, List.set_cons_zero, List.set_cons_succ]
          refine wpAnyM_take (i := 4) (v := ?_) rfl (by kernel_rfl) (by kernel_rfl) (by kernel_rfl) (by kernel_rfl) (fun _ _ _ h => h) (Or.inl ⟨by rfl, ?_⟩) (HSP.out _ B0.out) ?_
          rotate_left
          · intro w hSw; (try dsimp only at hSw); go_simp; (try with_reducible rfl)
          simp only [Act.put, List.getElem_toArray, List.getElem_cons_zero, List.getElem_cons_succ, List.setIfInBounds_toArray, List.set_cons_zero, List.set_cons_succ]
          refine wpAnyM_take (i := 5) (v := ?_) rfl (by kernel_rfl) (by kernel_rfl) (by kernel_rfl) (by kernel_rfl) (fun _ _ _ h => h) (Or.inl ⟨by rfl, ?_⟩) (HSP.out _ B0.out) ?_
          rotate_left
          · intro w hSw; (try dsimp only at hSw); go_simp; (try with_reducible rfl)
          simp only [Act.put, List.getElem_toArray, List.getElem_cons_zero, List.getElem_cons_succ, List.setIfInBounds_toArray, List.set_cons_zero, List.set_cons_succ]
          refine wpAnyM_take (i := 6) (v := ?_) rfl (by kernel_rfl) (by kernel_rfl) (by kernel_rfl) (by kernel_rfl) (fun _ _ _ h => h) (Or.inl ⟨by rfl, ?_⟩) (HSP.out _ B0.out) ?_
          rotate_left
          · intro w hSw; (try dsimp only at hSw); go_simp; (try with_reducible rfl)
          simp only [Act.put, List.getElem_toArray, List.getElem_cons_zero, List.getElem_cons_succ, List.setIfInBounds_toArray, List.set_cons_zero, List.set_cons_succ]
          refine wpAnyM_take (i := 7) (v := ?_) rfl (by kernel_rfl) (by kernel_rfl) (by kernel_rfl) (by kernel_rfl) (fun _ _ _ h => h) (Or.inl ⟨by rfl, ?_⟩) (HSP.out _ B0.out) ?_
          rotate_left
          · intro w hSw; (try dsimp only at hSw); go_simp; (try with_reducible rfl)
          simp only [Act.put, List.getElem_toArray, List.getElem_cons_zero, List.getElem_cons_succ, List.setIfInBounds_toArray, List.set_cons_zero, List.set_cons_succ]
          refine wpAnyM_take (i := 8) (v := ?_) rfl (by kernel_rfl) (by kernel_rfl) (by kernel_rfl) (by kernel_rfl) (fun _ _ _ h => h) (Or.inl ⟨by rfl, ?_⟩) (HSP.out _ B0.out) ?_
          rotate_left
          · intro w hSw; (try dsimp only at hSw); go_simp; (try with_reducible rfl)
          simp only [Act.put, List.getElem_toArray, List.getElem_cons_zero, List.getElem_cons_succ, List.setIfInBounds_toArray, List.set_cons_zero, List.set_cons_succ]
          refine wpAnyM_one (i := 9) (by kernel_rfl) rfl (fun K hK => ?_)
          go_simp
          go_wp2_with (go_at_call 64; (with_reducible refine HIX.out.mono ?_); rintro e w9 ⟨rfl, rfl⟩)
          refine hK.out _ _ (fun _ => HSP.out _ B0.out) ?_
          clear hK K
          refine wpAnyM_take (i := 10) (v := ?_) rfl (by kernel_rfl) (by kernel_rfl) (by kernel_rfl) (by kernel_rfl) (fun _ _ _ h => h) (Or.inl ⟨by rfl, ?_⟩) (HSP.out _ B0.out) ?_
          rotate_left
          · intro w hSw; (try dsimp only at hSw); go_simp; (try with_reducible rfl)
          simp only [Act.put, List.getElem_toArray, List.getElem_cons_zero, List.getElem_cons_succ, List.setIfInBounds_toArray, List.set_cons_zero, List.set_cons_succ]
          refine wpAnyM_take (i := 11) (v := ?_) rfl (by kernel_rfl) (by kernel_rfl) (by kernel_rfl) (by kernel_rfl) (fun _ _ _ h => h) (Or.inl ⟨by rfl, ?_⟩) (HSP.out _ B0.out) ?_
          rotate_left
          · intro w hSw; (try dsimp only at hSw); go_simp; (try with_reducible rfl)
          simp only [Act.put, List.getElem_toArray, List.getElem_cons_zero, List.getElem_cons_succ, List.setIfInBounds_toArray, List.set_cons_zero, List.set_cons_succ]
          refine wpAnyM_one (i := 12) (by kernel_rfl) rfl (fun K hK => ?_)
          go_simp
          have B1 := Lib.hid (Below.alloc B0.out B0.out.size (.cells #[.int .i64 xv] 3))
          refine hK.out _ _ (fun _ => HSP.out _ B1.out) ?_
          clear hK K
          refine wpAnyM_one (i := 13) (by kernel_rfl) rfl (fun K hK => ?_)
          refine step_appK _ (by rfl) (.tmp 35) (.tmp 42) 43 rfl rfl _ _ _ _ rfl rfl hrun ?_
          refine hK.out _ _ (fun _ => S5.out) ?_
          clear hK K
          refine wpAnyM_one (i := 14) (by kernel_rfl) rfl (fun K hK => ?_)
          go_simp
          refine hK.out _ _ (fun h => absurd h (by decide)) ?_
          clear hK K
          refine wpAnyM_one (i := 15) (by kernel_rfl) rfl (fun K hK => ?_)
          go_simp
          refine hK.out _ _ (fun h => absurd h (by decide)) ?_
          clear hK K
          refine wpAnyM_done (by kernel_rfl) ?_ _
          go_wp2_with (fail)
          go_roundw
          case rel => exact ⟨m + 1, u', by omega, by go_num, Lib.hid H5.out⟩
          case measure => simp [intOf]; omega
        · have hmI : ¬ (m : Int) < (x.v.out.length : Int) := by omega
          have hcu := hrel.out.2.2
          rw [List.take_of_length_le (by omega)] at hcu
          have htu : tus (us ++ [cu]) = ((tus y.ts).take (k + 1)).map (outL (varsL x.v.atoms) x.v.out) := by
            rw [tus_app, HR.out.2.2.2.2, HR.out.2.2.1, List.map_append]
            show _ ++ [cu.l] = _
            rw [hcu]
            rfl
          have HN := Lib.hid (And.intro (show (us ++ [cu]).length = k + 1 by rw [List.length_append, HR.out.2.2.2.1]; rfl) (And.intro hrel.out.1.done (And.intro htu hrel.out.2.1)))
          clear hcu htu hrel hBw
          go_wp2_with (fail)
          go_roundw
          case rel => exact ⟨k + 1, us ++ [cu], by omega, by go_num, HN⟩
          case measure => simp [intOf]; omega
    · have hlI : ¬ (k : Int) < (y.ts.length : Int) := by omega
      have hul : us.length = y.ts.length := by have := hrel.out.1; omega
      have ho := hrel.out.2.1
      have htu := hrel.out.2.2.1
      rw [List.take_of_length_le (by rw [tus_len]; omega)] at htu
      have hrow := ho.1
      rw [hul, Nat.sub_self, List.replicate_zero, List.append_nil] at hrow
      obtain ⟨A', c', e', hcap, _, hrd⟩ := own_shape hrow
      have hlen : ∀ t ∈ us, t.l.length ≤ 1000 := fun t ht => by
        have h1 := mem_tus ht
        rw [htu] at h1
        obtain ⟨q, _, e⟩ := List.mem_map.1 h1
        rw [← e]
        unfold outL
        rw [List.length_map]
        omega
      have hok : LV.Ok wr ⟨A', us, c'⟩ := ⟨hrd, fun t ht => (ho.2 t ht).ok (by have := hlen t ht; omega), by show us.length ≤ c'; omega, by show us.length ≤ 5000; omega⟩
      injection e' with e1 e2 e3
      subst e1 e3
      have HN := Lib.hid (And.intro hok (And.intro htu (And.intro hul (HV.out.2.1.trans (lower' hrel.out.2.2.2 HV.out.2.1.size)))))
      clear hul ho htu hrow hcap hrd hlen hok hrel
      go_wp2_with (fail)
      go_ret
      exact ⟨_, by rw [← HN.out.2.2.1]; rfl, HN.out.1, HN.out.2.1, HN.out.2.2.2⟩
end Go.Proofs.Ytgldcahhliokeaa
