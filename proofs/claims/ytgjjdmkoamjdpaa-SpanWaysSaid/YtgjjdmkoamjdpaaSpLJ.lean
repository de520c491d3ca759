/- span.rings, span.Rings (written by wip/gen/genspj.py). -/
import Derived.Test.YtgjjdmkoamjdpaaSpLI0
import Derived.Test.YtgjjdmkoamjdpaaJnG
namespace Go.Proofs.Ytgjjdmkoamjdpaa
open Go.RowKit Go.Maps Go.Sort

theorem containsR_any (t : TV) (x : Int) (w : World) (h : t.Ok w) : Calls Try.prog 34 #[.slice t.A t.l.length t.c, .int .i64 x] w fun e w' => e = .returned (.bool (decide (x ∈ t.l))) ∧ w' = w := by
  by_cases hn : t.l.length = 0
  · have h0 : t.l = [] := List.length_eq_zero_iff.1 hn
    have hc := Any.slices_Contains_int_empty (P := Try.prog) Try.laysContainsI t.A t.c x w
    rw [hn]
    refine hc.mono ?_
    rintro e w' ⟨rfl, rfl⟩
    rw [h0]
    exact ⟨rfl, rfl⟩
  · obtain ⟨b, o, hA, _⟩ := h.cell (k := 0) (by omega)
    have hc := Any.slices_Contains_int (P := Try.prog) Try.laysContainsI b o t.l.length t.c t.l x w (Nat.le_refl _) (by have := h.sm; omega) (fun j hj => by
      obtain ⟨b', o', hA', _, h1⟩ := h.cell hj
      rw [hA] at hA'
      injection hA' with hA'
      injection hA' with e1 e2
      subst e1 e2
      rw [h1, List.getD_eq_getElem?_getD, List.getElem?_eq_getElem hj]
      rfl)
    rw [hA]
    refine hc.mono ?_
    rintro e w' ⟨rfl, rfl⟩
    rw [List.take_length]
    refine ⟨?_, rfl⟩
    congr 2
    rw [Bool.eq_iff_iff, List.contains_iff_mem, decide_eq_true_iff]
/-- What rings answers. -/
def RnPost (x : RV) (E : List Pr) (w : World) (e : Ending) (w' : World) : Prop := ∃ y : LV, e = .returned (.slice y.A y.ts.length y.c) ∧ y.Ok w' ∧ (∀ S, ClosOk E S → tus y.ts = ringsR S) ∧ Below w.heap.size w w'
set_option maxRecDepth 100000 in
set_option maxHeartbeats 8000000 in
theorem rings_any (x : RV) (E : List Pr) (w : World) (hx : x.Ok w) (hr : Rdy x E) : Calls Try.prog 19 #[.agg (rvA x)] w (RnPost x E w) := by
  have hb1 : Below w.heap.size w (w.alloc (.cells (rvA x) 43)) := (Below.refl _ _).alloc (Nat.le_refl _) _
  have hg1 := heap_alloc_new w (.cells (rvA x) 43)
  have hpa := parts_any x E _ (hx.below hb1) hr
  have hnl := hr.nl
  unfold rvA at hb1 hg1 hpa ⊢
  obtain ⟨q0, q1, q2⟩ := bx3 hg1
  have HB := Lib.hid (And.intro hb1 hg1)
  have HPA := Lib.hid hpa
  have HX := Lib.hid (And.intro hx hr)
  clear hx hr hb1 hg1 hpa
  go_enter Try.func19, Try.ntmps19
  go_upto_region 2 with (go_at_call 33; (with_reducible refine HPA.out.mono ?_); rintro e w2 ⟨⟨uA, P, uc⟩, rfl, hPl, oP, hsame, hrange, b2⟩; dsimp only at hPl oP hsame hrange; have H2 := Lib.hid (And.intro oP (And.intro hsame (And.intro hrange (And.intro (HB.out.1.trans (lower' b2 HB.out.1.size)) (And.intro ((b2.block w.heap.size (by simp)).trans HB.out.2) hPl))))); clear oP hsame hrange b2 q0 q1 q2)
  (try dsimp only)
  (try rw [hPl])
  clear HPA HB hPl
  obtain ⟨q0, q1, -⟩ := bx3 H2.out.2.2.2.2.1
  have hrow2 : OwnI w2 w.heap.size ⟨uA, P, uc⟩ := own_mono H2.out.1 (by simp)
  have HR2 := Lib.hid hrow2
  clear hrow2
  have hmk := makeRR x.N.length (by omega) w2
  have hg3 := heap_alloc_new w2 (.cells (List.replicate x.N.length nil13).toArray 25)
  have hb3 : Below w2.heap.size w2 (w2.alloc (.cells (List.replicate x.N.length nil13).toArray 25)) := (Below.refl _ _).alloc (Nat.le_refl _) _
  have hw12 : w.heap.size ≤ w2.heap.size := H2.out.2.2.2.1.size
  have hns : Nest (w2.alloc (.cells (List.replicate x.N.length nil13).toArray 25)) w2.heap.size w2.heap.size (List.replicate x.N.length ⟨none, [], 0⟩) := nest_made (by rw [hg3]; simp) (Nat.le_refl _) (by omega)
  generalize (List.replicate x.N.length nil13).toArray = Z at hmk hg3 hb3 hns
  have H3 := Lib.hid (And.intro hns hb3)
  have hg0 := (hb3.block _ (heap_lt H2.out.2.2.2.2.1)).trans H2.out.2.2.2.2.1
  clear hg3 hb3 hns
  go_upto_region 3 with (fail)
  clear q0 q1 hmk
  obtain ⟨q0, -, -⟩ := bx3 hg0
  generalize w2.alloc (.cells Z 25) = w3 at H3 q0 ⊢
  clear hg0
  obtain ⟨gm, hgm⟩ : ∃ gm, gm = w2.heap.size := ⟨_, rfl⟩
  rw [← hgm] at H3 ⊢
  have HGM := Lib.hid (And.intro hgm hw12)
  clear hgm hw12
  go_wp2_with (fail)
  clear q0
  go_loopw [20] (fun v20 wr => ∃ (k : Nat) (us : List TV), k ≤ x.N.length ∧ v20 = .int .i64 (k : Int) ∧ Hid (Nest wr gm gm us ∧ tus us = memsP x.N P k ∧ Below gm w2 wr)) (fun v20 _ => x.N.length - (intOf v20).toNat)
  case atStart => exact ⟨0, _, by omega, rfl, Lib.hid ⟨H3.out.1, by rw [vals_nil, memsP_zero], H3.out.2⟩⟩
  case round =>
    clear H3
    obtain ⟨k, us, hk, rfl, hrel⟩ := hrel
    have hbw : Below w.heap.size w wr := H2.out.2.2.2.1.trans (lower' hrel.out.2.2 (by have := HGM.out; omega))
    have hb2 : Below w2.heap.size w2 wr := by have h := hrel.out.2.2; rw [HGM.out.1] at h; exact h
    have hbox := (hb2.block _ (heap_lt H2.out.2.2.2.2.1)).trans H2.out.2.2.2.2.1
    have hrow : OwnI wr w.heap.size ⟨uA, P, uc⟩ := HR2.out.below hb2
    have hul : us.length = x.N.length := by have := congrArg List.length hrel.out.2.1; rw [tus_len, memsP_len] at this; exact this
    by_cases hkn : k < x.N.length
    · have hkI : (k : Int) < (x.N.length : Int) := by omega
      obtain ⟨nb, no, hnA, _, n0⟩ := (HX.out.1.below hbw).nd.cell (k := k) hkn
      dsimp only at hnA n0
      rw [hnA]
      obtain ⟨r, hr1, hr2⟩ := H2.out.2.2.1 k hkn
      have hPl := H2.out.2.2.2.2.2
      have hrI : (r : Int) < (x.N.length : Int) := by omega
      have hD : Below wr.heap.size wr wr.drew := (Below.refl wr.heap.size wr).drew
      obtain ⟨gu, cur, huA, _⟩ := OwnI.blk hrow (by dsimp only; omega)
      dsimp only at huA
      rw [huA]
      rw [huA] at hrow
      obtain ⟨p0, -, -, -, -, hgu⟩ := OwnI.setAt (hrow.below hD) (g := gu) rfl (p := k) (by dsimp only; omega) 0
      dsimp only at p0
      have hPk : P[k]'(by omega) = (r : Int) := by rw [← hr1, List.getD_eq_getElem?_getD, List.getElem?_eq_getElem (by omega)]; rfl
      rw [hPk] at p0
      have hru : r < us.length := by omega
      have hus : us[r].l = memP x.N P k r := by
        have h1 := tus_at us r hru
        rw [← h1]
        simp only [hrel.out.2.1]
        exact memsP_at hr2
      have hsl : us[r].l.length ≤ 2000 := by rw [hus]; have := memP_len x.N P k r; omega
      have hnd := hrel.out.1.kept hD
      obtain ⟨Nk, hNk⟩ : ∃ z, z = x.N[k] := ⟨_, rfl⟩
      rw [← hNk] at n0
      obtain ⟨u, w9, hrun, hul9, ⟨cc, cf⟩, hn9, hlow9, hfr9, hbA, hf9⟩ := hnd.app hru (Nat.le_trans hrel.out.2.2.size (Nat.le_refl _) |> fun h => by have := HGM.out; have := hrel.out.2.2.size; show gm ≤ wr.drew.heap.size; simp; omega) Nk (by omega)
      have hoc := (hnd.cell hru).1
      have hcon : tus (us.set r u) = memsP x.N P (k + 1) := by
        rw [tus_set, hul9, memsP_put hr1 hr2, hrel.out.2.1, hus, getD_at hkn, ← hNk]
      have hgmlt := Nest.lt hnd
      have hw9 : w9.cell? ⟨gu, k, none⟩ = some (.int .i64 (r : Int)) := by
        have hgur : gu ∉ us[r].val.ownBlock.toList := fun hm => by
          obtain ⟨b, hb, e⟩ := (blk_at us[r] gu).1 hm
          have h1 := ((hnd.tup _ (List.getElem_mem hru)).lo b hb).1
          have h2 : OwnI w2 w.heap.size ⟨some ⟨gu, 0, none⟩, P, uc⟩ := by have h := HR2.out; rw [huA] at h; exact h
          have h3 := (OwnI.lo h2 _ rfl).2
          dsimp only at h3
          have := HGM.out.1
          omega
        exact (World.cell?_of_block (hf9.block gu hgu (by exact hgur))).trans p0
      have HSP := Lib.hid (fun WW (hW : Below wr.drew.heap.size wr.drew WW) => (⟨(hW.cell (p := ⟨gu, k, none⟩) hgu).trans p0, (hW.cell (p := ⟨gm, r, none⟩) hgmlt.2).trans hoc⟩ : WW.cell? ⟨gu, k, none⟩ = some (.int .i64 (r : Int)) ∧ WW.cell? ⟨gm, r, none⟩ = some (.slice us[r].A us[r].l.length us[r].c)))
      have H9 := Lib.hid (And.intro hn9 (And.intro hcon (hrel.out.2.2.trans ((lower' hD (by have := hrel.out.2.2.size; have := HGM.out.1; omega)).trans hlow9))))
      have S9 := Lib.hid (And.intro hw9 cc)
      have B0 := Lib.hid (Below.refl wr.drew.heap.size wr.drew)
      have BA := Lib.hid hbA
      have hrI2 : (r : Int) < (us.length : Int) := by omega
      have HPL := Lib.hid hPl
      generalize us[r] = tp at *
      clear hnd hul9 hn9 hlow9 hfr9 hbA hf9 hcon hoc hD hru hus hrow hbox hb2 hbw hgmlt hw9 hPk hNk hr1 hgu p0 hPl hrel
      go_upto_region 6 with (fail)
      refine wp_region_M (fun j => decide (j < 15)) (fun w' => w'.cell? ⟨gu, k, none⟩ = some (.int .i64 (r : Int)) ∧ w'.cell? ⟨gm, r, none⟩ = some (.slice tp.A tp.l.length tp.c)) (by kernel_rfl) ?_
      refine wpAnyM_take (i := 0) (v := ?_) rfl (by kernel_rfl) (by kernel_rfl) (by kernel_rfl) (by kernel_rfl) (fun _ _ _ h => h) (Or.inl ⟨by rfl, ?_⟩) (HSP.out _ B0.out) ?_
      rotate_left
      · intro w hSw; (try dsimp only at hSw); go_simp; (try with_reducible rfl)
      simp only [Act.put, List.getElem_toArray, List.getElem_cons_zero, List.getElem_cons_succ, List.setIfInBounds_toArray, List.set_cons_zero, List.set_cons_succ]
      refine wpAnyM_take (i := 1) (v := ?_) rfl (by kernel_rfl) (by kernel_rfl) (by kernel_rfl) (by kernel_rfl) (fun _ _ _ h => h) (Or.inl ⟨by rfl, ?_⟩) (HSP.out _ B0.out) ?_
      rotate_left
      · intro w hSw; (try dsimp only at hSw); go_simp; (try with_reducible rfl)
      simp only [Act.put, List.getElem_toArray, List.getElem_cons_zero, List.getElem_cons_succ, List.setIfInBounds_toArray, List.set_cons_zero, List.set_cons_succ]
      refine wpAnyM_take (i := 2) (v := ?_) rfl (by kernel_rfl) (by kernel_rfl) (by kernel_rfl) (by kernel_rfl) (fun _ _ _ h => h) (Or.inl ⟨by rfl, ?_⟩) (HSP.out _ B0.out) ?_
      rotate_left
      · intro w hSw; (try dsimp only at hSw); go_simp; (try with_reducible rfl)
      simp only [Act.put, List.getElem_toArray, List.getElem_cons_zero, List.getElem_cons_succ, List.setIfInBounds_toArray, List.set_cons_zero, List.set_cons_succ]
      refine wpAnyM_take (i := 3) (v := ?_) rfl (by kernel_rfl) (by kernel_rfl) (by kernel_rfl) (by kernel_rfl) (fun _ _ _ h => h) (Or.inl ⟨by rfl, ?_⟩) (HSP.out _ B0.out) ?_
      rotate_left
      · intro w hSw; (try dsimp only at hSw); go_simp; (try with_reducible rfl)
      simp only [Act.put, List.getElem_toArray, List.getElem_cons_zero, List.getElem_cons_succ, List.setIfInBounds_toArray, List.set_cons_zero, List.set_cons_succ]
      refine wpAnyM_take (i := 4) (v := ?_) rfl (by kernel_rfl) (by kernel_rfl) (by kernel_rfl) (by kernel_rfl) (fun _ _ _ h => h) (Or.inl ⟨by rfl, ?_⟩) (HSP.out _ B0.out) ?_
      rotate_left
      · intro w hSw; (try dsimp only at hSw); go_simp; (try with_reducible rfl)
      simp only [Act.put, List.getElem_toArray, List.getElem_cons_zero, List.getElem_cons_succ, List.setIfInBounds_toArray, List.set_cons_zero, List.set_cons_succ]
      refine wpAnyM_take (i := 5) (v := ?_) rfl (by kernel_rfl) (by kernel_rfl) (by kernel_rfl) (by kernel_rfl) (fun _ _ _ h => h) (Or.inl ⟨by rfl, ?_⟩) (HSP.out _ B0.out) ?_
      rotate_left
      · intro w hSw; (try dsimp only at hSw); go_simp; (try with_reducible rfl)
      simp only [Act.put, List.getElem_toArray, List.getElem_cons_zero, List.getElem_cons_succ, List.setIfInBounds_toArray, List.set_cons_zero, List.set_cons_succ]
      refine wpAnyM_take (i := 6) (v := ?_) rfl (by kernel_rfl) (by kernel_rfl) (by kernel_rfl) (by kernel_rfl) (fun _ _ _ h => h) (Or.inl ⟨by rfl, ?_⟩) (HSP.out _ B0.out) ?_
      rotate_left
      · intro w hSw; (try dsimp only at hSw); go_simp; (try with_reducible rfl)
      simp only [Act.put, List.getElem_toArray, List.getElem_cons_zero, List.getElem_cons_succ, List.setIfInBounds_toArray, List.set_cons_zero, List.set_cons_succ]
      refine wpAnyM_take (i := 7) (v := ?_) rfl (by kernel_rfl) (by kernel_rfl) (by kernel_rfl) (by kernel_rfl) (fun _ _ _ h => h) (Or.inl ⟨by rfl, ?_⟩) (HSP.out _ B0.out) ?_
      rotate_left
      · intro w hSw; (try dsimp only at hSw); go_simp; (try with_reducible rfl)
      simp only [Act.put, List.getElem_toArray, List.getElem_cons_zero, List.getElem_cons_succ, List.setIfInBounds_toArray, List.set_cons_zero, List.set_cons_succ]
      refine wpAnyM_take (i := 8) (v := ?_) rfl (by kernel_rfl) (by kernel_rfl) (by kernel_rfl) (by kernel_rfl) (fun _ _ _ h => h) (Or.inl ⟨by rfl, ?_⟩) (HSP.out _ B0.out) ?_
      rotate_left
      · intro w hSw; (try dsimp only at hSw); go_simp; (try with_reducible rfl)
      simp only [Act.put, List.getElem_toArray, List.getElem_cons_zero, List.getElem_cons_succ, List.setIfInBounds_toArray, List.set_cons_zero, List.set_cons_succ]
      refine wpAnyM_take (i := 9) (v := ?_) rfl (by kernel_rfl) (by kernel_rfl) (by kernel_rfl) (by kernel_rfl) (fun _ _ _ h => h) (Or.inl ⟨by rfl, ?_⟩) (HSP.out _ B0.out) ?_
      rotate_left
      · intro w hSw; (try dsimp only at hSw); go_simp; (try with_reducible rfl)
      simp only [Act.put, List.getElem_toArray, List.getElem_cons_zero, List.getElem_cons_succ, List.setIfInBounds_toArray, List.set_cons_zero, List.set_cons_succ]
      refine wpAnyM_take (i := 10) (v := ?_) rfl (by kernel_rfl) (by kernel_rfl) (by kernel_rfl) (by kernel_rfl) (fun _ _ _ h => h) (Or.inl ⟨by rfl, ?_⟩) (HSP.out _ B0.out) ?_
      rotate_left
      · intro w hSw; (try dsimp only at hSw); go_simp; (try with_reducible rfl)
      simp only [Act.put, List.getElem_toArray, List.getElem_cons_zero, List.getElem_cons_succ, List.setIfInBounds_toArray, List.set_cons_zero, List.set_cons_succ]
      refine wpAnyM_take (i := 11) (v := ?_) rfl (by kernel_rfl) (by kernel_rfl) (by kernel_rfl) (by kernel_rfl) (fun _ _ _ h => h) (Or.inl ⟨by rfl, ?_⟩) (HSP.out _ B0.out) ?_
      rotate_left
      · intro w hSw; (try dsimp only at hSw); go_simp; (try with_reducible rfl)
      simp only [Act.put, List.getElem_toArray, List.getElem_cons_zero, List.getElem_cons_succ, List.setIfInBounds_toArray, List.set_cons_zero, List.set_cons_succ]
      refine wpAnyM_take (i := 12) (v := ?_) rfl (by kernel_rfl) (by kernel_rfl) (by kernel_rfl) (by kernel_rfl) (fun _ _ _ h => h) (Or.inl ⟨by rfl, ?_⟩) (HSP.out _ B0.out) ?_
      rotate_left
      · intro w hSw; (try dsimp only at hSw); go_simp; (try with_reducible rfl)
      simp only [Act.put, List.getElem_toArray, List.getElem_cons_zero, List.getElem_cons_succ, List.setIfInBounds_toArray, List.set_cons_zero, List.set_cons_succ]
      refine wpAnyM_one (i := 13) (by kernel_rfl) rfl (fun K hK => ?_)
      go_simp
      refine hK.out _ _ (fun _ => HSP.out _ BA.out) ?_
      clear hK K
      refine wpAnyM_one (i := 14) (by kernel_rfl) rfl (fun K hK => ?_)
      refine step_appK _ (by rfl) (.tmp 36) (.tmp 38) 25 rfl rfl _ _ _ _ rfl rfl hrun ?_
      refine hK.out _ _ (fun _ => S9.out) ?_
      clear hK K
      refine wpAnyM_one (i := 15) (by kernel_rfl) rfl (fun K hK => ?_)
      go_simp
      refine hK.out _ _ (fun h => absurd h (by decide)) ?_
      clear hK K
      refine wpAnyM_one (i := 16) (by kernel_rfl) rfl (fun K hK => ?_)
      go_simp
      refine hK.out _ _ (fun h => absurd h (by decide)) ?_
      clear hK K
      refine wpAnyM_done (by kernel_rfl) ?_ _
      clear S9 HSP B0 BA
      go_wp2_with (fail)
      go_roundw
      case rel => exact ⟨k + 1, us.set r u, by omega, by go_num, H9⟩
      case measure => simp [intOf]; omega
    · have hkI : ¬ (k : Int) < (x.N.length : Int) := by omega
      obtain rfl : k = x.N.length := by omega
      have hPl := H2.out.2.2.2.2.2
      have HL2 := Lib.hid (And.intro hul (And.intro hrel.out.1 (And.intro hrel.out.2.1 (And.intro hbw (And.intro hrow (And.intro hbox hPl))))))
      obtain ⟨q0, q1, -⟩ := bx3 hbox
      clear hrel hbw hb2 hbox hrow hul hPl q1
      go_wp2_with (fail)
      clear q0
      go_loopw [7, 45] (fun v7 v45 wq => ∃ (k : Nat) (ys : List TV) (A7 : Option Addr) (c7 : Nat), k ≤ x.N.length ∧ v7 = .slice A7 ys.length c7 ∧ v45 = .int .i64 (k : Int) ∧ Hid (RowM wq wr.heap.size (.slice A7 ys.length c7) ys ∧ tus ys = ringsP x.N (plR x.o.ts) P k ∧ (∀ t ∈ ys, t ∈ us) ∧ ys.length ≤ k ∧ Below wr.heap.size wr wq)) (fun _ v45 _ => x.N.length - (intOf v45).toNat)
      case atStart => exact ⟨0, [], none, 0, by omega, rfl, rfl, Lib.hid ⟨RowM.nil _ _, rfl, (fun _ h => nomatch h), Nat.le_refl _, Below.refl _ _⟩⟩
      case round =>
        obtain ⟨k, ys, A7, c7, hk, rfl, rfl, hrel⟩ := hrel
        rename World => wq
        by_cases hkn : k < x.N.length
        · have hkI : (k : Int) < (x.N.length : Int) := by omega
          have hbq := hrel.out.2.2.2.2
          have hbw : Below w.heap.size w wq := HL2.out.2.2.2.1.trans (lower' hbq HL2.out.2.2.2.1.size)
          have hxq := HX.out.1.below hbw
          obtain ⟨nb, no, hnA, _, n0⟩ := hxq.nd.cell (k := k) hkn
          dsimp only at hnA n0
          rw [hnA]
          obtain ⟨r, hr1, hr2⟩ := H2.out.2.2.1 k hkn
          have hPl := HL2.out.2.2.2.2.2.2
          have hrow := HL2.out.2.2.2.2.1.below hbq
          obtain ⟨gu, cur, huA, _⟩ := OwnI.blk hrow (by dsimp only; omega)
          dsimp only at huA
          rw [huA]
          rw [huA] at hrow
          obtain ⟨p0, -, -, -, -, -⟩ := OwnI.setAt hrow (g := gu) rfl (p := k) (by dsimp only; omega) 0
          dsimp only at p0
          have hPk : P[k]'(by omega) = (r : Int) := by rw [← hr1, List.getD_eq_getElem?_getD, List.getElem?_eq_getElem (by omega)]; rfl
          rw [hPk] at p0
          have hru : r < us.length := by rw [HL2.out.1]; exact hr2
          have hus : us[r].l = partOf x.N P (P.getD k (-1)) := by
            have h1 := tus_at us r hru
            rw [← h1, hr1, ← memP_all]
            simp only [HL2.out.2.2.1]
            exact memsP_at hr2
          have hnd := HL2.out.2.1.kept hbq
          have hoc := (hnd.cell hru).1
          have hmem : x.N.getD k 0 ∈ us[r].l := by rw [hus, hr1]; exact part_in hkn hr1
          have hsl : us[r].l.length ≤ 2000 := by
            have h1 := tus_at us r hru
            rw [← h1]
            simp only [HL2.out.2.2.1]
            rw [memsP_at hr2]
            have := memP_len x.N P x.N.length r
            omega
          have htok := (hnd.tup _ (List.getElem_mem hru)).ok (by omega)
          have htm : us[r] ∈ us := List.getElem_mem hru
          have hrI : (r : Int) < (x.N.length : Int) := by omega
          have hko : k < x.o.ts.length := by rw [HX.out.2.ol]; exact hkn
          have hkoI : (k : Int) < (x.o.ts.length : Int) := by omega
          obtain ⟨-, q1, -⟩ := bx3 ((hbq.block _ (heap_lt HL2.out.2.2.2.2.2.1)).trans HL2.out.2.2.2.2.2.1)
          obtain ⟨ob, oo, hoA, _, r0⟩ := LV.Ok.cel hxq.o hko
          rw [hoA] at q1
          have hco := containsR_any x.o.ts[k] (k : Int) wq (LV.Ok.att hxq.o hko)
          have hat := atR_int hko HX.out.2.po k
          obtain ⟨Nk, hNk⟩ : ∃ z, z = x.N[k] := ⟨_, rfl⟩
          have hNg : x.N.getD k 0 = Nk := by rw [getD_at hkn, hNk]
          rw [← hNk] at n0
          rw [hNg] at hmem
          generalize us[r] = tp at hus hoc hmem hsl htok htm
          obtain ⟨tA, tl, tc⟩ := tp
          dsimp only at hus hoc hmem hsl
          cases tl with
          | nil => cases hmem
          | cons h0 tr =>
            obtain ⟨tb, tof, htA, _, t0⟩ := htok.cell (k := 0) (by simp)
            dsimp only at htA t0
            subst htA
            simp only [List.getElem_cons_zero, Nat.add_zero] at t0
            simp only [List.length_cons] at hoc hsl
            have hTK : takesP x.N (plR x.o.ts) P k = (decide (h0 = Nk) && (decide (1 < tr.length + 1) || decide ((k : Int) ∈ x.o.ts[k].l))) := by
              unfold takesP
              rw [← hus, hNg]
              have e1 : ((h0 :: tr).head? = some Nk) = (h0 = Nk) := by simp
              have e2 : (k ∈ (plR x.o.ts).getD k []) = ((k : Int) ∈ x.o.ts[k].l) := propext hat
              simp only [e1, e2, List.length_cons]
            have HT := Lib.hid (And.intro htm hus.symm)
            generalize x.o.ts[k] = oc at r0 hco hTK
            clear hus htok htm hat hNk hNg hmem hnd hru hPk hrow hPl hr1 hr2 hxq hbw hko hoA hbq hkI hnA huA
            have hkI : (k : Int) < (x.N.length : Int) := by omega
            by_cases hh : h0 = Nk
            · have hE : (h0 == Nk) = true := beq_iff_eq.2 hh
              rw [decide_eq_true hh, Bool.true_and] at hTK
              clear hh
              by_cases h1 : 1 < tr.length + 1
              · have h1I : (1 : Int) < (tr.length : Int) + 1 := by omega
                have hTT : takesP x.N (plR x.o.ts) P k = true := by rw [hTK, decide_eq_true h1]; rfl
                clear hTK hco h1
                obtain ⟨A5, c5, w5, hrun, g1, g2, _⟩ := hrel.out.1.push ⟨some ⟨tb, tof, none⟩, h0 :: tr, tc⟩ (by have := hrel.out.2.2.2.1; omega) hrel.out.2.2.2.2.size
                simp only [List.length_cons] at hrun
                obtain ⟨nn, hnn⟩ : ∃ n, n = ys.length + 1 := ⟨_, rfl⟩
                rw [← hnn] at hrun
                have HN := Lib.hid (show RowM w5 wr.heap.size (.slice A5 nn c5) (ys ++ [⟨some ⟨tb, tof, none⟩, h0 :: tr, tc⟩]) ∧ (ys ++ [(⟨some ⟨tb, tof, none⟩, h0 :: tr, tc⟩ : TV)]).length = nn ∧ tus (ys ++ [⟨some ⟨tb, tof, none⟩, h0 :: tr, tc⟩]) = ringsP x.N (plR x.o.ts) P (k + 1) ∧ (∀ t ∈ ys ++ [⟨some ⟨tb, tof, none⟩, h0 :: tr, tc⟩], t ∈ us) ∧ (ys ++ [(⟨some ⟨tb, tof, none⟩, h0 :: tr, tc⟩ : TV)]).length ≤ k + 1 ∧ Below wr.heap.size wr w5 from
                  ⟨by rw [hnn]; exact g1, by rw [List.length_append, hnn]; rfl, by rw [tus_app, hrel.out.2.1, ringsP_succ, if_pos hTT, HT.out.2]; rfl, fun t ht => by
                    rcases List.mem_append.1 ht with ht | ht
                    · exact hrel.out.2.2.1 t ht
                    · rw [List.mem_singleton.1 ht]; exact HT.out.1, by rw [List.length_append, List.length_singleton]; have := hrel.out.2.2.2.1; omega, hrel.out.2.2.2.2.trans g2⟩)
                clear hrel g1 g2 hnn hTT
                go_wp2_with (first | (go_at_call 34; (with_reducible refine HCO.out.mono ?_); rintro e wz ⟨rfl, rfl⟩) | (at_builtin; refine wpL_appK _ rfl (.tmp 76) (.tmp 78) 38 rfl rfl _ _ _ _ rfl rfl hrun ?_))
                go_roundw
                case rel => exact ⟨k + 1, ys ++ [⟨some ⟨tb, tof, none⟩, h0 :: tr, tc⟩], A5, c5, by omega, by rw [HN.out.2.1], by go_num, Lib.hid ⟨by rw [HN.out.2.1]; exact HN.out.1, HN.out.2.2⟩⟩
                case measure => simp [intOf]; omega
              · have h1I : ¬ (1 : Int) < (tr.length : Int) + 1 := by omega
                rw [decide_eq_false h1, Bool.false_or] at hTK
                clear h1
                by_cases hc : (k : Int) ∈ oc.l
                · rw [decide_eq_true hc] at hTK hco
                  have hTT := hTK
                  have HCO := Lib.hid hco
                  clear hTK hco hc
                  obtain ⟨A5, c5, w5, hrun, g1, g2, _⟩ := hrel.out.1.push ⟨some ⟨tb, tof, none⟩, h0 :: tr, tc⟩ (by have := hrel.out.2.2.2.1; omega) hrel.out.2.2.2.2.size
                  simp only [List.length_cons] at hrun
                  obtain ⟨nn, hnn⟩ : ∃ n, n = ys.length + 1 := ⟨_, rfl⟩
                  rw [← hnn] at hrun
                  have HN := Lib.hid (show RowM w5 wr.heap.size (.slice A5 nn c5) (ys ++ [⟨some ⟨tb, tof, none⟩, h0 :: tr, tc⟩]) ∧ (ys ++ [(⟨some ⟨tb, tof, none⟩, h0 :: tr, tc⟩ : TV)]).length = nn ∧ tus (ys ++ [⟨some ⟨tb, tof, none⟩, h0 :: tr, tc⟩]) = ringsP x.N (plR x.o.ts) P (k + 1) ∧ (∀ t ∈ ys ++ [⟨some ⟨tb, tof, none⟩, h0 :: tr, tc⟩], t ∈ us) ∧ (ys ++ [(⟨some ⟨tb, tof, none⟩, h0 :: tr, tc⟩ : TV)]).length ≤ k + 1 ∧ Below wr.heap.size wr w5 from
                    ⟨by rw [hnn]; exact g1, by rw [List.length_append, hnn]; rfl, by rw [tus_app, hrel.out.2.1, ringsP_succ, if_pos hTT, HT.out.2]; rfl, fun t ht => by
                      rcases List.mem_append.1 ht with ht | ht
                      · exact hrel.out.2.2.1 t ht
                      · rw [List.mem_singleton.1 ht]; exact HT.out.1, by rw [List.length_append, List.length_singleton]; have := hrel.out.2.2.2.1; omega, hrel.out.2.2.2.2.trans g2⟩)
                  clear hrel g1 g2 hnn hTT
                  go_wp2_with (first | (go_at_call 34; (with_reducible refine HCO.out.mono ?_); rintro e wz ⟨rfl, rfl⟩) | (at_builtin; refine wpL_appK _ rfl (.tmp 76) (.tmp 78) 38 rfl rfl _ _ _ _ rfl rfl hrun ?_))
                  go_roundw
                  case rel => exact ⟨k + 1, ys ++ [⟨some ⟨tb, tof, none⟩, h0 :: tr, tc⟩], A5, c5, by omega, by rw [HN.out.2.1], by go_num, Lib.hid ⟨by rw [HN.out.2.1]; exact HN.out.1, HN.out.2.2⟩⟩
                  case measure => simp [intOf]; omega
                · rw [decide_eq_false hc] at hTK hco
                  have hTT : ¬ takesP x.N (plR x.o.ts) P k = true := by rw [hTK]; decide
                  have HCO := Lib.hid hco
                  clear hTK hco hc
                  have HN := Lib.hid (And.intro hrel.out.1 (And.intro (show tus ys = ringsP x.N (plR x.o.ts) P (k + 1) from by rw [ringsP_succ, if_neg hTT, List.append_nil]; exact hrel.out.2.1) hrel.out.2.2))
                  clear hrel hTT
                  go_wp2_with ((go_at_call 34; (with_reducible refine HCO.out.mono ?_); rintro e wz ⟨rfl, rfl⟩))
                  go_roundw
                  case rel => exact ⟨k + 1, ys, A7, c7, by omega, rfl, by go_num, Lib.hid ⟨HN.out.1, HN.out.2.1, HN.out.2.2.1, by have := HN.out.2.2.2.1; omega, HN.out.2.2.2.2⟩⟩
                  case measure => simp [intOf]; omega
            · have hE : (h0 == Nk) = false := beq_eq_false_iff_ne.2 hh
              rw [decide_eq_false hh, Bool.false_and] at hTK
              have hTT : ¬ takesP x.N (plR x.o.ts) P k = true := by rw [hTK]; decide
              clear hh hTK hco
              have HN := Lib.hid (And.intro hrel.out.1 (And.intro (show tus ys = ringsP x.N (plR x.o.ts) P (k + 1) from by rw [ringsP_succ, if_neg hTT, List.append_nil]; exact hrel.out.2.1) hrel.out.2.2))
              clear hrel hTT
              go_wp2_with ((go_at_call 34; (with_reducible refine HCO.out.mono ?_); rintro e wz ⟨rfl, rfl⟩))
              go_roundw
              case rel => exact ⟨k + 1, ys, A7, c7, by omega, rfl, by go_num, Lib.hid ⟨HN.out.1, HN.out.2.1, HN.out.2.2.1, by have := HN.out.2.2.2.1; omega, HN.out.2.2.2.2⟩⟩
              case measure => simp [intOf]; omega
        · have hkI : ¬ (k : Int) < (x.N.length : Int) := by omega
          obtain rfl : k = x.N.length := by omega
          have HF := Lib.hid hrel.out
          clear hrel
          go_wp2_with (fail)
          go_ret
          have hf := HF.out
          obtain ⟨A', c', e', h1, _, h2⟩ := own_shape hf.1
          injection e' with e1 e2 e3
          subst e1 e3
          have hyo : LV.Ok wq ⟨A7, ys, c7⟩ := ⟨h2, fun t ht => ((HL2.out.2.1.kept hf.2.2.2.2).tup t (hf.2.2.1 t ht)).ok (by
            have h3 := mem_tus (hf.2.2.1 t ht)
            rw [HL2.out.2.2.1] at h3
            obtain ⟨r, _, e⟩ := List.mem_map.1 h3
            rw [← e]
            have := memP_len x.N P x.N.length r
            omega), h1, by have := hf.2.2.2.1; show ys.length ≤ 5000; omega⟩
          refine ⟨⟨A7, ys, c7⟩, rfl, hyo, fun S hS => ?_, HL2.out.2.2.2.1.trans (lower' hf.2.2.2.2 HL2.out.2.2.2.1.size)⟩
          rw [hf.2.1]
          exact rings_eq HX.out.2.roads hS H2.out.2.1
/-- What Rings answers. -/
def RgPost (lab : Nm) (E : List Pr) (w : World) (e : Ending) (w' : World) : Prop :=
  (isNm lab = false ∧ e = .returned (.tuple #[.slice none 0 0, .int .i64 1]) ∧ Below w.heap.size w w') ∨ (isNm lab = true ∧ ∃ y : LV, e = .returned (.tuple #[.slice y.A y.ts.length y.c, .int .i64 0]) ∧ y.Ok w' ∧ (∀ S, ClosOk E S → tus y.ts = ringsR S) ∧ Below w.heap.size w w')
set_option maxRecDepth 100000 in
set_option maxHeartbeats 4000000 in
theorem Rings_any (lab : Nm) (A : Option Addr) (c : Nat) (es : List Ed) (w : World) (h : Es w A c es) : Calls Try.prog 9 #[.string ⟨lab.toArray⟩, .slice A es.length c] w (RgPost lab (prsL lab es) w) := by
  have his := is_any lab w
  have hro := roadsOf_any lab A c es w h
  have hsm := h.sm
  clear h
  by_cases hn : isNm lab = false
  · rw [hn] at his
    have HI := Lib.hid his
    have HE := Lib.hid hn
    clear his hro hn
    go_enter Try.func9, Try.ntmps9
    go_wp2_with (go_at_call 10; (with_reducible refine HI.out.mono ?_); rintro e w1 ⟨rfl, rfl⟩)
    go_ret2
    exact .inl ⟨HE.out, rfl, Below.refl _ _⟩
  · have hn' : isNm lab = true := by simpa using hn
    rw [hn'] at his
    have HI := Lib.hid his
    have HRO := Lib.hid hro
    have HL := Lib.hid (And.intro hn' hsm)
    clear his hro hn hn' hsm
    go_enter Try.func9, Try.ntmps9
    go_wp2_with (first
      | (go_at_call 10; (with_reducible refine HI.out.mono ?_); rintro e w1 ⟨rfl, rfl⟩)
      | (go_at_call 11; (with_reducible refine HRO.out.mono ?_); rintro e w2 ⟨x, rfl, x2, n2, o2, i2, b2⟩; have B2 := Lib.hid b2; have HP := Lib.hid (rings_any x _ w2 x2 (rdy_of HL.out.2 n2 o2 i2)); clear x2 n2 o2 i2 b2)
      | (go_at_call 19; (with_reducible refine HP.out.mono ?_); rintro e w3 ⟨y, rfl, y3, r3, b3⟩; have R3 := Lib.hid (And.intro y3 (And.intro r3 b3)); clear y3 r3 b3))
    go_ret2
    exact .inr ⟨HL.out.1, y, rfl, R3.out.1, R3.out.2.1, B2.out.trans (lower' R3.out.2.2 B2.out.size)⟩
end Go.Proofs.Ytgjjdmkoamjdpaa
