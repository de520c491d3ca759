/- join.Result. -/
import Derived.Test.YtgldcahhliokeaaJoY
namespace Go.Proofs.Ytgldcahhliokeaa
open Go.RowKit Go.Maps

/-- How many of the tuples are each of a set. -/
def cnt (R all : List Tu) : List Int := R.map fun t => ((all.filter fun u => decide (u = t)).length : Int)
theorem cnt_len (R all : List Tu) : (cnt R all).length = R.length := List.length_map _
theorem cnt_nil (R : List Tu) : cnt R [] = List.replicate R.length 0 := by
  unfold cnt
  rw [List.eq_replicate_iff]
  exact ⟨List.length_map _, fun x hx => by obtain ⟨t, _, rfl⟩ := List.mem_map.1 hx; rfl⟩
theorem cnt_at {R all : List Tu} {p : Nat} (h : p < R.length) : (cnt R all)[p]'(by rw [cnt_len]; exact h) = ((all.filter fun u => decide (u = R[p])).length : Int) := by simp [cnt]
theorem cnt_snoc {R all : List Tu} {t : Tu} {p : Nat} (hn : R.Nodup) (h : p < R.length) (ht : R[p] = t) : cnt R (all ++ [t]) = (cnt R all).set p ((cnt R all)[p]'(by rw [cnt_len]; exact h) + 1) := by
  apply List.ext_getElem
  · rw [cnt_len, List.length_set, cnt_len]
  · intro j h1 h2
    rw [cnt_len] at h1
    rw [List.getElem_set, cnt_at h1]
    by_cases e : p = j
    · subst e
      rw [if_pos rfl, cnt_at h, List.filter_append, ht]
      simp
    · rw [if_neg e, cnt_at h1, List.filter_append]
      have : decide (t = R[j]) = false := decide_eq_false fun h3 => e ((List.getElem_inj hn).1 (ht.trans h3))
      simp [this]
theorem cnt_le (R all : List Tu) : ∀ x ∈ cnt R all, 0 ≤ x ∧ x ≤ all.length := by
  intro x hx
  obtain ⟨t, _, rfl⟩ := List.mem_map.1 hx
  have := List.length_filter_le (fun u => decide (u = t)) all
  omega
def outsOf (v : Vw) (es : List Ed) : List Tu := (rowsR v es).map (outL (varsL v.atoms) v.out)
def resR (v : Vw) (es : List Ed) : List Tu := if rowsC v es = 0 then setL (outsOf v es) else []
def resN (v : Vw) (es : List Ed) : List Int := if rowsC v es = 0 then countsL (outsOf v es) else []
theorem countsL_eq (all : List Tu) : countsL all = cnt (setL all) all := rfl
/-- What Result answers. -/
def RePost (w : World) (code : Int) (R : List Tu) (C : List Int) (e : Ending) (w' : World) : Prop := ∃ (y : LV) (n : TV), e = .returned (.tuple #[.slice y.A y.ts.length y.c, .slice n.A n.l.length n.c, .int .i64 code]) ∧ OwnL w' w.heap.size y.val y.ts ∧ y.Ok w' ∧ tus y.ts = R ∧ OwnI w' w.heap.size n ∧ n.Ok w' ∧ n.l = C ∧ Below w.heap.size w w'
theorem madeI (n : Nat) : madeCells #[.int .i64 0] n = (intsV (List.replicate n 0)).toArray := by
  apply Array.toList_inj.1
  rw [toList_madeCells_one, List.toList_toArray]
  simp [intsV, List.map_replicate]
theorem makeI (n : Nat) (hn : n ≤ 20000) (w : World) : (Instr.makeSlice 34 (.int .i64 (n : Int)) (.int .i64 (n : Int))).run Try.prog w = .ok (.slice (some ⟨w.heap.size, 0, none⟩) n n) (w.alloc (.cells (intsV (List.replicate n 0)).toArray 3)) := by
  have h := run_make_row' (P := Try.prog) 34 3 (.int .i64 0) 8 Try.underlying34 infoInt rfl .i64 .i64 n (by omega) (by omega) w
  rw [madeI] at h
  exact h
theorem rows_good {v : Vw} {es : List Ed} (h : rowsC v es = 0) : goodP v = true := by
  unfold rowsC at h
  by_cases hg : goodP v = true
  · exact hg
  · rw [if_neg hg] at h; omega
theorem rowsR_lens {v : Vw} {es : List Ed} : ∀ r ∈ rowsR v es, r.length = (varsL v.atoms).length := by
  intro r hr
  unfold rowsR at hr
  split at hr
  · split at hr
    · rename_i hl
      rw [mem_set] at hr
      have h1 := lowP_iff.2 hl
      unfold rowsOfL at hr
      rw [rowsN_low _ _ h1] at hr
      exact (mem_rows.1 hr).1
    · cases hr
  · cases hr
theorem rowsC_rng (v : Vw) (es : List Ed) : rowsC v es = 0 ∨ rowsC v es = 1 ∨ rowsC v es = 5 := by
  unfold rowsC
  split
  · split <;> simp
  · simp
set_option maxRecDepth 100000 in
set_option maxHeartbeats 8000000 in
theorem result_bad (x : VW) (A : Option Addr) (c : Nat) (es : List Ed) (w : World) (hx : x.Ok w) (he : Eds w A c es) (h0 : rowsC x.v es ≠ 0) :
    Calls Try.prog 15 #[.agg (vwA x), .slice A es.length c] w (RePost w (rowsC x.v es) (resR x.v es) (resN x.v es)) := by
  have hb1 : Below w.heap.size w (w.alloc (.cells (vwA x) 25)) := (Below.refl _ _).alloc (Nat.le_refl _) _
  have hk := rows_any x A c es _ (hx.below hb1) (he.below hb1)
  have hR : resR x.v es = [] := if_neg h0
  have hN : resN x.v es = [] := if_neg h0
  rw [hR, hN]
  have hrg := rowsC_rng x.v es
  obtain ⟨C, hC⟩ : ∃ C, C = rowsC x.v es := ⟨_, rfl⟩
  rw [← hC] at hk h0 hrg ⊢
  have hc0 : (C == 0) = false := beq_eq_false_iff_ne.2 h0
  have hc1 : (C != 0) = true := by simp [h0]
  unfold vwA at hb1 hk ⊢
  have HB := Lib.hid hb1
  have HK := Lib.hid hk
  clear hx he hb1 hk hR hN hC hrg
  go_enter Try.func15, Try.ntmps15
  go_wp2_with (go_at_call 14; (with_reducible refine HK.out.mono ?_); rintro e w1 ⟨y, rfl, o1, k1, e1, b1⟩)
  exact bodyPost_ret (results_tmp3 rfl _ _ _) rfl ⟨⟨none, [], 0⟩, ⟨none, [], 0⟩, rfl, ownL_nil _ _, okL_nil _, rfl, World.ownsRow_nil _ _ _ _, ⟨Rd.emp _ _ _, Nat.le_refl _, by simp⟩, rfl, HB.out.trans (lower' b1 HB.out.size)⟩
/-- Where Result counts. -/
structure CnAt (lo : Nat) (wr : World) (g : Nat) (C : List Int) : Prop where
  row : OwnI wr lo ⟨some ⟨g, 0, none⟩, C, C.length⟩
theorem CnAt.step {lo : Nat} {wr : World} {g : Nat} {C : List Int} (h : CnAt lo wr g C) {p : Nat} (hp : p < C.length) (v : Int) :
    wr.cell? ⟨g, p, none⟩ = some (.int .i64 C[p]) ∧ wr.frozen? ⟨g, p, none⟩ = false ∧ CnAt lo (wr.setCell ⟨g, p, none⟩ (.int .i64 v)) g (C.set p v) ∧ Below lo wr (wr.setCell ⟨g, p, none⟩ (.int .i64 v)) := by
  have h0 := h.row
  unfold OwnI TV.val at h0
  dsimp only at h0
  obtain ⟨hst, hgr⟩ := World.ownsRow.stored h0 p (.int .i64 v)
  have hlo := (World.ownsRow.lt h0 g rfl).1
  refine ⟨?_, World.ownsRow.frozenAt h0 p, ⟨?_⟩, (Below.refl lo wr).setCell hlo _⟩
  · rw [World.ownsRow.cellAt h0 p (by rw [Nat.mul_one]; exact hp), intsV_at C p hp]
  · unfold OwnI TV.val
    dsimp only
    rw [List.length_set]
    have e : (intsV C).set p (.int .i64 v) = intsV (C.set p v) := by unfold intsV; rw [List.map_set]
    rw [← e]
    exact hst
theorem CnAt.made (w : World) (n : Nat) (hn : n ≤ 20000) : CnAt w.heap.size (w.alloc (.cells (intsV (List.replicate n 0)).toArray 3)) w.heap.size (List.replicate n 0) := by
  refine ⟨?_⟩
  unfold OwnI TV.val
  dsimp only
  rw [List.length_replicate]
  have hl : (intsV (List.replicate n 0)).toArray.size = n := by simp [intsV]
  have := World.ownsRow_lit (base := w.heap.size) (size := 1) (e := 3) w (intsV (List.replicate n 0)).toArray n (Nat.le_refl _) (by simp [maxLen]; omega) (by rw [hl]; omega)
  simpa using this
theorem nodup_ris {l : List Tu} (h : Ris l) : l.Nodup := by
  unfold Ris at h
  exact h.imp fun hc e => by rw [e, cmpI_refl] at hc; omega
theorem nodup_set (l : List Tu) : (setL l).Nodup := nodup_ris (ris_set l)
set_option maxRecDepth 100000 in
set_option maxHeartbeats 8000000 in
theorem result_ok (x : VW) (A : Option Addr) (c : Nat) (es : List Ed) (w : World) (hx : x.Ok w) (he : Eds w A c es) (h0 : rowsC x.v es = 0) :
    Calls Try.prog 15 #[.agg (vwA x), .slice A es.length c] w (RePost w (rowsC x.v es) (resR x.v es) (resN x.v es)) := by
  have hb1 : Below w.heap.size w (w.alloc (.cells (vwA x) 25)) := (Below.refl _ _).alloc (Nat.le_refl _) _
  have hk := rows_any x A c es _ (hx.below hb1) (he.below hb1)
  have hgg := heap_alloc_new w (.cells (vwA x) 25)
  have hg := rows_good h0
  have ho := fun (y : LV) W (hW : Below w.heap.size w W) (hy : y.Ok W) (hr : ∀ r ∈ tus y.ts, r.length = (varsL x.v.atoms).length) => outputs_any x y W (hx.below hW) hg hy hr
  rw [show resR x.v es = setL (outsOf x.v es) from if_pos h0, show resN x.v es = cnt (setL (outsOf x.v es)) (outsOf x.v es) from if_pos h0]
  rw [h0] at hk ⊢
  have hlen := rowsR_lens (v := x.v) (es := es)
  have hrl := rowsR_len x.v es
  unfold vwA at hb1 hk hgg ho ⊢
  have HB := Lib.hid hb1
  have HK := Lib.hid hk
  have HG := Lib.hid hgg
  have HO := Lib.hid ho
  have HL := Lib.hid (And.intro hlen hrl)
  clear hx he hb1 hk hgg ho hg h0 hlen hrl
  go_enter Try.func15, Try.ntmps15
  go_upto_region 6 with (first
    | (go_at_call 14; (with_reducible refine HK.out.mono ?_); rintro e w1 ⟨y, rfl, o1, k1, e1, b1⟩; have B1 := Lib.hid (HB.out.trans (lower' b1 HB.out.size)); have hg1 := (b1.block w.heap.size (by simp)).trans HG.out; have q0 := cell_of_row _ _ 0 _ _ _ hg1; have q1 := cell_of_row _ _ 1 _ _ _ hg1; have q2 := cell_of_row _ _ 2 _ _ _ hg1; have q3 := cell_of_row _ _ 3 _ _ _ hg1; have q4 := cell_of_row _ _ 4 _ _ _ hg1; have HOO := Lib.hid (HO.out y w1 B1.out k1 (by rw [e1]; exact HL.out.1)); have E1 := Lib.hid e1; clear o1 k1 e1 b1 hg1)
    | (go_at_call 34; (with_reducible refine HOO.out.mono ?_); rintro e w2 ⟨al, rfl, k2, e2, b2⟩; have B2 := Lib.hid (B1.out.trans (lower' b2 B1.out.size)); have HSS := Lib.hid (set_l al w2 k2); have E2 := Lib.hid (And.intro k2 (show tus al.ts = outsOf x.v es from by rw [e2, E1.out]; rfl)); clear k2 e2 b2)
    | (go_at_call 33; (with_reducible refine HSS.out.mono ?_); rintro e w3 ⟨z, rfl, o3, k3, e3, b3⟩; have B3 := Lib.hid (B2.out.trans (lower' b3 B2.out.size)); have E3 := Lib.hid (And.intro (o3.mono B2.out.size) (And.intro k3 (And.intro (show tus z.ts = setL (outsOf x.v es) from by rw [e3, E2.out.2]) (E2.out.1.below b3)))); clear o3 k3 e3 b3))
  clear HK HG HO HOO HSS HB E1 q0 q1 q2 q3 q4
  have hzs : z.ts.length ≤ 5000 := E3.out.2.1.sm
  have hal : al.ts.length ≤ 5000 := E3.out.2.2.2.sm
  have hmk := fun W => makeI z.ts.length (by omega) W
  obtain ⟨all, hall⟩ : ∃ all, all = outsOf x.v es := ⟨_, rfl⟩
  have F2 := Lib.hid (show tus al.ts = all from by rw [E2.out.2, hall])
  have F3 := Lib.hid (show tus z.ts = setL all from by rw [E3.out.2.2.1, hall])
  have G3 := Lib.hid (And.intro E3.out.1 (And.intro E3.out.2.1 E3.out.2.2.2))
  have HALL := Lib.hid hall
  clear E2 E3 hall
  have hN1 := CnAt.made w3 z.ts.length (by omega)
  have hC1 := Below.alloc (Below.refl w3.heap.size w3) (Nat.le_refl _) (.cells (intsV (List.replicate z.ts.length 0)).toArray 3)
  have hlz : z.ts.length = (setL all).length := by rw [← F3.out, tus_len]
  have H1 := Lib.hid (And.intro (show CnAt w3.heap.size (w3.alloc (.cells (intsV (List.replicate z.ts.length 0)).toArray 3)) w3.heap.size (cnt (setL all) []) from by rw [cnt_nil, ← hlz]; exact hN1) (And.intro hC1 hlz))
  clear hN1 hC1 hlz
  go_upto_region 7 with (fail)
  clear hmk
  generalize w3.alloc (.cells (intsV (List.replicate z.ts.length 0)).toArray 3) = w4 at H1 ⊢
  go_wp2_with (fail)
  go_loopw [35] (fun i wr => ∃ k : Nat, k ≤ al.ts.length ∧ i = .int .i64 (k : Int) ∧ Hid (CnAt w3.heap.size wr w3.heap.size (cnt (setL all) (all.take k)) ∧ Below w3.heap.size w3 wr)) (fun i _ => al.ts.length - (intOf i).toNat)
  case atStart => exact ⟨0, by omega, rfl, Lib.hid ⟨H1.out.1, H1.out.2.1⟩⟩
  case round =>
    obtain ⟨k, hk, rfl, hrel⟩ := hrel
    have hzw := G3.out.2.1.below hrel.out.2
    by_cases hlt : k < al.ts.length
    · have hlI : (k : Int) < (al.ts.length : Int) := by omega
      have haw := G3.out.2.2.below hrel.out.2
      obtain ⟨b, o, hA, _, c0⟩ := LV.Ok.cell' haw hlt
      have hok := haw.ok _ (List.getElem_mem hlt)
      have htl : k < all.length := by rw [← F2.out, tus_len]; exact hlt
      have hat : all[k] = al.ts[k].l := by
        have := tus_at al.ts k hlt
        simpa only [F2.out] using this
      have htk : all.take (k + 1) = all.take k ++ [all[k]] := List.take_succ_eq_append_getElem htl
      rw [hat] at htk
      have hmem : al.ts[k].l ∈ setL all := mem_set.2 (hat ▸ List.getElem_mem htl)
      rw [hA]
      generalize al.ts[k] = r at c0 hok htk hmem
      obtain ⟨p, hp, hpe⟩ := List.getElem_of_mem hmem
      have hpz : p < z.ts.length := by rw [H1.out.2.2]; exact hp
      have hpr : z.ts[p].l = r.l := by
        have := tus_at z.ts p hpz
        rw [← hpe]
        simpa only [F3.out] using this.symm
      have hcall := bsearch_any z r wr hzw hok (by rw [F3.out]; exact ris_set _) p hpz hpr
      have hcl : p < (cnt (setL all) (all.take k)).length := by rw [cnt_len]; exact hp
      have hst := hrel.out.1.step hcl ((cnt (setL all) (all.take k))[p] + 1)
      have hle := cnt_le (setL all) (all.take k) _ (List.getElem_mem hcl)
      have hsn := cnt_snoc (R := setL all) (all := all.take k) (t := r.l) (nodup_set all) hp hpe
      rw [← hsn, ← htk] at hst
      obtain ⟨d1, d2, d3, d4⟩ := hst
      have hll : (all.take k).length ≤ k := by rw [List.length_take]; omega
      generalize (cnt (setL all) (all.take k))[p] = x0 at d1 d3 d4 hle
      have hx0 : 0 ≤ x0 ∧ x0 + 1 ≤ 10000 := by omega
      have hpI : (p : Int) < (z.ts.length : Int) := by omega
      have hwr : IntKind.i64.wrap (x0 + 1) = x0 + 1 := IntWalk.i64_in _ (by omega)
      have HC := Lib.hid hcall
      have D3 := Lib.hid (And.intro d3 (hrel.out.2.trans d4))
      clear hzw haw hok htl hat htk hmem hp hpe hpz hpr hcall hcl hle hsn hll d3 d4 hrel
      go_wp2_with (go_at_call 35; (with_reducible refine HC.out.mono ?_); rintro e w9 ⟨rfl, rfl⟩)
      go_roundw
      case rel => exact ⟨k + 1, by omega, by go_num, D3⟩
      case measure => simp [intOf]; omega
    · have hlI : ¬ (k : Int) < (al.ts.length : Int) := by omega
      have hfin := hrel.out.1
      rw [List.take_of_length_le (by rw [← F2.out, tus_len]; omega)] at hfin
      have HF := Lib.hid (And.intro hfin (And.intro hrel.out.2 hzw))
      have hcl : (cnt (setL all) all).length = z.ts.length := by rw [cnt_len, H1.out.2.2]
      clear hfin hrel hzw
      go_wp2_with (fail)
      exact bodyPost_ret (results_tmp3 rfl _ _ _) rfl ⟨z, ⟨some ⟨w3.heap.size, 0, none⟩, cnt (setL all) all, z.ts.length⟩, by (try dsimp only); rw [hcl]; rfl, G3.out.1.below HF.out.2.1, HF.out.2.2, F3.out.trans (congrArg setL HALL.out), by have := HF.out.1.row; unfold OwnI TV.val at this ⊢; dsimp only at this ⊢; rw [hcl] at this ⊢; exact own_mono this B3.out.size, by
        have := HF.out.1.row.ok (by rw [show (TV.mk (some ⟨w3.heap.size, 0, none⟩) (cnt (setL all) all) (cnt (setL all) all).length).l.length = z.ts.length from hcl]; exact hzs)
        rw [hcl] at this
        exact this, congrArg (fun a => cnt (setL a) a) HALL.out, B3.out.trans (lower' HF.out.2.1 B3.out.size)⟩
theorem result_any (x : VW) (A : Option Addr) (c : Nat) (es : List Ed) (w : World) (hx : x.Ok w) (he : Eds w A c es) :
    Calls Try.prog 15 #[.agg (vwA x), .slice A es.length c] w (RePost w (rowsC x.v es) (resR x.v es) (resN x.v es)) := by
  by_cases h0 : rowsC x.v es = 0
  · exact result_ok x A c es w hx he h0
  · exact result_bad x A c es w hx he h0
end Go.Proofs.Ytgldcahhliokeaa
