/- The law JoinProduct, walked. -/
import Derived.Test.YtobieolonlddlaaJnD
import Derived.Test.YtobieolonlddlaaJoBO
import Derived.Test.YtobieolonlddlaaJoAB
namespace Go.Proofs.Ytobieolonlddlaa
open Go.RowKit Go.Maps

theorem atRow_someP {lo : Nat} {w : World} {A : Option Addr} {c : Nat} {l : List Atm} (h : AtRow lo w (.slice A l.length c) l) (hl : 0 < l.length) : ∃ b, A = some ⟨b, 0, none⟩ := by
  rcases h.2 with ⟨_, hn⟩ | ⟨g, cap, cur, hv, _⟩
  · omega
  · injection hv with hv
    exact ⟨g, hv⟩
theorem rowsR_bad {v : Vw} {es : List Ed} (h : rowsC v es ≠ 0) : rowsR v es = [] := by
  unfold rowsC at h
  unfold rowsR
  by_cases hg : goodP v = true
  · rw [if_pos hg] at h ⊢
    by_cases hl : (rowsOfL v.atoms es).length ≤ 3000
    · rw [if_pos hl] at h; exact absurd rfl h
    · rw [if_neg hl]
  · rw [if_neg hg]
/-- No name of one is a name of the other. -/
def apartA (a y : Atm) : Prop := a.fr ≠ y.fr ∧ a.fr ≠ y.to ∧ a.to ≠ y.fr ∧ a.to ≠ y.to
theorem apart_vars {ats : List Atm} (h : ∀ a ∈ ats, ∀ y ∈ ats, apartA (trA a) y) : ∀ s ∈ varsL ats, trn s ∉ varsL ats := by
  intro s hs ht
  obtain ⟨a, ha, h1⟩ := varsL_mem.1 hs
  obtain ⟨y, hy, h2⟩ := varsL_mem.1 ht
  obtain ⟨p1, p2, p3, p4⟩ := h a ha y hy
  rcases h1 with rfl | rfl <;> rcases h2 with h2 | h2
  · exact p1 h2
  · exact p2 h2
  · exact p3 h2
  · exact p4 h2
set_option maxRecDepth 100000 in
set_option maxHeartbeats 8000000 in
theorem joinProduct_walk (x : VW) (A : Option Addr) (l : List Ed) (c : Nat) (W : World) (hx : x.Raw W) (he : EdsRaw W A c l) : Calls Try.prog 8 #[.agg (vwA x), .slice A l.length c] W fun e w' => e = .returned (.bool true) ∧ Below W.heap.size W w' := by
  have HAW := Lib.hid jawake_any
  have hfi := fits_any x A l.length c
  have hb1 : Below W.heap.size W (W.alloc (.cells (vwA x) 25)) := (Below.refl _ _).alloc (Nat.le_refl _) _
  have hg1 := heap_alloc_new W (.cells (vwA x) 25)
  cases hf : fitsB x l.length with
  | false =>
    rw [hf] at hfi
    unfold vwA at hb1 hg1 hfi ⊢
    have HFI := Lib.hid hfi
    have HBX := Lib.hid (And.intro hg1 hb1)
    clear hx he hf hfi hb1 hg1
    go_enter Try.func8, Try.ntmps8
    go_wp2_with (first
      | (go_at_call 9; (with_reducible refine (HAW.out _).mono ?_); rintro e w1 ⟨rfl, hb1⟩; have B1 := Lib.hid (And.intro hb1 (HBX.out.2.trans (lower' hb1 HBX.out.2.size))); obtain ⟨q0, q1, q2, q3, q4⟩ := box5 ((hb1.block W.heap.size (by simp)).trans HBX.out.1); clear hb1)
      | (go_at_call 10; (with_reducible refine (HFI.out _).mono ?_); rintro e w2 ⟨rfl, hb2⟩; have B2 := Lib.hid (B1.out.2.trans (lower' hb2 B1.out.2.size)); clear q0 q1 q2 q3 q4; obtain ⟨q0, q1, q2, q3, q4⟩ := box5 (((B1.out.1.trans (lower' hb2 B1.out.1.size)).block W.heap.size (by simp)).trans HBX.out.1); clear hb2 HFI)
      | (go_at_call 9; (with_reducible refine (HAW.out _).mono ?_); rintro e w3 ⟨rfl, hb3⟩; have B3 := Lib.hid (B2.out.trans (lower' hb3 B2.out.size)); clear hb3))
    go_ret
    exact ⟨rfl, B3.out⟩
  | true =>
    rw [hf] at hfi
    obtain ⟨f1, f2, f3⟩ := fits_facts hf
    by_cases h0 : 3 < x.v.atoms.length
    · have h0I : (3 : Int) < (x.v.atoms.length : Int) := by omega
      unfold vwA at hb1 hg1 hfi ⊢
      have HFI := Lib.hid hfi
      have HBX := Lib.hid (And.intro hg1 hb1)
      clear hx he hf hfi hb1 hg1 h0 f1 f2 f3
      go_enter Try.func8, Try.ntmps8
      go_wp2_with (first
        | (go_at_call 9; (with_reducible refine (HAW.out _).mono ?_); rintro e w1 ⟨rfl, hb1⟩; have B1 := Lib.hid (And.intro hb1 (HBX.out.2.trans (lower' hb1 HBX.out.2.size))); obtain ⟨q0, q1, q2, q3, q4⟩ := box5 ((hb1.block W.heap.size (by simp)).trans HBX.out.1); clear hb1)
        | (go_at_call 10; (with_reducible refine (HFI.out _).mono ?_); rintro e w2 ⟨rfl, hb2⟩; have B2 := Lib.hid (B1.out.2.trans (lower' hb2 B1.out.2.size)); clear q0 q1 q2 q3 q4; obtain ⟨q0, q1, q2, q3, q4⟩ := box5 (((B1.out.1.trans (lower' hb2 B1.out.1.size)).block W.heap.size (by simp)).trans HBX.out.1); clear hb2 HFI)
        | (go_at_call 9; (with_reducible refine (HAW.out _).mono ?_); rintro e w3 ⟨rfl, hb3⟩; have B3 := Lib.hid (B2.out.trans (lower' hb3 B2.out.size)); clear hb3))
      go_ret
      exact ⟨rfl, B3.out⟩
    · have hn3 : x.v.atoms.length ≤ 3 := by omega
      have h0I : ¬ (3 : Int) < (x.v.atoms.length : Int) := by omega
      have hok : x.Ok W := hx.ok (by omega) (by omega)
      have hE := he.ok (by omega)
      have hown := fun w (h : Below W.heap.size W w) => own_any x w (hok.below h)
      have hro := fun w (h : Below W.heap.size W w) => rows_any x A c l w (hok.below h) (hE.below h)
      have H0 := Lib.hid (And.intro hok hE)
      clear hx he hf hok hE h0 f1 f2 f3
      unfold vwA at hb1 hg1 hfi hown hro ⊢
      have HFI := Lib.hid hfi
      have HBX := Lib.hid (And.intro hg1 hb1)
      have HOWN := Lib.hid hown
      have HRO := Lib.hid hro
      clear hfi hb1 hg1 hown hro
      go_enter Try.func8, Try.ntmps8
      go_upto_region 4 with (first
        | (go_at_call 9; (with_reducible refine (HAW.out _).mono ?_); rintro e w1 ⟨rfl, hb1⟩; have B1 := Lib.hid (And.intro hb1 (HBX.out.2.trans (lower' hb1 HBX.out.2.size))); obtain ⟨q0, q1, q2, q3, q4⟩ := box5 ((hb1.block W.heap.size (by simp)).trans HBX.out.1); clear hb1 HAW)
        | (go_at_call 10; (with_reducible refine (HFI.out _).mono ?_); rintro e w2 ⟨rfl, hb2⟩; have B2 := Lib.hid (And.intro (B1.out.1.trans (lower' hb2 B1.out.1.size)) (B1.out.2.trans (lower' hb2 B1.out.2.size))); have HR2 := Lib.hid (HRO.out w2 B2.out.2); clear hb2 B1 HFI q0 q1 q2 q3 q4; obtain ⟨q0, q1, q2, q3, q4⟩ := box5 ((B2.out.1.block W.heap.size (by simp)).trans HBX.out.1))
        | (go_at_call 12; (with_reducible refine HR2.out.mono ?_); rintro e w3 ⟨y, rfl, _, p2, p3, p4⟩; have B3 := Lib.hid (And.intro (B2.out.1.trans (lower' p4 B2.out.1.size)) (B2.out.2.trans (lower' p4 B2.out.2.size))); have Y := Lib.hid (And.intro p2 p3); clear q0 q1 q2 q3 q4 p2 p3 p4))
      by_cases hc0 : rowsC x.v l = 0
      · have hgd := rows_good hc0
        have HG := Lib.hid (And.intro hc0 hgd)
        rw [hc0]
        clear hc0 hgd HR2 HRO B2
        have hbx2 := (B3.out.1.block W.heap.size (by simp)).trans HBX.out.1
        obtain ⟨q0, q1, q2, q3, q4⟩ := box5 hbx2
        have HO2 := Lib.hid (HOWN.out w3 B3.out.2)
        have BX2 := Lib.hid hbx2
        clear hbx2 HOWN
        go_upto_region 7 with (go_at_call 11; (with_reducible refine HO2.out.mono ?_); rintro e w4 ⟨⟨oA, oc, aA, ac, v⟩, hv, rfl, k4, hst4, hat4, b4⟩; dsimp only at hv; subst hv; dsimp only at hst4 hat4; (try unfold vwA); (try dsimp only); have K4 := Lib.hid (And.intro hst4 (And.intro hat4 b4)); clear k4 hst4 hat4 b4)
        clear q0 q1 q2 q3 q4 HO2
        have hb5 := (Below.refl w4.heap.size w4).alloc (Nat.le_refl _) (.cells #[.string ⟨x.v.name.toArray⟩, .int .i64 x.v.kind, .slice oA x.v.out.length oc, .slice aA x.v.atoms.length ac, .string ⟨x.v.label.toArray⟩] 25)
        have hg5 := heap_alloc_new w4 (.cells #[.string ⟨x.v.name.toArray⟩, .int .i64 x.v.kind, .slice oA x.v.out.length oc, .slice aA x.v.atoms.length ac, .string ⟨x.v.label.toArray⟩] 25)
        have T5 := Lib.hid (And.intro (show TuAt w3.heap.size W.heap.size w4.heap.size x oA oc _ aA ac x.v.atoms from ⟨own_below K4.out.2.1 hb5 (Nat.le_refl _), own_below K4.out.1 hb5 (Nat.le_refl _), ((K4.out.2.2.trans (lower' hb5 K4.out.2.2.size)).block _ (heap_lt BX2.out)).trans BX2.out, hg5⟩) (And.intro (K4.out.2.2.trans (lower' hb5 K4.out.2.2.size)) (B3.out.2.trans (lower' (K4.out.2.2.trans (lower' hb5 K4.out.2.2.size)) B3.out.2.size))))
        have hz2 := B3.out.2.size
        have hz3 : W.heap.size + 1 ≤ w3.heap.size := by have := B3.out.1.size; simpa using this
        have hz4 : w3.heap.size ≤ w4.heap.size := K4.out.2.2.size
        clear hb5 hg5 K4 BX2
        generalize (w4.alloc (.cells #[.string ⟨x.v.name.toArray⟩, .int .i64 x.v.kind, .slice oA x.v.out.length oc, .slice aA x.v.atoms.length ac, .string ⟨x.v.label.toArray⟩] 25)) = w5 at T5 ⊢
        generalize w4.heap.size = g at T5 hz4 ⊢
        have Y5 := Lib.hid (Y.out.1.below T5.out.2.1)
        have hz5 := T5.out.2.1.size
        obtain ⟨lo, hlo⟩ : ∃ lo, lo = w3.heap.size := ⟨_, rfl⟩
        rw [← hlo] at T5 hz2 hz3 hz4 hz5
        clear hlo B3
        obtain ⟨-, -, -, y3, -⟩ := box5 T5.out.1.bx
        go_wp2_with (fail)
        clear y3
        go_loopw [47] (fun i wr => ∃ k : Nat, k ≤ x.v.atoms.length ∧ i = .int .i64 (k : Int) ∧ Hid (∃ aA ac, TuAt lo W.heap.size g x oA oc wr aA ac (x.v.atoms ++ (x.v.atoms.take k).map trA) ∧ lo ≤ wr.heap.size ∧ Below W.heap.size W wr)) (fun i _ => x.v.atoms.length - (intOf i).toNat)
        case atStart => exact ⟨0, by omega, rfl, Lib.hid ⟨aA, ac, by rw [List.take_zero, List.map_nil, List.append_nil]; exact T5.out.1, hz5, T5.out.2.2⟩⟩
        case round =>
          obtain ⟨k, hk, rfl, hrel⟩ := hrel
          obtain ⟨aA, ac, hrel⟩ := hrel.out
          by_cases hlt : k < x.v.atoms.length
          · have hkI : (k : Int) < (x.v.atoms.length : Int) := by omega
            obtain ⟨ab, ao, hAA, _, a0, a1, a2⟩ := (H0.out.1.below hrel.2.2).ats.cell hlt
            have hnm1 := good_names HG.out.2 _ (varsL_mem.2 ⟨_, List.getElem_mem hlt, .inl rfl⟩)
            have hnm2 := good_names HG.out.2 _ (varsL_mem.2 ⟨_, List.getElem_mem hlt, .inr rfl⟩)
            have htk : (x.v.atoms.take (k + 1)).map trA = (x.v.atoms.take k).map trA ++ [trA x.v.atoms[k]] := by rw [List.take_succ_eq_append_getElem hlt, List.map_append]; rfl
            have hlen : (x.v.atoms ++ (x.v.atoms.take k).map trA).length = x.v.atoms.length + k := by rw [List.length_append, List.length_map, List.length_take]; omega
            rw [hAA]
            generalize x.v.atoms[k] = a at a0 a1 a2 hnm1 hnm2 htk
            have hg7 := heap_alloc_new wr (.cells #[.string ⟨a.fr.toArray⟩, .string ⟨a.lab.toArray⟩, .string ⟨a.to.toArray⟩] 49)
            have hbs : Below wr.heap.size wr (wr.alloc (.cells #[.string ⟨a.fr.toArray⟩, .string ⟨a.lab.toArray⟩, .string ⟨a.to.toArray⟩] 49)) := (Below.refl _ _).alloc (Nat.le_refl _) _
            have hT7 := hrel.1.kept hbs
            have HT1 := Lib.hid (fun W' => turned_any a.fr W' hnm1)
            have HT2 := Lib.hid (fun W' => turned_any a.to W' hnm2)
            have R7 := Lib.hid (And.intro hg7 (And.intro hT7 (And.intro (Nat.le_trans hrel.2.1 hbs.size) (hrel.2.2.trans (lower' hbs hrel.2.2.size)))))
            have HTK := Lib.hid (And.intro htk hlen)
            clear hg7 hbs hT7 hnm1 hnm2 htk hlen hrel hAA
            go_upto_region 10 with (fail)
            clear a0 a1 a2
            generalize (wr.alloc (.cells #[.string ⟨a.fr.toArray⟩, .string ⟨a.lab.toArray⟩, .string ⟨a.to.toArray⟩] 49)) = w7 at R7 ⊢
            generalize wr.heap.size = g7 at R7 ⊢
            have y3 := (box5 R7.out.2.1.bw).2.2.2.1
            rw [HTK.out.2] at y3
            obtain ⟨x0, x1, x2⟩ := box3 R7.out.1
            have KS := Lib.hid fun WW (hW : Below w7.heap.size w7 WW) => (⟨(hW.cell (p := ⟨g, 3, none⟩) (World.block_lt_of_cell? w7 _ y3)).trans y3, (hW.cell (p := ⟨g7, 0, none⟩) (World.block_lt_of_cell? w7 _ x0)).trans x0, (hW.cell (p := ⟨g7, 1, none⟩) (World.block_lt_of_cell? w7 _ x1)).trans x1, (hW.cell (p := ⟨g7, 2, none⟩) (World.block_lt_of_cell? w7 _ x2)).trans x2⟩ : WW.cell? ⟨g, 3, none⟩ = some (.slice aA (x.v.atoms.length + k) ac) ∧ (WW.cell? ⟨g7, 0, none⟩ = some (.string ⟨a.fr.toArray⟩) ∧ WW.cell? ⟨g7, 1, none⟩ = some (.string ⟨a.lab.toArray⟩) ∧ WW.cell? ⟨g7, 2, none⟩ = some (.string ⟨a.to.toArray⟩)))
            clear y3 x0 x1 x2
            have hS0 := KS.out w7.drew (Below.refl _ _).drew
            refine wp_region_M (fun j => decide (j < 12)) (fun w' => w'.cell? ⟨g, 3, none⟩ = some (.slice aA (x.v.atoms.length + k) ac) ∧ (w'.cell? ⟨g7, 0, none⟩ = some (.string ⟨a.fr.toArray⟩) ∧ w'.cell? ⟨g7, 1, none⟩ = some (.string ⟨a.lab.toArray⟩) ∧ w'.cell? ⟨g7, 2, none⟩ = some (.string ⟨a.to.toArray⟩))) (by kernel_rfl) ?_
            refine wpAnyM_take (i := 0) (v := ?_) rfl (by kernel_rfl) (by kernel_rfl) (by kernel_rfl) (by kernel_rfl) (fun _ _ _ h => h) (Or.inl ⟨by rfl, ?_⟩) hS0 ?_
            rotate_left
            · intro w hSw; (try dsimp only at hSw); go_simp; (try with_reducible rfl)
            simp only [Act.put, List.getElem_toArray, List.getElem_cons_zero, List.setIfInBounds_toArray, List.set_cons_zero, List.set_cons_succ]
            refine wpAnyM_take (i := 1) (v := ?_) rfl (by kernel_rfl) (by kernel_rfl) (by kernel_rfl) (by kernel_rfl) (fun _ _ _ h => h) (Or.inl ⟨by rfl, ?_⟩) hS0 ?_
            rotate_left
            · intro w hSw; (try dsimp only at hSw); go_simp; (try with_reducible rfl)
            simp only [Act.put, List.getElem_toArray, List.getElem_cons_zero, List.getElem_cons_succ, List.setIfInBounds_toArray, List.set_cons_zero, List.set_cons_succ]
            refine wpAnyM_take (i := 2) (v := ?_) rfl (by kernel_rfl) (by kernel_rfl) (by kernel_rfl) (by kernel_rfl) (fun _ _ _ h => h) (Or.inl ⟨by rfl, ?_⟩) hS0 ?_
            rotate_left
            · intro w hSw; (try dsimp only at hSw); go_simp; (try with_reducible rfl)
            simp only [Act.put, List.getElem_toArray, List.getElem_cons_zero, List.getElem_cons_succ, List.setIfInBounds_toArray, List.set_cons_zero, List.set_cons_succ]
            refine wpAnyM_take (i := 3) (v := ?_) rfl (by kernel_rfl) (by kernel_rfl) (by kernel_rfl) (by kernel_rfl) (fun _ _ _ h => h) (Or.inl ⟨by rfl, ?_⟩) hS0 ?_
            rotate_left
            · intro w hSw; (try dsimp only at hSw); go_simp; (try with_reducible rfl)
            simp only [Act.put, List.getElem_toArray, List.getElem_cons_zero, List.getElem_cons_succ, List.setIfInBounds_toArray, List.set_cons_zero, List.set_cons_succ]
            refine wpAnyM_take (i := 5) (v := ?_) rfl (by kernel_rfl) (by kernel_rfl) (by kernel_rfl) (by kernel_rfl) (fun _ _ _ h => h) (Or.inl ⟨by rfl, ?_⟩) hS0 ?_
            rotate_left
            · intro w hSw; (try dsimp only at hSw); go_simp; (try with_reducible rfl)
            simp only [Act.put, List.getElem_toArray, List.getElem_cons_zero, List.getElem_cons_succ, List.setIfInBounds_toArray, List.set_cons_zero, List.set_cons_succ]
            refine wpAnyM_take (i := 6) (v := ?_) rfl (by kernel_rfl) (by kernel_rfl) (by kernel_rfl) (by kernel_rfl) (fun _ _ _ h => h) (Or.inl ⟨by rfl, ?_⟩) hS0 ?_
            rotate_left
            · intro w hSw; (try dsimp only at hSw); go_simp; (try with_reducible rfl)
            simp only [Act.put, List.getElem_toArray, List.getElem_cons_zero, List.getElem_cons_succ, List.setIfInBounds_toArray, List.set_cons_zero, List.set_cons_succ]
            refine wpAnyM_take (i := 7) (v := ?_) rfl (by kernel_rfl) (by kernel_rfl) (by kernel_rfl) (by kernel_rfl) (fun _ _ _ h => h) (Or.inl ⟨by rfl, ?_⟩) hS0 ?_
            rotate_left
            · intro w hSw; (try dsimp only at hSw); go_simp; (try with_reducible rfl)
            simp only [Act.put, List.getElem_toArray, List.getElem_cons_zero, List.getElem_cons_succ, List.setIfInBounds_toArray, List.set_cons_zero, List.set_cons_succ]
            refine wpAnyM_take (i := 8) (v := ?_) rfl (by kernel_rfl) (by kernel_rfl) (by kernel_rfl) (by kernel_rfl) (fun _ _ _ h => h) (Or.inl ⟨by rfl, ?_⟩) hS0 ?_
            rotate_left
            · intro w hSw; (try dsimp only at hSw); go_simp; (try with_reducible rfl)
            simp only [Act.put, List.getElem_toArray, List.getElem_cons_zero, List.getElem_cons_succ, List.setIfInBounds_toArray, List.set_cons_zero, List.set_cons_succ]
            refine wpAnyM_one (i := 4) (by kernel_rfl) rfl (fun K hK => ?_)
            go_simp
            go_wp2_with (go_at_call 25; (with_reducible refine (HT1.out _).mono ?_); rintro e w8 ⟨rfl, b8⟩)
            have hb8 := (Below.refl w7.heap.size w7).drew.trans b8
            refine hK.out _ _ (fun _ => KS.out w8 hb8) ?_
            clear hK K
            refine wpAnyM_one (i := 9) (by kernel_rfl) rfl (fun K hK => ?_)
            go_simp
            go_wp2_with (go_at_call 25; (with_reducible refine (HT2.out _).mono ?_); rintro e w9 ⟨rfl, b9⟩)
            have hb9 := hb8.trans (lower' b9 hb8.size)
            refine hK.out _ _ (fun _ => KS.out w9 hb9) ?_
            clear hK K
            refine wpAnyM_take (i := 10) (v := ?_) rfl (by kernel_rfl) (by kernel_rfl) (by kernel_rfl) (by kernel_rfl) (fun _ _ _ h => h) (Or.inl ⟨by rfl, ?_⟩) (KS.out w9 hb9) ?_
            rotate_left
            · intro w hSw; (try dsimp only at hSw); go_simp; (try with_reducible rfl)
            simp only [Act.put, List.getElem_toArray, List.getElem_cons_zero, List.getElem_cons_succ, List.setIfInBounds_toArray, List.set_cons_zero, List.set_cons_succ]
            obtain ⟨aA9, ac9, w10, hrun, hy, hyf, hT10, hb10⟩ := (R7.out.2.1.kept hb9).push (B := W.heap.size) (Nat.le_trans R7.out.2.2.1 hb9.size) hz2 (by omega) (by simp; omega) (by rw [HTK.out.2]; omega) (trA a)
            rw [HTK.out.2] at hrun hy hT10 hb10
            have HK := Lib.hid (And.intro hT10 (And.intro (Nat.le_trans (Nat.le_trans R7.out.2.2.1 hb9.size) hb10.size) ((R7.out.2.2.2.trans (lower' hb9 R7.out.2.2.2.size)).trans hb10)))
            unfold trA at hrun
            dsimp only at hrun
            refine wpAnyM_one (i := 11) (by kernel_rfl) rfl (fun K hK => ?_)
            go_simp
            refine hK.out _ _ (fun _ => KS.out _ (hb9.alloc hb9.size _)) ?_
            clear hK K
            refine wpAnyM_one (i := 12) (by kernel_rfl) rfl (fun K hK => ?_)
            refine step_appK _ (by rfl) (.tmp 52) (.tmp 62) 23 rfl rfl _ _ _ _ rfl rfl hrun ?_
            refine hK.out _ _ (fun h => absurd h (by decide)) ?_
            clear hK K
            refine wpAnyM_one (i := 13) (by kernel_rfl) rfl (fun K hK => ?_)
            go_simp
            refine hK.out _ _ (fun h => absurd h (by decide)) ?_
            clear hK K
            refine wpAnyM_one (i := 14) (by kernel_rfl) rfl (fun K hK => ?_)
            go_simp
            refine hK.out _ _ (fun h => absurd h (by decide)) ?_
            clear hK K
            refine wpAnyM_done (by kernel_rfl) ?_ _
            clear hrun hy hyf hT10 hb10 hS0 b8 hb8 b9 hb9
            go_wp2_with (fail)
            go_roundw
            case rel => exact ⟨k + 1, by omega, by go_num, Lib.hid ⟨aA9, ac9, by rw [HTK.out.1, ← List.append_assoc]; exact HK.out.1, HK.out.2.1, HK.out.2.2⟩⟩
            case measure => simp [intOf]; omega
          · have hkI : ¬ (k : Int) < (x.v.atoms.length : Int) := by omega
            obtain rfl : k = x.v.atoms.length := by omega
            rw [List.take_length] at hrel
            have HT := Lib.hid hrel
            clear hrel
            rename World => w6
            have hn1 : 1 ≤ x.v.atoms.length := (goodP_names HG.out.2).2.2.2.2.2
            have hlen : (x.v.atoms ++ x.v.atoms.map trA).length = x.v.atoms.length + x.v.atoms.length := by rw [List.length_append, List.length_map]
            obtain ⟨b, rfl⟩ := atRow_someP HT.out.1.row (by omega)
            have hcap := (AtRow.ats HT.out.1.row (by omega)).cap
            rw [hlen] at hcap
            have y3 := (box5 HT.out.1.bw).2.2.2.1
            have q3 := (box5 HT.out.1.bx).2.2.2.1
            rw [hlen] at y3
            have hle1 : x.v.atoms.length ≤ x.v.atoms.length + x.v.atoms.length := by omega
            go_wp2_with (fail)
            clear y3 q3
            go_loopw [73] (fun i wr => ∃ k : Nat, k ≤ x.v.atoms.length ∧ i = .int .i64 (k : Int) ∧ Hid ((∀ a ∈ x.v.atoms.take k, ∀ y ∈ x.v.atoms, apartA (trA a) y) ∧ Below w6.heap.size w6 wr)) (fun i _ => x.v.atoms.length - (intOf i).toNat)
            case atStart => exact ⟨0, by omega, rfl, Lib.hid ⟨by simp, Below.refl _ _⟩⟩
            case round =>
              obtain ⟨k, hk, rfl, hrel⟩ := hrel
              rename World => wq
              by_cases hlt : k < x.v.atoms.length
              · have hkI : (k : Int) < (x.v.atoms.length : Int) := by omega
                have hTq := HT.out.1.kept hrel.out.2
                have hBq := HT.out.2.2.trans (lower' hrel.out.2 HT.out.2.2.size)
                obtain ⟨b', o', hbo, _, c0, c1, c2⟩ := (AtRow.ats hTq.row (by omega)).cell (k := x.v.atoms.length + k) (by omega)
                injection hbo with hbo
                injection hbo with e8 e9
                subst e8 e9
                have hat : (x.v.atoms ++ x.v.atoms.map trA)[x.v.atoms.length + k]'(by omega) = trA x.v.atoms[k] := by
                  rw [List.getElem_append_right (by omega)]
                  simp
                rw [hat, show 0 + (x.v.atoms.length + k) * 3 = x.v.atoms.length * 3 + k * 3 from by rw [Nat.zero_add, Nat.add_mul]] at c0 c1 c2
                have htk : x.v.atoms.take (k + 1) = x.v.atoms.take k ++ [x.v.atoms[k]] := List.take_succ_eq_append_getElem hlt
                have q3 := (box5 (hTq.kept ((Below.refl wq.heap.size wq).alloc (Nat.le_refl _) (.cells #[.string ⟨(trA x.v.atoms[k]).fr.toArray⟩, .string ⟨(trA x.v.atoms[k]).lab.toArray⟩, .string ⟨(trA x.v.atoms[k]).to.toArray⟩] 49))).bx).2.2.2.1
                generalize x.v.atoms[k] = a at c0 c1 c2 htk q3
                have hg7 := heap_alloc_new wq (.cells #[.string ⟨(trA a).fr.toArray⟩, .string ⟨(trA a).lab.toArray⟩, .string ⟨(trA a).to.toArray⟩] 49)
                have hbs : Below wq.heap.size wq (wq.alloc (.cells #[.string ⟨(trA a).fr.toArray⟩, .string ⟨(trA a).lab.toArray⟩, .string ⟨(trA a).to.toArray⟩] 49)) := (Below.refl _ _).alloc (Nat.le_refl _) _
                have R7 := Lib.hid (And.intro hg7 (And.intro (hrel.out.2.trans (lower' hbs hrel.out.2.size)) (hBq.trans (lower' hbs hBq.size))))
                have HK := Lib.hid (And.intro htk hrel.out.1)
                clear hTq hBq hat htk hg7 hbs hrel
                obtain ⟨p, hpa⟩ : ∃ p, p = trA a := ⟨_, rfl⟩
                have HPA := Lib.hid hpa.symm
                rw [← hpa] at c0 c1 c2 q3 R7
                clear hpa
                go_wp2_with (fail)
                clear c0 c1 c2 q3
                generalize (wq.alloc (.cells #[.string ⟨p.fr.toArray⟩, .string ⟨p.lab.toArray⟩, .string ⟨p.to.toArray⟩] 49)) = w7 at R7 ⊢
                generalize wq.heap.size = g7 at R7 ⊢
                go_loopw [80] (fun i wl => ∃ m : Nat, m ≤ x.v.atoms.length ∧ i = .int .i64 (m : Int) ∧ Hid ((∀ y ∈ x.v.atoms.take m, apartA p y) ∧ Below w7.heap.size w7 wl)) (fun i _ => x.v.atoms.length - (intOf i).toNat)
                case atStart => exact ⟨0, by omega, rfl, Lib.hid ⟨by simp, Below.refl _ _⟩⟩
                case round =>
                  obtain ⟨m, hm, rfl, hrel⟩ := hrel
                  rename World => wl
                  have hBl := R7.out.2.2.trans (lower' hrel.out.2 R7.out.2.2.size)
                  by_cases hmt : m < x.v.atoms.length
                  · have hmI : (m : Int) < (x.v.atoms.length : Int) := by omega
                    obtain ⟨ab, ao, hAA, _, a0, a1, a2⟩ := (H0.out.1.below hBl).ats.cell hmt
                    have htm : x.v.atoms.take (m + 1) = x.v.atoms.take m ++ [x.v.atoms[m]] := List.take_succ_eq_append_getElem hmt
                    rw [hAA]
                    generalize x.v.atoms[m] = z at a0 a1 a2 htm
                    obtain ⟨z0, z1, z2⟩ := box3 (heap_alloc_new wl (.cells #[.string ⟨z.fr.toArray⟩, .string ⟨z.lab.toArray⟩, .string ⟨z.to.toArray⟩] 49))
                    obtain ⟨p0, p1, p2⟩ := box3 (keepA (o' := .cells #[.string ⟨z.fr.toArray⟩, .string ⟨z.lab.toArray⟩, .string ⟨z.to.toArray⟩] 49) ((hrel.out.2.block _ (heap_lt R7.out.1)).trans R7.out.1))
                    have hbs : Below wl.heap.size wl (wl.alloc (.cells #[.string ⟨z.fr.toArray⟩, .string ⟨z.lab.toArray⟩, .string ⟨z.to.toArray⟩] 49)) := (Below.refl _ _).alloc (Nat.le_refl _) _
                    have R8 := Lib.hid (And.intro (hrel.out.2.trans (lower' hbs hrel.out.2.size)) (hBl.trans (lower' hbs hBl.size)))
                    have HM := Lib.hid (And.intro htm hrel.out.1)
                    clear hAA htm hbs hBl hrel
                    by_cases d1 : p.fr = z.fr
                    · have t1 : (p.fr == z.fr) = true := by rw [d1]; simp
                      clear d1
                      go_wp2_with (fail)
                      go_ret
                      exact ⟨rfl, R8.out.2⟩
                    · have t1 : (p.fr == z.fr) = false := beq_eq_false_iff_ne.2 d1
                      by_cases d2 : p.fr = z.to
                      · have t2 : (p.fr == z.to) = true := by rw [d2]; simp
                        clear d2
                        go_wp2_with (fail)
                        go_ret
                        exact ⟨rfl, R8.out.2⟩
                      · have t2 : (p.fr == z.to) = false := beq_eq_false_iff_ne.2 d2
                        by_cases d3 : p.to = z.fr
                        · have t3 : (p.to == z.fr) = true := by rw [d3]; simp
                          clear d3
                          go_wp2_with (fail)
                          go_ret
                          exact ⟨rfl, R8.out.2⟩
                        · have t3 : (p.to == z.fr) = false := beq_eq_false_iff_ne.2 d3
                          by_cases d4 : p.to = z.to
                          · have t4 : (p.to == z.to) = true := by rw [d4]; simp
                            clear d4
                            go_wp2_with (fail)
                            go_ret
                            exact ⟨rfl, R8.out.2⟩
                          · have t4 : (p.to == z.to) = false := beq_eq_false_iff_ne.2 d4
                            have HD4 := Lib.hid (show apartA p z from ⟨d1, d2, d3, d4⟩)
                            clear d1 d2 d3 d4
                            go_wp2_with (fail)
                            go_roundw
                            case rel => exact ⟨m + 1, by omega, by go_num, Lib.hid ⟨fun y' hy' => by
                                rw [HM.out.1] at hy'
                                rcases List.mem_append.1 hy' with hy' | hy'
                                · exact HM.out.2 y' hy'
                                · rw [List.mem_singleton.1 hy']; exact HD4.out, R8.out.1⟩⟩
                            case measure => simp [intOf]; omega
                  · have hmI : ¬ (m : Int) < (x.v.atoms.length : Int) := by omega
                    have hall := hrel.out.1
                    rw [List.take_of_length_le (by omega)] at hall
                    have HB9 := Lib.hid (R7.out.2.1.trans (lower' hrel.out.2 R7.out.2.1.size))
                    have HA9 := Lib.hid hall
                    clear hall hBl hrel
                    go_wp2_with (fail)
                    go_roundw
                    case rel => exact ⟨k + 1, by omega, by go_num, Lib.hid ⟨fun a' ha' => by
                        rw [HK.out.1] at ha'
                        rcases List.mem_append.1 ha' with ha' | ha'
                        · exact HK.out.2 a' ha'
                        · rw [List.mem_singleton.1 ha', HPA.out]; exact HA9.out, HB9.out⟩⟩
                    case measure => simp [intOf]; omega
              · have hkI : ¬ (k : Int) < (x.v.atoms.length : Int) := by omega
                have hall := hrel.out.1
                rw [List.take_of_length_le (by omega)] at hall
                have hDD := apart_vars hall
                have hTq := HT.out.1.kept hrel.out.2
                have hBq := HT.out.2.2.trans (lower' hrel.out.2 HT.out.2.2.size)
                obtain ⟨q0, q1, q2, q3, q4⟩ := box5 hTq.bw
                have hr2 := rows_any ⟨oA, oc, some ⟨b, 0, none⟩, ac, prodV x.v⟩ A c l wq (hTq.ok H0.out.1.out.sm (by omega)) (H0.out.2.below hBq)
                unfold vwA at hr2
                have hr2 : Calls Try.prog 12 #[.agg #[.string ⟨x.v.name.toArray⟩, .int .i64 x.v.kind, .slice oA x.v.out.length oc, .slice (some ⟨b, 0, none⟩) (x.v.atoms ++ x.v.atoms.map trA).length ac, .string ⟨x.v.label.toArray⟩], .slice A l.length c] wq (RoPost wq (rowsC (prodV x.v) l) (rowsR (prodV x.v) l)) := hr2
                rw [hlen] at hr2
                have HR2 := Lib.hid hr2
                have BQ := Lib.hid hBq
                have hcd := prod_code (es := l) HG.out.2 hn3
                have hpl := fun h1 => prod_len HG.out.2 hDD HG.out.1 h1
                have HPL := Lib.hid hpl
                clear hall hDD hTq hBq hr2 hpl hrel
                go_upto_region 23 with (go_at_call 12; (with_reducible refine HR2.out.mono ?_); rintro e w11 ⟨y2, rfl, _, p2, p3, p4⟩; have P2 := Lib.hid (And.intro p3 (BQ.out.trans (lower' p4 BQ.out.size))); clear p2 p3 p4)
                clear q0 q1 q2 q3 q4 HR2
                rcases hcd with hcd | hcd
                · have hm : y2.ts.length = y.ts.length * y.ts.length := by
                    have h1 := HPL.out hcd
                    rw [← P2.out.1, ← Y.out.2, tus_len, tus_len] at h1
                    exact h1
                  have hys : y.ts.length ≤ 5000 := Y.out.1.sm
                  have hsq : y.ts.length * y.ts.length ≤ 25000000 := Nat.le_trans (Nat.mul_le_mul hys hys) (by omega)
                  have hPW : IntKind.i64.wrap ((y.ts.length : Int) * (y.ts.length : Int)) = (y2.ts.length : Int) := by
                    rw [← Int.natCast_mul, ← hm]
                    exact IntWalk.i64_in _ (by omega)
                  rw [hcd]
                  clear hcd hm hsq
                  go_wp2_with (fail)
                  go_ret
                  exact ⟨rfl, P2.out.2⟩
                · rw [hcd]
                  clear hcd
                  go_wp2_with (fail)
                  go_ret
                  exact ⟨rfl, P2.out.2⟩
      · have hrb := rowsR_bad hc0
        have hy0 : y.ts.length = 0 := by have := congrArg List.length (Y.out.2.trans hrb); rw [tus_len] at this; exact this
        have hcb : (rowsC x.v l != 0) = true := by simp [hc0]
        rw [hy0]
        clear hrb hy0 hc0
        go_wp2_with (fail)
        go_ret
        exact ⟨rfl, B3.out.2⟩
end Go.Proofs.Ytobieolonlddlaa
