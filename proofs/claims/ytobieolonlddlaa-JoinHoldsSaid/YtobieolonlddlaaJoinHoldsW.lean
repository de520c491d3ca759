/- The law JoinHolds, walked. -/
import Derived.Test.YtobieolonlddlaaJoBK
import Derived.Test.YtobieolonlddlaaJoBF
import Derived.Test.YtobieolonlddlaaJoAB
namespace Go.Proofs.Ytobieolonlddlaa
open Go.RowKit Go.Maps

theorem TV.Raw.below {w w' : World} {t : TV} (h : t.Raw w) (hb : Below w.heap.size w w') : t.Raw w' := ⟨(h.1.below hb (Nat.le_refl _)).more hb.size, h.2⟩
theorem TV.Raw.ok {w : World} {t : TV} (h : t.Raw w) (hs : t.l.length ≤ 40) : t.Ok w := ⟨h.1, h.2, by omega⟩
theorem copy_tup (W : World) {t : TV} (h : t.Ok W) :
    ∃ (u : TV) (w5 : World), (Builtin.append_ #[43, 43] 43 #[.slice (some ⟨W.heap.size, 0, none⟩) 0 0, .slice t.A t.l.length t.c]).run Try.prog (W.alloc (.cells #[] 3)) = .ok (.slice u.A u.l.length u.c) w5 ∧ u.l = t.l ∧ u.Ok w5 ∧ Below W.heap.size W w5 := by
  obtain ⟨i, hi, hz0, hz1, hz2⟩ := info_parts infoInt
  have hs := h.sm
  have hb1 : Below W.heap.size W (W.alloc (.cells #[] 3)) := (Below.refl _ _).alloc (Nat.le_refl _) _
  have hrd := (h.rd.below hb1 (Nat.le_refl _)).more hb1.size
  obtain ⟨v', w', hrun, h1, h2, h3⟩ := run_appR (P := Try.prog) (W.alloc (.cells #[] 3)) W.heap.size 43 43 3 i _ 1 8 Try.underlying43 hi hz0 hz1 hz2 rfl (by omega) _ 0 [] (own_lit0 W (Nat.le_refl _)) _ t.A t.l.length t.c (intsV t.l) (by rw [intsV_len, Nat.mul_one]) hrd (intsV_one t.l) (by omega) (by omega) hb1.size
  rw [Nat.zero_add, List.nil_append] at h1
  obtain ⟨A', c', rfl, k1, _, k3⟩ := own_shape h1
  exact ⟨⟨A', t.l, c'⟩, w', hrun, rfl, ⟨k3, k1, hs⟩, hb1.trans (grown_below' h2 (fun k hk => by cases hk; exact Nat.le_refl _) hb1.size)⟩
theorem holds_has {v : Vw} {es : List Ed} {row : Tu} (h0 : rowsC v es = 0) : hasL (rowsR v es) row = holdsB v es row := by
  rw [Bool.eq_iff_iff, hasL_iff, mem_rowsR h0, holdsB_iff]
  exact ⟨fun h => ⟨rows_good h0, h⟩, fun h => h.2⟩
theorem holds_row {v : Vw} {es : List Ed} {row : Tu} (h0 : rowsC v es = 0) (hr : row ∈ rowsR v es) : holdsB v es row = true := by
  rw [← holds_has h0]
  exact hasL_iff.2 hr
theorem holds_bad {v : Vw} {es : List Ed} {row : Tu} (h0 : rowsC v es = 1) : holdsB v es row = false := by
  have hg : goodP v = false := by
    rw [Bool.eq_false_iff]
    intro hg
    unfold rowsC at h0
    rw [if_pos hg] at h0
    split at h0 <;> cases h0
  unfold holdsB
  rw [hg]; rfl
set_option maxRecDepth 100000 in
set_option maxHeartbeats 8000000 in
theorem joinHolds_walk (x : VW) (A : Option Addr) (l : List Ed) (c : Nat) (t : TV) (W : World) (hx : x.Raw W) (hl : x.v.Lens) (he : EdsRaw W A c l) (ht : t.Raw W) : Calls Try.prog 4 #[.agg (vwA x), .slice A l.length c, .slice t.A t.l.length t.c] W fun e w' => e = .returned (.bool true) ∧ Below W.heap.size W w' := by
  have HAW := Lib.hid jawake_any
  have hfi := fits_any x A l.length c
  have hb1 : Below W.heap.size W (W.alloc (.cells (vwA x) 25)) := (Below.refl _ _).alloc (Nat.le_refl _) _
  have hg1 := heap_alloc_new W (.cells (vwA x) 25)
  cases hf : fitsB x l.length with
  | false =>
    rw [hf] at hfi
    unfold vwA at hb1 hg1 hfi ⊢
    have HFI := Lib.hid hfi
    have HBX := Lib.hid (And.intro hg1 hb1)
    clear hx hl he ht hf hfi hb1 hg1
    go_enter Try.func4, Try.ntmps4
    go_wp2_with (first
      | (go_at_call 9; (with_reducible refine (HAW.out _).mono ?_); rintro e w1 ⟨rfl, hb1⟩; have B1 := Lib.hid (HBX.out.2.trans (lower' hb1 HBX.out.2.size)); obtain ⟨q0, q1, q2, q3, q4⟩ := box5 ((hb1.block W.heap.size (by simp)).trans HBX.out.1); clear hb1)
      | (go_at_call 10; (with_reducible refine (HFI.out _).mono ?_); rintro e w2 ⟨rfl, hb2⟩; have B2 := Lib.hid (B1.out.trans (lower' hb2 B1.out.size)); clear hb2 HBX q0 q1 q2 q3 q4 HFI)
      | (go_at_call 9; (with_reducible refine (HAW.out _).mono ?_); rintro e w3 ⟨rfl, hb3⟩; have B3 := Lib.hid (B2.out.trans (lower' hb3 B2.out.size)); clear hb3))
    go_ret
    exact ⟨rfl, B3.out⟩
  | true =>
    rw [hf] at hfi
    obtain ⟨f1, f2, f3⟩ := fits_facts hf
    by_cases h40 : t.l.length ≤ 40
    · have hok : x.Ok W := hx.ok (by omega) (by omega)
      have hE := he.ok (by omega)
      have hT := ht.ok h40
      have h40I : ¬ (40 : Int) < (t.l.length : Int) := by omega
      obtain ⟨bb, hbb⟩ : ∃ b, b = holdsB x.v l t.l := ⟨_, rfl⟩
      have HBB := Lib.hid hbb
      have hown := fun w (h : Below W.heap.size W w) => own_any x w (hok.below h)
      have hrh := fun w (h : Below W.heap.size W w) => rholds_any x A c l t w (hok.below h) hl f2 (hE.below h) (hT.below h)
      have hro := fun w (h : Below W.heap.size W w) => rows_any x A c l w (hok.below h) (hE.below h)
      have hhr := fun (r : TV) w (h : Below W.heap.size W w) (hr : r.Ok w) => holds_any x A c l r w (hok.below h) (hE.below h) hr
      simp only [← hbb] at hrh
      have H0 := Lib.hid (And.intro hE hT)
      clear hx hl he ht hf hok hE hT h40 f1 f2 f3 hbb
      unfold vwA at hb1 hg1 hfi hown hrh hro hhr ⊢
      have HFI := Lib.hid hfi
      have HBX := Lib.hid (And.intro hg1 hb1)
      have HOWN := Lib.hid hown
      have HRH := Lib.hid hrh
      have HRO := Lib.hid hro
      have HHR := Lib.hid hhr
      clear hfi hb1 hg1 hown hrh hro hhr
      go_enter Try.func4, Try.ntmps4
      go_upto_region 3 with (first
        | (go_at_call 9; (with_reducible refine (HAW.out _).mono ?_); rintro e w1 ⟨rfl, hb1⟩; have B1 := Lib.hid (And.intro hb1 (HBX.out.2.trans (lower' hb1 HBX.out.2.size))); obtain ⟨q0, q1, q2, q3, q4⟩ := box5 ((hb1.block W.heap.size (by simp)).trans HBX.out.1); clear hb1 HAW)
        | (go_at_call 10; (with_reducible refine (HFI.out _).mono ?_); rintro e w2 ⟨rfl, hb2⟩; have B2 := Lib.hid (And.intro (B1.out.1.trans (lower' hb2 B1.out.1.size)) (B1.out.2.trans (lower' hb2 B1.out.2.size))); clear hb2 B1 HFI q0 q1 q2 q3 q4))
      obtain ⟨q0, q1, q2, q3, q4⟩ := box5 ((B2.out.1.block W.heap.size (by simp)).trans HBX.out.1)
      have HO2 := Lib.hid (HOWN.out w2 B2.out.2)
      go_upto_region 6 with (first
        | (go_at_call 11; (with_reducible refine HO2.out.mono ?_); rintro e w4 ⟨⟨oA, oc, aA, ac, v⟩, hv, rfl, k4, _, _, b4⟩; dsimp only at hv; subst hv; (try unfold vwA); (try dsimp only); obtain ⟨u, w5, hrun, hul, hu, b5⟩ := copy_tup w4 ((H0.out.2.below B2.out.2).below b4); have b45 := b4.trans (lower' b5 b4.size); have hh := holds_any ⟨oA, oc, aA, ac, x.v⟩ A c l u w5 (k4.below b5) ((H0.out.1.below B2.out.2).below b45) hu; (try unfold vwA at hh); (try dsimp only at hh); rw [hul] at hh hrun; rw [← HBB.out] at hh; have HH5 := Lib.hid hh; have B5 := Lib.hid (And.intro (B2.out.1.trans (lower' b45 B2.out.1.size)) (B2.out.2.trans (lower' b45 B2.out.2.size))); clear hh b45 b4 b5 k4 hu hul q0 q1 q2 q3 q4)
        | (at_builtin; refine wpL_appK _ rfl (.tmp 29) (.tmp 30) 43 rfl rfl _ _ _ _ rfl rfl hrun ?_)
        | (go_at_call 20; (with_reducible refine HH5.out.mono ?_); rintro e w6 ⟨rfl, b6⟩; have B6 := Lib.hid (And.intro (B5.out.1.trans (lower' b6 B5.out.1.size)) (B5.out.2.trans (lower' b6 B5.out.2.size))); have HR6 := Lib.hid (HRH.out w6 B6.out.2); obtain ⟨q0, q1, q2, q3, q4⟩ := box5 ((B6.out.1.block W.heap.size (by simp)).trans HBX.out.1); clear b6 hrun)
        | (go_at_call 21; (with_reducible refine HR6.out.mono ?_); rintro e w7 ⟨rfl, b7⟩; have B7 := Lib.hid (And.intro (B6.out.1.trans (lower' b7 B6.out.1.size)) (B6.out.2.trans (lower' b7 B6.out.2.size))); clear b7 q0 q1 q2 q3 q4))
      obtain ⟨q0, q1, q2, q3, q4⟩ := box5 ((B7.out.1.block W.heap.size (by simp)).trans HBX.out.1)
      have HR7 := Lib.hid (HRO.out w7 B7.out.2)
      clear HRH HRO HR6 HOWN HO2
      go_upto_region 7 with (go_at_call 12; (with_reducible refine HR7.out.mono ?_); rintro e w8 ⟨y, rfl, _, p2, p3, p4⟩; have B8 := Lib.hid (And.intro (B7.out.1.trans (lower' p4 B7.out.1.size)) (B7.out.2.trans (lower' p4 B7.out.2.size))); have Y := Lib.hid (And.intro p2 p3); clear q0 q1 q2 q3 q4 p2 p3 p4)
      have hrg := rowsC_rng x.v l
      have hz0 := fun h0 => holds_has (v := x.v) (es := l) (row := t.l) h0
      have hz1 := fun h0 => holds_bad (v := x.v) (es := l) (row := t.l) h0
      have hz2 := fun h0 r hr => holds_row (v := x.v) (es := l) (row := r) h0 hr
      simp only [← HBB.out] at hz0 hz1
      have HZ := Lib.hid (And.intro hz0 hz2)
      have HZ1 := Lib.hid hz1
      clear hz0 hz1 hz2
      generalize rowsC x.v l = E at hrg HZ HZ1 ⊢
      rcases hrg with rfl | rfl | rfl
      · have hys : y.ts.length ≤ 5000 := Y.out.1.sm
        have HZ0 := Lib.hid (HZ.out.1 rfl)
        have HZ2 := Lib.hid (HZ.out.2 rfl)
        clear HZ HZ1
        go_wp2_with (fail)
        go_loopw [59] (fun i wr => ∃ k : Nat, k ≤ y.ts.length ∧ i = .int .i64 (k : Int) ∧ Hid (Below w8.heap.size w8 wr)) (fun i _ => y.ts.length - (intOf i).toNat)
        case atStart => exact ⟨0, by omega, rfl, Lib.hid (Below.refl _ _)⟩
        case round =>
          obtain ⟨k, hk, rfl, hrel⟩ := hrel
          have hyw := Y.out.1.below hrel.out
          by_cases hlt : k < y.ts.length
          · obtain ⟨b, o, hA, _, c0⟩ := LV.Ok.cell' hyw hlt
            have hlI : (k : Int) < (y.ts.length : Int) := by omega
            have hok := hyw.ok _ (List.getElem_mem hlt)
            have hin : y.ts[k].l ∈ rowsR x.v l := by
              rw [← Y.out.2, ← tus_at y.ts k hlt]
              exact List.getElem_mem _
            have hB := HZ2.out _ hin
            rw [hA]
            generalize y.ts[k] = r at c0 hok hB
            have hbw := B8.out.2.trans (lower' hrel.out B8.out.2.size)
            have hh := HHR.out r wr hbw hok
            rw [hB] at hh
            obtain ⟨q0, q1, q2, q3, q4⟩ := box5 (((B8.out.1.trans (lower' hrel.out B8.out.1.size)).block W.heap.size (by simp)).trans HBX.out.1)
            have HH := Lib.hid hh
            have HB := Lib.hid hrel.out
            clear hyw hok hin hB hbw hh hrel hA
            go_wp2_with (go_at_call 20; (with_reducible refine HH.out.mono ?_); rintro e w9 ⟨rfl, b9⟩; have HB9 := Lib.hid (HB.out.trans (lower' b9 HB.out.size)); clear b9)
            go_roundw
            case rel => exact ⟨k + 1, by omega, by go_num, HB9⟩
            case measure => simp [intOf]; omega
          · have hlI : ¬ (k : Int) < (y.ts.length : Int) := by omega
            have hbw := B8.out.2.trans (lower' hrel.out B8.out.2.size)
            have hh := rhas_any y t wr hyw (H0.out.2.below hbw)
            rw [Y.out.2, HZ0.out] at hh
            have HH := Lib.hid hh
            have HB := Lib.hid hbw
            clear hyw hh hbw hrel
            go_wp2_with (go_at_call 22; (with_reducible refine HH.out.mono ?_); rintro e w9 ⟨rfl, hd⟩; have HB9 := Lib.hid (HB.out.trans (lower' (below_drawn hd) HB.out.size)); clear hd)
            go_ret
            exact ⟨by simp, HB9.out⟩
      · have hbf := HZ1.out rfl
        subst hbf
        clear HZ HZ1
        go_wp2_with (fail)
        go_ret
        exact ⟨rfl, B8.out.2⟩
      · clear HZ HZ1
        go_wp2_with (fail)
        go_ret
        exact ⟨rfl, B8.out.2⟩
    · have h40I : (40 : Int) < (t.l.length : Int) := by omega
      unfold vwA at hb1 hg1 hfi ⊢
      have HFI := Lib.hid hfi
      have HBX := Lib.hid (And.intro hg1 hb1)
      clear hx hl he ht hf hfi hb1 hg1 h40 f1 f2 f3
      go_enter Try.func4, Try.ntmps4
      go_wp2_with (first
        | (go_at_call 9; (with_reducible refine (HAW.out _).mono ?_); rintro e w1 ⟨rfl, hb1⟩; have B1 := Lib.hid (HBX.out.2.trans (lower' hb1 HBX.out.2.size)); obtain ⟨q0, q1, q2, q3, q4⟩ := box5 ((hb1.block W.heap.size (by simp)).trans HBX.out.1); clear hb1)
        | (go_at_call 10; (with_reducible refine (HFI.out _).mono ?_); rintro e w2 ⟨rfl, hb2⟩; have B2 := Lib.hid (B1.out.trans (lower' hb2 B1.out.size)); clear hb2 HBX q0 q1 q2 q3 q4 HFI)
        | (go_at_call 9; (with_reducible refine (HAW.out _).mono ?_); rintro e w3 ⟨rfl, hb3⟩; have B3 := Lib.hid (B2.out.trans (lower' hb3 B2.out.size)); clear hb3))
      go_ret
      exact ⟨rfl, B3.out⟩
end Go.Proofs.Ytobieolonlddlaa
