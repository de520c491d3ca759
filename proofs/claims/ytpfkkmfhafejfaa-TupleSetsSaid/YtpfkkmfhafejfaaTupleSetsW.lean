/- The law TupleSets, walked. -/
import Derived.Test.YtpfkkmfhafejfaaTupU
import Derived.Test.YtpfkkmfhafejfaaTupS
import Derived.Test.YtpfkkmfhafejfaaTupZ
import Derived.Test.YtpfkkmfhafejfaaTupAA
namespace Go.Proofs.Ytpfkkmfhafejfaa
open Go.RowKit Go.Maps

theorem TV.Raw.belowS {w w' : World} {t : TV} (h : t.Raw w) (hb : Below w.heap.size w w') : t.Raw w' := ⟨(h.1.below hb (Nat.le_refl _)).more hb.size, h.2⟩
/-- What few is told of a list and a list of one tuple. -/
theorem few_lt (l : LV) (t : TV) (w : World) (hl : l.Raw w) (ht : t.Raw w) :
    Calls Try.prog 10 #[.slice (some ⟨w.heap.size + 1, 0, none⟩) 2 2] ((w.alloc (.cells #[.slice t.A t.l.length t.c] 24)).alloc (.cells #[.slice l.A l.ts.length l.c, .slice (some ⟨w.heap.size, 0, none⟩) 1 1] 22))
      fun e w' => e = .returned (.bool (fewL l && fewL ⟨none, [t], 1⟩)) ∧ Below w.heap.size w w' := by
  obtain ⟨h0, h1⟩ := two_new w (.cells #[.slice t.A t.l.length t.c] 24) (.cells #[.slice l.A l.ts.length l.c, .slice (some ⟨w.heap.size, 0, none⟩) 1 1] 22)
  have hbe := ((Below.refl w.heap.size w).alloc (Nat.le_refl _) (.cells #[.slice t.A t.l.length t.c] 24)).alloc (by simp) (.cells #[.slice l.A l.ts.length l.c, .slice (some ⟨w.heap.size, 0, none⟩) 1 1] 22)
  have hraw : LV.Raw _ ⟨some ⟨w.heap.size, 0, none⟩, [t], 1⟩ := ⟨rd_lit (xs := vals [t]) h0, fun u hu => by rw [List.mem_singleton.1 hu]; exact ht.belowS hbe, Nat.le_refl _⟩
  have h := few_any (some ⟨w.heap.size + 1, 0, none⟩) 2 [l, ⟨some ⟨w.heap.size, 0, none⟩, [t], 1⟩] _ (rd_lit (xs := [l, ⟨some ⟨w.heap.size, 0, none⟩, [t], 1⟩].map LV.val) h1) (by simp) (fun x hx => by
    rcases List.mem_cons.1 hx with rfl | hx
    · exact hl.below hbe
    · rw [List.mem_singleton.1 hx]; exact hraw)
  refine Calls.mono (h : Calls Try.prog 10 #[.slice (some ⟨w.heap.size + 1, 0, none⟩) 2 2] _ _) ?_
  rintro e w' ⟨rfl, rfl⟩
  refine ⟨?_, hbe⟩
  unfold fewB
  simp only [List.all_cons, List.all_nil, Bool.and_true]
  rfl
set_option maxRecDepth 100000 in
set_option maxHeartbeats 4000000 in
theorem tupleSets_walk (l : LV) (t : TV) (W : World) (hl : l.Raw W) (ht : t.Raw W) :
    Calls Try.prog 3 #[.slice l.A l.ts.length l.c, .slice t.A t.l.length t.c] W fun e w' => e = .returned (.bool true) ∧ Below W.heap.size W w' := by
  have HAW := Lib.hid awake10_any
  have HFW := Lib.hid fun w (h : Below W.heap.size W w) => few_lt l t w (hl.below h) (ht.belowS h)
  have HR := Lib.hid (And.intro hl ht)
  clear hl ht
  cases hf : (fewL l && fewL ⟨none, [t], 1⟩) with
  | false =>
    rw [hf] at HFW
    clear hf HR
    go_enter Try.func3, Try.ntmps3
    go_upto_region 2 with (first
      | (go_at_call 9; (with_reducible refine (HAW.out _).mono ?_); rintro e w1 ⟨rfl, hb1⟩; have B1 := Lib.hid hb1; have HF1 := Lib.hid (HFW.out w1 hb1); clear hb1 HFW)
      | (go_at_call 10; (with_reducible refine HF1.out.mono ?_); rintro e w2 ⟨rfl, hb2⟩; have B2 := Lib.hid (B1.out.trans (lower hb2 B1.out.size)); clear hb2 HF1))
    go_wp2_with (go_at_call 9; (with_reducible refine (HAW.out _).mono ?_); rintro e w3 ⟨rfl, hb3⟩; have B3 := Lib.hid (B2.out.trans (lower hb3 B2.out.size)); clear hb3)
    go_ret
    exact ⟨rfl, B3.out⟩
  | true =>
    rw [hf] at HFW
    rw [Bool.and_eq_true] at hf
    have htl : t.l.length ≤ 40 := by
      have := hf.2
      unfold fewL at this
      simp only [List.all_cons, List.all_nil, Bool.and_true, Bool.and_eq_true, decide_eq_true_eq] at this
      exact this.2
    have HO := Lib.hid fun w (h : Below W.heap.size W w) => And.intro ((HR.out.1.below h).ok hf.1).1 (show t.Ok w from ⟨(HR.out.2.belowS h).1, (HR.out.2.belowS h).2, by omega⟩)
    have HOA := Lib.hid fun w (h : Below W.heap.size W w) => own10_any l w (HO.out w h).1
    clear hf htl HR
    go_enter Try.func3, Try.ntmps3
    go_upto_region 5 with (first
      | (go_at_call 9; (with_reducible refine (HAW.out _).mono ?_); rintro e w1 ⟨rfl, hb1⟩; have B1 := Lib.hid hb1; have HF1 := Lib.hid (HFW.out w1 B1.out); clear hb1 HFW)
      | (go_at_call 10; (with_reducible refine HF1.out.mono ?_); rintro e w2 ⟨rfl, hb2⟩; have B2 := Lib.hid (B1.out.trans (lower hb2 B1.out.size)); have HOA2 := Lib.hid (HOA.out w2 B2.out); clear hb2 HF1 HOA)
      | (go_at_call 11; (with_reducible refine HOA2.out.mono ?_); rintro e w3 ⟨x3, rfl, q3, o3, e3, b3⟩; have B3 := Lib.hid (B2.out.trans (lower b3 B2.out.size)); have E3 := Lib.hid (And.intro o3 e3); have HS3 := Lib.hid (set_l x3 w3 o3); clear q3 o3 e3 b3 HOA2)
      | (go_at_call 12; (with_reducible refine HS3.out.mono ?_); rintro e w4 ⟨y4, rfl, q4, o4, e4, b4⟩; have D4 := Lib.hid b4; have B4 := Lib.hid (B3.out.trans (lower b4 B3.out.size)); have E4 := Lib.hid (And.intro q4 (And.intro o4 (e4.trans (congrArg setL E3.out.2)))); clear q4 o4 e4 b4 HS3))
    have hup := fun w (h : Below w4.heap.size w4 w) => B4.out.trans (lower h B4.out.size)
    have hrs := fun w (h : Below w4.heap.size w4 w) => rset_l l w (HO.out w (hup w h)).1
    have hsm := fun w (r : LV) (h : Below w4.heap.size w4 w) (hr : r.Ok w) (he : tus r.ts = setL (tus l.ts)) => (same10_any y4 r w (E4.out.2.1.below h) hr).mono fun e w' hh => (show e = .returned (.bool true) ∧ Below w.heap.size w w' from ⟨by rw [hh.1, E4.out.2.2, he, decide_eq_true rfl], below_drawn hh.2⟩)
    obtain ⟨R, hR⟩ : ∃ R, R = risB (tus l.ts) := ⟨_, rfl⟩
    obtain ⟨H, hH⟩ : ∃ H, H = hasL (tus l.ts) t.l := ⟨_, rfl⟩
    have hr1 := fun w (h : Below w4.heap.size w4 w) => (rises_any x3.A x3.c x3.ts w (E3.out.1.below (D4.out.trans (lower h D4.out.size)))).mono fun e w' hh => (show e = .returned (.bool R) ∧ Below w.heap.size w w' from ⟨by rw [hh.1, E3.out.2, hR], below_drawn hh.2⟩)
    have hr2 := fun w (h : Below w4.heap.size w4 w) => (rrises_any l w (HO.out w (hup w h)).1).mono fun e w' hh => (show e = .returned (.bool R) ∧ Below w.heap.size w w' from ⟨by rw [hh.1, hR], below_drawn hh.2⟩)
    have hr3 := fun w (h : Below w4.heap.size w4 w) => (rises_any y4.A y4.c y4.ts w (E4.out.2.1.below h)).mono fun e w' hh => (show e = .returned (.bool true) ∧ Below w.heap.size w w' from ⟨by rw [hh.1, E4.out.2.2, ris_iff.2 (ris_set _)], below_drawn hh.2⟩)
    have hh1 := fun w (h : Below w4.heap.size w4 w) => (has_l x3 t w (E3.out.1.below (D4.out.trans (lower h D4.out.size))) (HO.out w (hup w h)).2).mono fun e w' hh => (show e = .returned (.bool H) ∧ Below w.heap.size w w' from ⟨by rw [hh.1, E3.out.2, hH], hh.2⟩)
    have hh2 := fun w (h : Below w4.heap.size w4 w) => (rhas_any l t w (HO.out w (hup w h)).1 (HO.out w (hup w h)).2).mono fun e w' hh => (show e = .returned (.bool H) ∧ Below w.heap.size w w' from ⟨by rw [hh.1, hH], below_drawn hh.2⟩)
    have hrg := blksL_rng E4.out.1 E4.out.1.lt
    have hsp := fun w (h : Below w4.heap.size w4 w) => spoil_any y4 w w3.heap.size (E4.out.1.below h) E4.out.2.1.sm (Nat.le_trans D4.out.size h.size)
    have hsf := fun w w' (h : Below w4.heap.size w4 w) (hf : Fr w w' (blksL y4)) => (show Below w3.heap.size w3 w' from (D4.out.trans (lower h D4.out.size)).trans (hf.below (Nat.le_trans D4.out.size h.size) fun s hs => (hrg s hs).1))
    have hse := fun w (h : Below w3.heap.size w3 w) => (same10_any x3 l w (E3.out.1.below h) (HO.out w (B3.out.trans (lower h B3.out.size))).1).mono fun e w' hh => (show e = .returned (.bool true) ∧ Below w.heap.size w w' from ⟨by rw [hh.1, E3.out.2, decide_eq_true rfl], below_drawn hh.2⟩)
    have HRS := Lib.hid hrs
    have HSM := Lib.hid hsm
    have HR1 := Lib.hid hr1
    have HR2 := Lib.hid hr2
    have HR3 := Lib.hid hr3
    have HH1 := Lib.hid hh1
    have HH2 := Lib.hid hh2
    have HSP := Lib.hid hsp
    have HSF := Lib.hid hsf
    have HSE := Lib.hid hse
    have HS0 := Lib.hid (hrs w4 (Below.refl _ _))
    clear hup hrs hsm hr1 hr2 hr3 hh1 hh2 hrg hsp hsf hse hR hH HO
    go_wp2_with (first
      | (go_at_call 14; (with_reducible refine HS0.out.mono ?_); rintro e w5 ⟨r5, rfl, o5, e5, b5⟩; have B5 := Lib.hid b5; have HSQ := Lib.hid (HSM.out w5 r5 b5 o5 e5); clear o5 e5 b5 HS0 HSM HRS)
      | (go_at_call 13; (with_reducible refine HSQ.out.mono ?_); rintro e w6 ⟨rfl, b6⟩; have B6 := Lib.hid (B5.out.trans (lower b6 B5.out.size)); have HQ1 := Lib.hid (HR1.out w6 B6.out); clear b6 HSQ HR1)
      | (go_at_call 15; (with_reducible refine HQ1.out.mono ?_); rintro e w7 ⟨rfl, b7⟩; have B7 := Lib.hid (B6.out.trans (lower b7 B6.out.size)); have HQ2 := Lib.hid (HR2.out w7 B7.out); clear b7 HQ1 HR2)
      | (go_at_call 16; (with_reducible refine HQ2.out.mono ?_); rintro e w8 ⟨rfl, b8⟩; have B8 := Lib.hid (B7.out.trans (lower b8 B7.out.size)); have HQ3 := Lib.hid (HR3.out w8 B8.out); clear b8 HQ2 HR3)
      | (go_at_call 15; (with_reducible refine HQ3.out.mono ?_); rintro e w9 ⟨rfl, b9⟩; have B9 := Lib.hid (B8.out.trans (lower b9 B8.out.size)); have HQ4 := Lib.hid (HH1.out w9 B9.out); clear b9 HQ3 HH1)
      | (go_at_call 17; (with_reducible refine HQ4.out.mono ?_); rintro e w10 ⟨rfl, b10⟩; have B10 := Lib.hid (B9.out.trans (lower b10 B9.out.size)); have HQ5 := Lib.hid (HH2.out w10 B10.out); clear b10 HQ4 HH2)
      | (go_at_call 18; (with_reducible refine HQ5.out.mono ?_); rintro e w11 ⟨rfl, b11⟩; have B11 := Lib.hid (B10.out.trans (lower b11 B10.out.size)); have HQ6 := Lib.hid (HSP.out w11 B11.out); clear b11 HQ5 HSP)
      | (go_at_call 19; (with_reducible refine HQ6.out.mono ?_); rintro e w12 ⟨rfl, f12⟩; have B12 := Lib.hid (HSF.out w11 w12 B11.out f12); have HQ7 := Lib.hid (HSE.out w12 B12.out); clear f12 HQ6 HSF HSE)
      | (go_at_call 13; (with_reducible refine HQ7.out.mono ?_); rintro e w13 ⟨rfl, b13⟩; have B13 := Lib.hid (B12.out.trans (lower b13 B12.out.size)); clear b13 HQ7))
    go_ret
    exact ⟨rfl, B3.out.trans (lower B13.out B3.out.size)⟩
end Go.Proofs.Ytpfkkmfhafejfaa
