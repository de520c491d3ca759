/- The law TupleOrders, walked. -/
import Derived.Test.YtpfkkmfhafejfaaTupS
namespace Go.Proofs.Ytpfkkmfhafejfaa
open Go.RowKit Go.Maps

theorem TV.Raw.below {w w' : World} {t : TV} (h : t.Raw w) (hb : Below w.heap.size w w') : t.Raw w' := ⟨(h.1.below hb (Nat.le_refl _)).more hb.size, h.2⟩
theorem TV.Raw.ok {w : World} {t : TV} (h : t.Raw w) (hs : t.l.length ≤ 40) : t.Ok w := ⟨h.1, h.2, by omega⟩
/-- What few is told of a list of three tuples. -/
theorem few_three (a b c : TV) (w : World) (ha : a.Raw w) (hb : b.Raw w) (hc : c.Raw w) :
    Calls Try.prog 10 #[.slice (some ⟨w.heap.size + 1, 0, none⟩) 1 1] ((w.alloc (.cells #[.slice a.A a.l.length a.c, .slice b.A b.l.length b.c, .slice c.A c.l.length c.c] 24)).alloc (.cells #[.slice (some ⟨w.heap.size, 0, none⟩) 3 3] 22))
      fun e w' => e = .returned (.bool (fewL ⟨none, [a, b, c], 3⟩)) ∧ Below w.heap.size w w' := by
  obtain ⟨h0, h1⟩ := two_new w (.cells #[.slice a.A a.l.length a.c, .slice b.A b.l.length b.c, .slice c.A c.l.length c.c] 24) (.cells #[.slice (some ⟨w.heap.size, 0, none⟩) 3 3] 22)
  have hbe := ((Below.refl w.heap.size w).alloc (Nat.le_refl _) (.cells #[.slice a.A a.l.length a.c, .slice b.A b.l.length b.c, .slice c.A c.l.length c.c] 24)).alloc (by simp) (.cells #[.slice (some ⟨w.heap.size, 0, none⟩) 3 3] 22)
  have hraw : LV.Raw _ ⟨some ⟨w.heap.size, 0, none⟩, [a, b, c], 3⟩ := ⟨rd_lit (xs := vals [a, b, c]) h0, fun t ht => by
    rcases List.mem_cons.1 ht with rfl | ht
    · exact ha.below hbe
    · rcases List.mem_cons.1 ht with rfl | ht
      · exact hb.below hbe
      · rw [List.mem_singleton.1 ht]; exact hc.below hbe, Nat.le_refl _⟩
  have h := few_any (some ⟨w.heap.size + 1, 0, none⟩) 1 [⟨some ⟨w.heap.size, 0, none⟩, [a, b, c], 3⟩] _ (rd_lit (xs := [⟨some ⟨w.heap.size, 0, none⟩, [a, b, c], 3⟩].map LV.val) h1) (by simp) (fun x hx => by rw [List.mem_singleton.1 hx]; exact hraw)
  refine Calls.mono (h : Calls Try.prog 10 #[.slice (some ⟨w.heap.size + 1, 0, none⟩) 1 1] _ _) ?_
  rintro e w' ⟨rfl, rfl⟩
  refine ⟨?_, hbe⟩
  unfold fewB fewL
  simp only [List.all_cons, List.all_nil, Bool.and_true]
set_option maxRecDepth 100000 in
set_option maxHeartbeats 4000000 in
theorem tupleOrders_walk (a b c : TV) (W : World) (ha : a.Raw W) (hb : b.Raw W) (hc : c.Raw W) :
    Calls Try.prog 4 #[.slice a.A a.l.length a.c, .slice b.A b.l.length b.c, .slice c.A c.l.length c.c] W fun e w' => e = .returned (.bool true) ∧ Below W.heap.size W w' := by
  have HAW := Lib.hid awake10_any
  have HFW := Lib.hid fun w (h : Below W.heap.size W w) => few_three a b c w (ha.below h) (hb.below h) (hc.below h)
  have HR := Lib.hid (And.intro ha (And.intro hb hc))
  clear ha hb hc
  cases hf : fewL ⟨none, [a, b, c], 3⟩ with
  | false =>
    rw [hf] at HFW
    clear hf
    go_enter Try.func4, Try.ntmps4
    go_upto_region 2 with (first
      | (go_at_call 9; (with_reducible refine (HAW.out _).mono ?_); rintro e w1 ⟨rfl, hb1⟩; have B1 := Lib.hid hb1; have HF1 := Lib.hid (HFW.out w1 hb1); clear hb1 HFW)
      | (go_at_call 10; (with_reducible refine HF1.out.mono ?_); rintro e w2 ⟨rfl, hb2⟩; have B2 := Lib.hid (B1.out.trans (lower hb2 B1.out.size)); clear hb2 HF1))
    go_wp2_with (go_at_call 9; (with_reducible refine (HAW.out _).mono ?_); rintro e w3 ⟨rfl, hb3⟩; have B3 := Lib.hid (B2.out.trans (lower hb3 B2.out.size)); clear hb3)
    go_ret
    exact ⟨rfl, B3.out⟩
  | true =>
    rw [hf] at HFW
    have hl : a.l.length ≤ 40 ∧ b.l.length ≤ 40 ∧ c.l.length ≤ 40 := by
      unfold fewL at hf
      simp only [List.all_cons, List.all_nil, Bool.and_true, Bool.and_eq_true, decide_eq_true_eq] at hf
      exact hf.2
    have HO := Lib.hid fun w (h : Below W.heap.size W w) => And.intro ((HR.out.1.below h).ok hl.1) (And.intro ((HR.out.2.1.below h).ok hl.2.1) ((HR.out.2.2.below h).ok hl.2.2))
    have hrg1 := cmpI_rng a.l b.l
    have hrg2 := cmpI_rng b.l c.l
    have hrg3 := cmpI_rng a.l c.l
    have hsw := cmpI_swap a.l b.l
    have hle := @cmpI_le a.l b.l c.l
    obtain ⟨K1, hK1⟩ : ∃ K, K = cmpI a.l b.l := ⟨_, rfl⟩
    obtain ⟨K2, hK2⟩ : ∃ K, K = cmpI b.l c.l := ⟨_, rfl⟩
    obtain ⟨K3, hK3⟩ : ∃ K, K = cmpI a.l c.l := ⟨_, rfl⟩
    rw [← hK1] at hrg1 hsw hle
    rw [← hK2] at hrg2 hle
    rw [← hK3] at hrg3 hle
    have HC1 : Hid (∀ w, Below W.heap.size W w → Calls Try.prog 20 #[.slice a.A a.l.length a.c, .slice b.A b.l.length b.c] w fun e w' => e = .returned (.int .i64 K1) ∧ w = w') := Lib.hid fun w h => by rw [hK1]; exact cmpT_any a b w (HO.out w h).1 (HO.out w h).2.1
    have HC2 : Hid (∀ w, Below W.heap.size W w → Calls Try.prog 20 #[.slice b.A b.l.length b.c, .slice a.A a.l.length a.c] w fun e w' => e = .returned (.int .i64 (-K1)) ∧ w = w') := Lib.hid fun w h => by rw [← hsw]; exact cmpT_any b a w (HO.out w h).2.1 (HO.out w h).1
    have HC3 : Hid (∀ w, Below W.heap.size W w → Calls Try.prog 20 #[.slice b.A b.l.length b.c, .slice c.A c.l.length c.c] w fun e w' => e = .returned (.int .i64 K2) ∧ w = w') := Lib.hid fun w h => by rw [hK2]; exact cmpT_any b c w (HO.out w h).2.1 (HO.out w h).2.2
    have HC4 : Hid (∀ w, Below W.heap.size W w → Calls Try.prog 20 #[.slice a.A a.l.length a.c, .slice c.A c.l.length c.c] w fun e w' => e = .returned (.int .i64 K3) ∧ w = w') := Lib.hid fun w h => by rw [hK3]; exact cmpT_any a c w (HO.out w h).1 (HO.out w h).2.2
    have HC5 : Hid (∀ w, Below W.heap.size W w → Calls Try.prog 21 #[.slice a.A a.l.length a.c, .slice b.A b.l.length b.c] w fun e w' => e = .returned (.int .i64 K1) ∧ Below w.heap.size w w') := Lib.hid fun w h => by rw [hK1]; exact (rcmp_any a b w (HO.out w h).1 (HO.out w h).2.1).mono fun _ _ h => ⟨h.1, below_drawn h.2⟩
    clear hf hl hsw hK1 hK2 hK3 HO HR
    have hfin : K1 = 1 ∨ (K1 ≤ 0 ∧ K2 = 1) ∨ (K1 ≤ 0 ∧ K2 ≤ 0 ∧ K3 ≤ 0) := by
      by_cases h1 : K1 = 1
      · exact .inl h1
      · by_cases h2 : K2 = 1
        · exact .inr (.inl ⟨by omega, h2⟩)
        · exact .inr (.inr ⟨by omega, by omega, hle (by omega) (by omega)⟩)
    clear hle
    rcases hfin with rfl | ⟨h1, rfl⟩ | ⟨h1, h2, h3⟩
    · go_enter Try.func4, Try.ntmps4
      go_wp2_with (first
        | (go_at_call 9; (with_reducible refine (HAW.out _).mono ?_); rintro e w1 ⟨rfl, hb1⟩; have B1 := Lib.hid hb1; have HF1 := Lib.hid (HFW.out w1 hb1); clear hb1 HFW)
        | (go_at_call 10; (with_reducible refine HF1.out.mono ?_); rintro e w2 ⟨rfl, hb2⟩; have B2 := Lib.hid (B1.out.trans (lower hb2 B1.out.size)); have HD1 := Lib.hid (HC1.out w2 B2.out); have HD5 := Lib.hid (HC5.out w2 B2.out); clear hb2 HF1)
        | (go_at_call 20; (with_reducible refine HD1.out.mono ?_); rintro e w3 ⟨rfl, rfl⟩)
        | (go_at_call 21; (with_reducible refine HD5.out.mono ?_); rintro e w3 ⟨rfl, hb3⟩; have B3 := Lib.hid (B2.out.trans (lower hb3 B2.out.size)); have HD2 := Lib.hid (HC2.out w3 B3.out); have HD3 := Lib.hid (HC3.out w3 B3.out); have HD4 := Lib.hid (HC4.out w3 B3.out); clear hb3 HD5 HD1)
        | (go_at_call 20; (with_reducible refine HD2.out.mono ?_); rintro e w4 ⟨rfl, rfl⟩)
        | (go_at_call 20; (with_reducible refine HD3.out.mono ?_); rintro e w4 ⟨rfl, rfl⟩)
        | (go_at_call 20; (with_reducible refine HD4.out.mono ?_); rintro e w4 ⟨rfl, rfl⟩))
      go_ret
      exact ⟨rfl, B3.out⟩
    · rcases hrg1 with rfl | rfl | rfl
      · simp only [show (-(-1 : Int)) = 1 from rfl] at HC2
        go_enter Try.func4, Try.ntmps4
        go_wp2_with (first
          | (go_at_call 9; (with_reducible refine (HAW.out _).mono ?_); rintro e w1 ⟨rfl, hb1⟩; have B1 := Lib.hid hb1; have HF1 := Lib.hid (HFW.out w1 hb1); clear hb1 HFW)
          | (go_at_call 10; (with_reducible refine HF1.out.mono ?_); rintro e w2 ⟨rfl, hb2⟩; have B2 := Lib.hid (B1.out.trans (lower hb2 B1.out.size)); have HD1 := Lib.hid (HC1.out w2 B2.out); have HD5 := Lib.hid (HC5.out w2 B2.out); clear hb2 HF1)
          | (go_at_call 20; (with_reducible refine HD1.out.mono ?_); rintro e w3 ⟨rfl, rfl⟩)
          | (go_at_call 21; (with_reducible refine HD5.out.mono ?_); rintro e w3 ⟨rfl, hb3⟩; have B3 := Lib.hid (B2.out.trans (lower hb3 B2.out.size)); have HD2 := Lib.hid (HC2.out w3 B3.out); have HD3 := Lib.hid (HC3.out w3 B3.out); have HD4 := Lib.hid (HC4.out w3 B3.out); clear hb3 HD5 HD1)
          | (go_at_call 20; (with_reducible refine HD2.out.mono ?_); rintro e w4 ⟨rfl, rfl⟩)
          | (go_at_call 20; (with_reducible refine HD3.out.mono ?_); rintro e w4 ⟨rfl, rfl⟩)
          | (go_at_call 20; (with_reducible refine HD4.out.mono ?_); rintro e w4 ⟨rfl, rfl⟩))
        go_ret
        exact ⟨rfl, B3.out⟩
      · simp only [show (-(0 : Int)) = 0 from rfl] at HC2
        go_enter Try.func4, Try.ntmps4
        go_wp2_with (first
          | (go_at_call 9; (with_reducible refine (HAW.out _).mono ?_); rintro e w1 ⟨rfl, hb1⟩; have B1 := Lib.hid hb1; have HF1 := Lib.hid (HFW.out w1 hb1); clear hb1 HFW)
          | (go_at_call 10; (with_reducible refine HF1.out.mono ?_); rintro e w2 ⟨rfl, hb2⟩; have B2 := Lib.hid (B1.out.trans (lower hb2 B1.out.size)); have HD1 := Lib.hid (HC1.out w2 B2.out); have HD5 := Lib.hid (HC5.out w2 B2.out); clear hb2 HF1)
          | (go_at_call 20; (with_reducible refine HD1.out.mono ?_); rintro e w3 ⟨rfl, rfl⟩)
          | (go_at_call 21; (with_reducible refine HD5.out.mono ?_); rintro e w3 ⟨rfl, hb3⟩; have B3 := Lib.hid (B2.out.trans (lower hb3 B2.out.size)); have HD2 := Lib.hid (HC2.out w3 B3.out); have HD3 := Lib.hid (HC3.out w3 B3.out); have HD4 := Lib.hid (HC4.out w3 B3.out); clear hb3 HD5 HD1)
          | (go_at_call 20; (with_reducible refine HD2.out.mono ?_); rintro e w4 ⟨rfl, rfl⟩)
          | (go_at_call 20; (with_reducible refine HD3.out.mono ?_); rintro e w4 ⟨rfl, rfl⟩)
          | (go_at_call 20; (with_reducible refine HD4.out.mono ?_); rintro e w4 ⟨rfl, rfl⟩))
        go_ret
        exact ⟨rfl, B3.out⟩
      · omega
    · rcases hrg1 with rfl | rfl | rfl
      · simp only [show (-(-1 : Int)) = 1 from rfl] at HC2
        have h2' : ¬ (0 : Int) < K2 := by omega
        go_enter Try.func4, Try.ntmps4
        go_wp2_with (first
          | (go_at_call 9; (with_reducible refine (HAW.out _).mono ?_); rintro e w1 ⟨rfl, hb1⟩; have B1 := Lib.hid hb1; have HF1 := Lib.hid (HFW.out w1 hb1); clear hb1 HFW)
          | (go_at_call 10; (with_reducible refine HF1.out.mono ?_); rintro e w2 ⟨rfl, hb2⟩; have B2 := Lib.hid (B1.out.trans (lower hb2 B1.out.size)); have HD1 := Lib.hid (HC1.out w2 B2.out); have HD5 := Lib.hid (HC5.out w2 B2.out); clear hb2 HF1)
          | (go_at_call 20; (with_reducible refine HD1.out.mono ?_); rintro e w3 ⟨rfl, rfl⟩)
          | (go_at_call 21; (with_reducible refine HD5.out.mono ?_); rintro e w3 ⟨rfl, hb3⟩; have B3 := Lib.hid (B2.out.trans (lower hb3 B2.out.size)); have HD2 := Lib.hid (HC2.out w3 B3.out); have HD3 := Lib.hid (HC3.out w3 B3.out); have HD4 := Lib.hid (HC4.out w3 B3.out); clear hb3 HD5 HD1)
          | (go_at_call 20; (with_reducible refine HD2.out.mono ?_); rintro e w4 ⟨rfl, rfl⟩)
          | (go_at_call 20; (with_reducible refine HD3.out.mono ?_); rintro e w4 ⟨rfl, rfl⟩)
          | (go_at_call 20; (with_reducible refine HD4.out.mono ?_); rintro e w4 ⟨rfl, rfl⟩))
        go_ret
        exact ⟨rfl, B3.out⟩
      · simp only [show (-(0 : Int)) = 0 from rfl] at HC2
        have h2' : ¬ (0 : Int) < K2 := by omega
        go_enter Try.func4, Try.ntmps4
        go_wp2_with (first
          | (go_at_call 9; (with_reducible refine (HAW.out _).mono ?_); rintro e w1 ⟨rfl, hb1⟩; have B1 := Lib.hid hb1; have HF1 := Lib.hid (HFW.out w1 hb1); clear hb1 HFW)
          | (go_at_call 10; (with_reducible refine HF1.out.mono ?_); rintro e w2 ⟨rfl, hb2⟩; have B2 := Lib.hid (B1.out.trans (lower hb2 B1.out.size)); have HD1 := Lib.hid (HC1.out w2 B2.out); have HD5 := Lib.hid (HC5.out w2 B2.out); clear hb2 HF1)
          | (go_at_call 20; (with_reducible refine HD1.out.mono ?_); rintro e w3 ⟨rfl, rfl⟩)
          | (go_at_call 21; (with_reducible refine HD5.out.mono ?_); rintro e w3 ⟨rfl, hb3⟩; have B3 := Lib.hid (B2.out.trans (lower hb3 B2.out.size)); have HD2 := Lib.hid (HC2.out w3 B3.out); have HD3 := Lib.hid (HC3.out w3 B3.out); have HD4 := Lib.hid (HC4.out w3 B3.out); clear hb3 HD5 HD1)
          | (go_at_call 20; (with_reducible refine HD2.out.mono ?_); rintro e w4 ⟨rfl, rfl⟩)
          | (go_at_call 20; (with_reducible refine HD3.out.mono ?_); rintro e w4 ⟨rfl, rfl⟩)
          | (go_at_call 20; (with_reducible refine HD4.out.mono ?_); rintro e w4 ⟨rfl, rfl⟩))
        go_ret
        exact ⟨rfl, B3.out⟩
      · omega
end Go.Proofs.Ytpfkkmfhafejfaa
