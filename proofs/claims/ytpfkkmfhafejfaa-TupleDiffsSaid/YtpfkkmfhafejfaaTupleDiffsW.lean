/- The law TupleDiffs, walked. -/
import Derived.Test.YtpfkkmfhafejfaaTupU
namespace Go.Proofs.Ytpfkkmfhafejfaa
open Go.RowKit Go.Maps

theorem fr_ge {w w' : World} {S : List Nat} {lo : Nat} (h : Fr w w' S) (hS : ∀ s ∈ S, lo ≤ s) (hl : lo ≤ w.heap.size) : Below lo w w' := h.below hl hS
set_option maxRecDepth 100000 in
set_option maxHeartbeats 4000000 in
theorem tupleDiffs_walk (a b : LV) (W : World) (h1 : a.Raw W) (h2 : b.Raw W) :
    Calls Try.prog 5 #[.slice a.A a.ts.length a.c, .slice b.A b.ts.length b.c] W fun e w' => e = .returned (.bool true) ∧ Below W.heap.size W w' := by
  have HAW := Lib.hid awake10_any
  have HFW := Lib.hid fun w (h : Below W.heap.size W w) => few_two a b w (h1.below h) (h2.below h)
  have HR := Lib.hid (And.intro h1 h2)
  clear h1 h2
  cases hf : fewB [a, b] with
  | false =>
    rw [hf] at HFW
    clear hf HR
    go_enter Try.func5, Try.ntmps5
    go_upto_region 2 with (first
      | (go_at_call 9; (with_reducible refine (HAW.out _).mono ?_); rintro e w1 ⟨rfl, hb1⟩; have B1 := Lib.hid hb1; have HF1 := Lib.hid (HFW.out w1 hb1); clear hb1 HFW)
      | (go_at_call 10; (with_reducible refine HF1.out.mono ?_); rintro e w2 ⟨rfl, hb2⟩; have B2 := Lib.hid (B1.out.trans (lower hb2 B1.out.size)); clear hb2 HF1))
    go_wp2_with (go_at_call 9; (with_reducible refine (HAW.out _).mono ?_); rintro e w3 ⟨rfl, hb3⟩; have B3 := Lib.hid (B2.out.trans (lower hb3 B2.out.size)); clear hb3)
    go_ret
    exact ⟨rfl, B3.out⟩
  | true =>
    rw [hf] at HFW
    have HO := Lib.hid fun w (h : Below W.heap.size W w) => And.intro ((HR.out.1.below h).ok (fewB_mem hf (by simp))).1 ((HR.out.2.below h).ok (fewB_mem hf (by simp))).1
    obtain ⟨p, hp⟩ : ∃ p, p = diffP (tus a.ts) (tus b.ts) := ⟨_, rfl⟩
    have HOA := Lib.hid fun w (h : Below W.heap.size W w) => own10_any a w (HO.out w h).1
    have HOB := Lib.hid fun w (h : Below W.heap.size W w) => own10_any b w (HO.out w h).2
    have HU := Lib.hid fun w (h : Below W.heap.size W w) => rdiff_any a b w (HO.out w h).1 (HO.out w h).2
    have HD := Lib.hid fun (x y : LV) w (hx : x.Ok w) (hy : y.Ok w) (e1 : tus x.ts = tus a.ts) (e2 : tus y.ts = tus b.ts) => (by have := diff_any x y w hx hy; rw [e1, e2] at this; exact this : Calls Try.prog 22 #[.slice x.A x.ts.length x.c, .slice y.A y.ts.length y.c] w (DePost w (diffP (tus a.ts) (tus b.ts))))
    rw [← hp] at HU HD
    obtain ⟨pn, pP, pQ⟩ := p
    clear hf HR hp
    go_enter Try.func5, Try.ntmps5
    go_upto_region 5 with (first
      | (go_at_call 9; (with_reducible refine (HAW.out _).mono ?_); rintro e w1 ⟨rfl, hb1⟩; have B1 := Lib.hid hb1; have HF1 := Lib.hid (HFW.out w1 B1.out); clear hb1 HFW)
      | (go_at_call 10; (with_reducible refine HF1.out.mono ?_); rintro e w2 ⟨rfl, hb2⟩; have B2 := Lib.hid (B1.out.trans (lower hb2 B1.out.size)); have HOA2 := Lib.hid (HOA.out w2 B2.out); clear hb2 HF1 HOA)
      | (go_at_call 11; (with_reducible refine HOA2.out.mono ?_); rintro e w3 ⟨x3, rfl, q3, o3, e3, b3⟩; have B3 := Lib.hid (B2.out.trans (lower b3 B2.out.size)); have E3 := Lib.hid (And.intro o3 e3); have HOB3 := Lib.hid (HOB.out w3 B3.out); clear q3 o3 e3 b3 HOA2 HOB)
      | (go_at_call 11; (with_reducible refine HOB3.out.mono ?_); rintro e w4 ⟨x4, rfl, q4, o4, e4, b4⟩; have B4 := Lib.hid (B3.out.trans (lower b4 B3.out.size)); have E4 := Lib.hid (And.intro (E3.out.1.below b4) (And.intro E3.out.2 (And.intro o4 e4))); have HD4 := Lib.hid (HD.out x3 x4 w4 E4.out.1 o4 E3.out.2 e4); clear q4 o4 e4 b4 HOB3 HD E3)
      | (go_at_call 22; (with_reducible refine HD4.out.mono ?_); rintro e w5 ⟨x5, y5, m0, rfl, p1, p2, p30, p40, p50, p6, p7, p8, p9⟩; obtain ⟨m5, p3, p4, p5, pm5⟩ := de_fix p1 p30 p40 p50 p9.size; dsimp only at p7 p8 ⊢; have B5 := Lib.hid (B4.out.trans (lower p9 B4.out.size)); have D5 := Lib.hid p9; have MM5 : Hid (m5 ≤ w5.heap.size) := Lib.hid pm5; have E5 := Lib.hid (And.intro p1 (And.intro p2 (And.intro p3 (And.intro p4 (And.intro p5 (And.intro p6 (And.intro p7 p8))))))); clear p1 p2 p3 p4 p5 p6 p7 p8 p9 p30 p40 p50 pm5 HD4))
    have hb6 : Below w5.heap.size w5 (w5.alloc (.cells #[.slice x5.A x5.ts.length x5.c, .slice y5.A y5.ts.length y5.c] 35)) := (Below.refl _ _).alloc (Nat.le_refl _) _
    have hx6 := BoxD.new w5 x5 y5
    generalize w5.alloc (.cells #[.slice x5.A x5.ts.length x5.c, .slice y5.A y5.ts.length y5.c] 35) = w6 at hb6 hx6 ⊢
    have B6 := Lib.hid (B5.out.trans (lower hb6 B5.out.size))
    have HU6 := Lib.hid (HU.out w6 B6.out)
    have E6 := Lib.hid (And.intro hx6 hb6)
    clear hx6 hb6 HU B1 B2 B3
    go_upto_region 6 with (go_at_call 23; (with_reducible refine HU6.out.mono ?_); rintro e w7 ⟨x7, y7, rfl, p2, p6, p7, p8, p9⟩; dsimp only at p7 p8 ⊢; have B7 := Lib.hid (B6.out.trans (lower p9 B6.out.size)); have D7 := Lib.hid p9; have E7 := Lib.hid (And.intro p2 (And.intro p6 (And.intro p7 p8))); clear p2 p6 p7 p8 p9 HU6)
    have hb8 : Below w7.heap.size w7 (w7.alloc (.cells #[.slice x7.A x7.ts.length x7.c, .slice y7.A y7.ts.length y7.c] 35)) := (Below.refl _ _).alloc (Nat.le_refl _) _
    have hx8 := BoxD.new w7 x7 y7
    generalize w7.alloc (.cells #[.slice x7.A x7.ts.length x7.c, .slice y7.A y7.ts.length y7.c] 35) = w8 at hb8 hx8 ⊢
    have hb68 : Below w6.heap.size w6 w8 := D7.out.trans (lower hb8 D7.out.size)
    have hb58 : Below w5.heap.size w5 w8 := E6.out.2.trans (lower hb68 E6.out.2.size)
    have B8 := Lib.hid (B6.out.trans (lower hb68 B6.out.size))
    have G8 := Lib.hid (And.intro (E6.out.1.kept hb68) (And.intro hx8 (And.intro hb58 (lower (D5.out.trans (lower hb58 D5.out.size)) (Nat.le_refl _)))))
    have hsd := fun w (h : Below w8.heap.size w8 w) => sameD_any x5 y5 x7 y7 w ((E5.out.2.1.below hb58).below h) ((E5.out.2.2.2.2.2.1.below hb58).below h) ((E7.out.1.below hb8).below h) ((E7.out.2.1.below hb8).below h)
    have hd : decide (tus x5.ts = tus x7.ts ∧ tus y5.ts = tus y7.ts) = true := by rw [E5.out.2.2.2.2.2.2.1, E5.out.2.2.2.2.2.2.2, E7.out.2.2.1, E7.out.2.2.2]; simp
    rw [hd] at hsd
    have hlen : x5.ts.length = x7.ts.length ∧ y5.ts.length = y7.ts.length := by
      have f1 := congrArg List.length (E5.out.2.2.2.2.2.2.1.trans E7.out.2.2.1.symm)
      have f2 := congrArg List.length (E5.out.2.2.2.2.2.2.2.trans E7.out.2.2.2.symm)
      rw [tus_len, tus_len] at f1 f2
      exact ⟨f1, f2⟩
    have hs1 := E7.out.1.sm
    have hs2 := E7.out.2.1.sm
    obtain ⟨n1, hn1⟩ : ∃ n, n = x7.ts.length := ⟨_, rfl⟩
    obtain ⟨n2, hn2⟩ : ∃ n, n = y7.ts.length := ⟨_, rfl⟩
    have HSD := Lib.hid hsd
    have HEM := Lib.hid fun w => empty_any x5 y5 w
    rw [hlen.1, hlen.2] at HEM HSD
    rw [← hn1, ← hn2] at HEM HSD
    have hk := G8.out.1.cells
    have hk' := hx8.cells
    rw [hlen.1, hlen.2, ← hn1, ← hn2] at hk
    rw [← hn1, ← hn2] at hk'
    rw [← hn1] at hs1
    rw [← hn2] at hs2
    have HLN := Lib.hid (And.intro hlen (And.intro hn1 hn2))
    have hks := fun w (h : Below w8.heap.size w8 w) => And.intro (G8.out.1.kept h).cells (hx8.kept h).cells
    rw [hlen.1, hlen.2, ← hn1, ← hn2] at hks
    have KS := Lib.hid hks
    clear hks
    clear hsd hd hx8 hb8 hb68 hb58 hlen hn1 hn2
    have l5 := E5.out.1.lt
    have hrg := blksL_rng E5.out.1 E5.out.2.2.1
    have hrg' := blksL_rng E5.out.1 l5
    have hrgy := blksL_rng E5.out.2.2.2.2.1 E5.out.2.2.2.2.1.lt
    have h45 := D5.out.size
    have hm5 := E5.out.2.2.2.1
    have hsp := fun w (h : Below w8.heap.size w8 w) => spoil_any x5 w w4.heap.size ((E5.out.1.below G8.out.2.2.1).below h) (E5.out.2.1.sm) (Nat.le_trans h45 (Nat.le_trans G8.out.2.2.1.size h.size))
    have hsx := fun w (h : Below w8.heap.size w8 w) w' (hf : Fr w w' (blksL x5)) => And.intro (show w'.cell? ⟨w5.heap.size, 0, none⟩ = some (.slice x5.A x5.ts.length x5.c) ∧ w'.cell? ⟨w5.heap.size, 1, none⟩ = some (.slice y5.A y5.ts.length y5.c) by
        have hbx := G8.out.1.kept h
        have hbx' : BoxD w' w5.heap.size x5 y5 := (hf.block _ (heap_lt hbx) (fun hm => by have := (hrg' _ hm).2; omega)).trans hbx
        exact hbx'.cells) (Lib.hid (spoil_any y5 w' m5 (((E5.out.2.2.2.2.1.below G8.out.2.2.1).below h).fr hf fun s hs => (hrg s hs).2) (E5.out.2.2.2.2.2.1.sm) (by
        have h1 := ((E5.out.2.2.2.2.1.below G8.out.2.2.1).below h)
        have h2 := E5.out.1.lt
        have h3 := hf.size
        have h4 := h.size
        have h6 := G8.out.2.2.1.size
        have h7 := MM5.out
        omega)))
    have hsy := fun w (h : Below w8.heap.size w8 w) w1 w2 (hf : Fr w w1 (blksL x5)) (hf' : Fr w1 w2 (blksL y5)) => (show Below w4.heap.size w4 w2 from
      ((G8.out.2.2.2.trans (lower h (by have := G8.out.2.2.1.size; omega))).trans (hf.below (by have := G8.out.2.2.1.size; have := h.size; omega) fun s hs => (hrg s hs).1)).trans (hf'.below (by have := G8.out.2.2.1.size; have := h.size; have := hf.size; omega) fun s hs => Nat.le_trans hm5 (hrgy s hs).1))
    have hsm := fun w (h : Below w4.heap.size w4 w) => And.intro (same10_any x3 a w (E4.out.1.below h) (HO.out w (B4.out.trans (lower h B4.out.size))).1) (same10_any x4 b w (E4.out.2.2.1.below h) (HO.out w (B4.out.trans (lower h B4.out.size))).2)
    rw [E4.out.2.1, E4.out.2.2.2, decide_eq_true (rfl : tus a.ts = tus a.ts), decide_eq_true (rfl : tus b.ts = tus b.ts)] at hsm
    rw [HLN.out.1.1, HLN.out.1.2, ← HLN.out.2.1, ← HLN.out.2.2] at hsx
    rw [HLN.out.1.1, ← HLN.out.2.1] at hsp
    have HS10 := Lib.hid hsp
    have HSX := Lib.hid hsx
    have HSY := Lib.hid hsy
    have HSM := Lib.hid hsm
    have HSD0 := Lib.hid (HSD.out w8.drew (Below.refl _ _).drew)
    clear l5 hrg hrg' hrgy h45 hm5 hsp hsx hsy hsm HSD hk hk'
    by_cases h0 : n1 + n2 = 0
    · obtain rfl : n1 = 0 := by omega
      obtain rfl : n2 = 0 := by omega
      have hz : decide (0 + 0 = 0) = true := rfl
      rw [hz] at HEM
      clear hz h0
      have hk0 := KS.out w8.drew (Below.refl _ _).drew
      go_region_held3 (fun w => (w.cell? ⟨w5.heap.size, 0, none⟩ = some (.slice x5.A 0 x5.c) ∧ w.cell? ⟨w5.heap.size, 1, none⟩ = some (.slice y5.A 0 y5.c)) ∧ w.cell? ⟨w7.heap.size, 0, none⟩ = some (.slice x7.A 0 x7.c) ∧ w.cell? ⟨w7.heap.size, 1, none⟩ = some (.slice y7.A 0 y7.c))
        (first | (with_reducible assumption) | exact KS.out _ B10.out | exact KS.out _ B9.out | exact KS.out _ (Below.refl _ _).drew)
        (first
          | (go_at_call 24; (with_reducible refine HSD0.out.mono ?_); rintro e w9 ⟨rfl, hb9⟩; have B9 := Lib.hid ((Below.refl _ w8).drew.trans (hb9 : Below w8.heap.size _ _)); clear hb9 HSD0)
          | (go_at_call 25; (with_reducible refine (HEM.out w9).mono ?_); rintro e w10 ⟨rfl, hb10⟩; have B10 := Lib.hid (B9.out.trans (lower hb10 B9.out.size)); obtain ⟨⟨k0, k1⟩, _⟩ := KS.out w10 B10.out; have HSP := Lib.hid (HS10.out w10 B10.out); have HS11 := Lib.hid (HSX.out w10 B10.out); have HS12 := Lib.hid (HSY.out w10 B10.out); clear hb10))
      all_goals
        go_wp2_with (first
          | (go_at_call 19; (with_reducible refine HSP.out.mono ?_); rintro e w11 ⟨rfl, hf11⟩; have F11 := Lib.hid hf11; obtain ⟨⟨j0, j1⟩, HSQ⟩ := HS11.out w11 hf11; clear hf11 HSP)
          | (go_at_call 19; (with_reducible refine HSQ.out.mono ?_); rintro e w12 ⟨rfl, hf12⟩; have B12 := Lib.hid (HS12.out w11 w12 F11.out hf12); have HSA := Lib.hid (HSM.out w12 B12.out).1; clear hf12 HSQ)
          | (go_at_call 13; (with_reducible refine HSA.out.mono ?_); rintro e w13 ⟨rfl, hn13⟩; have B13 := Lib.hid (B12.out.trans (lower (below_drawn hn13) B12.out.size)); have HSB := Lib.hid (HSM.out w13 B13.out).2; clear hn13 HSA)
          | (go_at_call 13; (with_reducible refine HSB.out.mono ?_); rintro e w14 ⟨rfl, hn14⟩; have B14 := Lib.hid (B13.out.trans (lower (below_drawn hn14) B13.out.size)); clear hn14 HSB))
        go_ret
        exact ⟨rfl, B4.out.trans (lower B14.out B4.out.size)⟩
    · have hz : decide (n1 + n2 = 0) = false := decide_eq_false h0
      rw [hz] at HEM
      have hw : IntKind.i64.wrap ((n1 : Int) + (n2 : Int)) = (n1 : Int) + (n2 : Int) := IntWalk.i64_in _ (by omega)
      have hz' : ((n1 : Int) + (n2 : Int) == 0) = false := by rw [beq_eq_false_iff_ne]; omega
      clear hz h0
      have hk0 := KS.out w8.drew (Below.refl _ _).drew
      go_region_held3 (fun w => (w.cell? ⟨w5.heap.size, 0, none⟩ = some (.slice x5.A n1 x5.c) ∧ w.cell? ⟨w5.heap.size, 1, none⟩ = some (.slice y5.A n2 y5.c)) ∧ w.cell? ⟨w7.heap.size, 0, none⟩ = some (.slice x7.A n1 x7.c) ∧ w.cell? ⟨w7.heap.size, 1, none⟩ = some (.slice y7.A n2 y7.c))
        (first | (with_reducible assumption) | exact KS.out _ B10.out | exact KS.out _ B9.out | exact KS.out _ (Below.refl _ _).drew)
        (first
          | (go_at_call 24; (with_reducible refine HSD0.out.mono ?_); rintro e w9 ⟨rfl, hb9⟩; have B9 := Lib.hid ((Below.refl _ w8).drew.trans (hb9 : Below w8.heap.size _ _)); clear hb9 HSD0)
          | (go_at_call 25; (with_reducible refine (HEM.out w9).mono ?_); rintro e w10 ⟨rfl, hb10⟩; have B10 := Lib.hid (B9.out.trans (lower hb10 B9.out.size)); obtain ⟨⟨k0, k1⟩, _⟩ := KS.out w10 B10.out; have HSP := Lib.hid (HS10.out w10 B10.out); have HS11 := Lib.hid (HSX.out w10 B10.out); have HS12 := Lib.hid (HSY.out w10 B10.out); clear hb10))
      all_goals
        go_wp2_with (first
          | (go_at_call 19; (with_reducible refine HSP.out.mono ?_); rintro e w11 ⟨rfl, hf11⟩; have F11 := Lib.hid hf11; obtain ⟨⟨j0, j1⟩, HSQ⟩ := HS11.out w11 hf11; clear hf11 HSP)
          | (go_at_call 19; (with_reducible refine HSQ.out.mono ?_); rintro e w12 ⟨rfl, hf12⟩; have B12 := Lib.hid (HS12.out w11 w12 F11.out hf12); have HSA := Lib.hid (HSM.out w12 B12.out).1; clear hf12 HSQ)
          | (go_at_call 13; (with_reducible refine HSA.out.mono ?_); rintro e w13 ⟨rfl, hn13⟩; have B13 := Lib.hid (B12.out.trans (lower (below_drawn hn13) B12.out.size)); have HSB := Lib.hid (HSM.out w13 B13.out).2; clear hn13 HSA)
          | (go_at_call 13; (with_reducible refine HSB.out.mono ?_); rintro e w14 ⟨rfl, hn14⟩; have B14 := Lib.hid (B13.out.trans (lower (below_drawn hn14) B13.out.size)); clear hn14 HSB))
        go_ret
        exact ⟨rfl, B4.out.trans (lower B14.out B4.out.size)⟩
end Go.Proofs.Ytpfkkmfhafejfaa
