/- DiskPlays: the walk. -/
import Derived.Test.YtdiafgjlbbkhkaaPlayF
namespace Go.Proofs.Ytdiafgjlbbkhkaa
open Go.RowKit Go.Maps

set_option maxRecDepth 100000 in
set_option maxHeartbeats 4000000 in
theorem plays_small (n : Int) (m : Nat) (A : Option Addr) (L : List OpR) (c : Nat) (w : World) (hr : Rd w w.heap.size A (opsC L)) (ho : ∀ o ∈ L, o.ok w w.heap.size) (h1 : 1 ≤ m) (h40 : m ≤ 40) (hn : n = (m : Int)) :
    Calls Try.prog 3 #[.int .i64 (m : Int), .slice A L.length c] w fun e w' => e = .returned (.bool true) ∧ Below w.heap.size w w' := by
  have H1 := Lib.hid (fun W => awake_any W)
  have HR := Lib.hid hr
  have HO := Lib.hid ho
  have HM := Lib.hid (And.intro h1 h40)
  have hm40 : ¬ 40 < (m : Int) := by omega
  clear hr ho
  go_enter Try.func3, Try.ntmps3
  go_upto_region 5 with (first
    | (go_at_call 16; (refine (H1.out w).mono ?_); rintro e w1 ⟨rfl, hb1⟩)
    | go_in)
  go_upto_region 6 with (first
    | (go_at_call 17; (refine (newM m w1 (by have := HM.out; omega) (by have := HM.out; omega)).mono ?_); rintro e w2 ⟨rfl, hD, hF⟩)
    | go_in)
  have z1 := hb1.size
  have z2 := hF.size
  have lD := hD.lt
  have hb2 : Below w.heap.size w w2 := hb1.trans (hF.lower z1 (by simp))
  have HZ := Lib.hid (And.intro hb2 (And.intro hD (And.intro z1 lD)))
  clear hb1 hF z1 z2 lD hD hb2
  go_upto_region 7 with (first
    | (go_at_call 18; (refine (rnew_any w2 m [w1.heap.size + 2, w1.heap.size, w1.heap.size + 1] (by have := HZ.out.2.2.2; simp; omega) (by have := HM.out; omega) (by have := HM.out; omega)).mono ?_); rintro e w3 ⟨v3, rfl, hR3, hb3⟩; rw [← refOf_new] at hR3; have hR3' := hR3; obtain ⟨a1, a2, a3, d1, d2, d3, rfl, _, _, _⟩ := hR3)
    | go_in)
  obtain ⟨m1, hm1⟩ : ∃ m1, m1 = (refOf (DM.new m)).sure.length := ⟨_, rfl⟩
  obtain ⟨m2, hm2⟩ : ∃ m2, m2 = (refOf (DM.new m)).now.length := ⟨_, rfl⟩
  obtain ⟨m3, hm3⟩ : ∃ m3, m3 = (refOf (DM.new m)).fresh.length := ⟨_, rfl⟩
  obtain ⟨s3, hs3⟩ : ∃ s3, s3 = (refOf (DM.new m)).steps := ⟨_, rfl⟩
  obtain ⟨l3, hl3⟩ : ∃ l3, l3 = (refOf (DM.new m)).left := ⟨_, rfl⟩
  rw [← hm1, ← hm2, ← hm3, ← hs3, ← hl3] at hR3' ⊢
  have hPI : PlayIn w (w3.alloc (.cells #[.slice a1 m1 d1, .slice a2 m2 d2, .slice a3 m3 d3, .int .i64 s3, .int .i64 l3] 31)) w3.heap.size 0 m (.pointer (some ⟨w1.heap.size + 2, 0, none⟩)) := by
    have z3 := hb3.size
    have hba : Below w3.heap.size w3 (w3.alloc (.cells #[.slice a1 m1 d1, .slice a2 m2 d2, .slice a3 m3 d3, .int .i64 s3, .int .i64 l3] 31)) := (Below.refl _ _).alloc (Nat.le_refl _) _
    refine ⟨_, _, _, DM.new m, _, _, _, _, _, _, _, _, _, _, _, rfl, ⟨⟨(HZ.out.2.1.kept hb3).kept hba, hR3'.below hba, ⟨by show m ≤ _; have := HM.out; omega, by show 0 ≤ _; omega, by show 0 ≤ _; omega, by omega⟩⟩, ?_, ?_, ?_, Nat.le_refl _, HM.out.1⟩, rfl, heap_alloc_new w3 _, HZ.out.1.trans ((lower' hb3 HZ.out.1.size).trans (lower' hba (by have := HZ.out.1.size; omega)))⟩
    · have := HZ.out.2.2.1; omega
    · have := HZ.out.2.2.1; omega
    · have := HZ.out.2.2.1; omega
  have HPI := Lib.hid hPI
  have H3 := Lib.hid hb3.size
  clear hm1 hm2 hm3 hs3 hl3 hR3' hb3 hPI
  obtain ⟨b7, hb7⟩ : ∃ b7, b7 = w3.heap.size := ⟨_, rfl⟩
  rw [← hb7] at HPI ⊢
  generalize w3.alloc (.cells #[.slice a1 m1 d1, .slice a2 m2 d2, .slice a3 m3 d3, .int .i64 s3, .int .i64 l3] 31) = W7 at HPI ⊢
  have hb7l : w.heap.size ≤ b7 := by rw [hb7]; have := HZ.out.1.size; have := H3.out; omega
  have HB7 := Lib.hid hb7l
  clear hb7 hb7l H3
  go_wp2_with go_in
  go_loopw [5, 9, 10] (fun d i _ wr => ∃ k : Nat, k ≤ L.length ∧ k ≤ 80 ∧ i = .int .i64 (k : Int) ∧ PlayIn w wr b7 k m d)
    (fun _ i _ _ => L.length - (intOf i).toNat)
  case atStart => exact ⟨0, by omega, by omega, rfl, HPI.out⟩
  case round =>
    obtain ⟨k, hk, hk80, rfl, p, bs, bw, M, B1, B2, B3, n1, n2, n3, e1, e2, e3, s, l, rfl, hP, hMs, hg7, hbel⟩ := hrel
    by_cases hkl : k < L.length
    · by_cases hk8 : k < 80
      · have hkI : (k : Int) < (L.length : Int) := by omega
        have hkJ : (k : Int) < 80 := by omega
        obtain ⟨ab, ao, rfl, hab, hcell⟩ := op_cells HR.out hkl
        obtain ⟨o, hoe⟩ : ∃ o, o = L[k] := ⟨_, rfl⟩
        have hoo : o.ok wr w.heap.size := by rw [hoe]; exact (HO.out _ (List.getElem_mem hkl)).below hbel (Nat.le_refl _)
        obtain ⟨x0, x1, x2, x3, x4, x5⟩ := hcell wr hbel
        rw [← hoe] at x0 x1 x2 x3 x4 x5
        have hpl := play_any wr.drew w.heap.size k p bs bw M _ o (show Pair wr.drew w.heap.size k p bs bw M _ from ⟨⟨hP.both.disk, hP.both.ref, hP.both.ok⟩, hP.p, hP.bs, hP.bw, hP.steps, hP.pos⟩) ⟨hoo.n, hoo.b, hoo.keep, hoo.kc⟩ hbel.size (by omega)
        unfold OpR.v at hpl
        have HPL := Lib.hid hpl
        have y0 := cell_of_row wr b7 0 _ _ _ hg7
        have y1 := cell_of_row wr b7 1 _ _ _ hg7
        have y2 := cell_of_row wr b7 2 _ _ _ hg7
        have y3 := cell_of_row wr b7 3 _ _ _ hg7
        have y4 := cell_of_row wr b7 4 _ _ _ hg7
        have hoff := hP.both.disk.off hg7
        have HX := Lib.hid (And.intro hMs (And.intro hg7 (And.intro hbel (And.intro hkl hoff))))
        clear hcell hoe hoo hpl hP hMs hg7 hbel hkl hoff
        have y5 := cell_of_row wr b7 0 _ _ _ HX.out.2.1
        go_upto_region 13 with go_in
        go_region_with ((go_at_call 19; (with_reducible refine HPL.out.mono ?_); rintro e w5 ⟨p', bs', bw', M', v', rfl, hP', hsz', hbl', hfr'⟩; have g5 := (hfr'.block b7 (Array.getElem?_eq_some_iff.1 HX.out.2.1).1 (by have := HX.out.2.2.2.2; simp; omega)).trans HX.out.2.1; have hP5 := hP'; obtain ⟨⟨_, ⟨a1', a2', a3', d1', d2', d3', rfl, _, _, _⟩, _⟩, _, _, _, _, _⟩ := hP'; have f0 := frozen_of_row w5 b7 0 _ _ g5; have f1 := frozen_of_row w5 b7 1 _ _ g5; have f2 := frozen_of_row w5 b7 2 _ _ g5; have f3 := frozen_of_row w5 b7 3 _ _ g5; have f4 := frozen_of_row w5 b7 4 _ _ g5; have r0 := cell_of_row w5 b7 0 _ _ _ g5; have r1 := cell_of_row w5 b7 1 _ _ _ g5; have r2 := cell_of_row w5 b7 2 _ _ _ g5; have r3 := cell_of_row w5 b7 3 _ _ _ g5; have r4 := cell_of_row w5 b7 4 _ _ _ g5))
        all_goals
          obtain ⟨q1, hq1⟩ : ∃ q1, q1 = (refOf M').sure.length := ⟨_, rfl⟩
          obtain ⟨q2, hq2⟩ : ∃ q2, q2 = (refOf M').now.length := ⟨_, rfl⟩
          obtain ⟨q3, hq3⟩ : ∃ q3, q3 = (refOf M').fresh.length := ⟨_, rfl⟩
          obtain ⟨s4, hs4⟩ : ∃ s4, s4 = (refOf M').steps := ⟨_, rfl⟩
          obtain ⟨l4, hl4⟩ : ∃ l4, l4 = (refOf M').left := ⟨_, rfl⟩
          rw [← hq1, ← hq2, ← hq3, ← hs4, ← hl4] at hP5 ⊢
          have hf6 : Fr w5 (((((w5.setCell ⟨b7, 0, none⟩ (.slice a1' q1 d1')).setCell ⟨b7, 1, none⟩ (.slice a2' q2 d2')).setCell ⟨b7, 2, none⟩ (.slice a3' q3 d3')).setCell ⟨b7, 3, none⟩ (.int .i64 s4)).setCell ⟨b7, 4, none⟩ (.int .i64 l4)) [b7] := (((((Fr.refl _ _).setCell (by simp) _).setCell (by simp) _).setCell (by simp) _).setCell (by simp) _).setCell (by simp) _
          have g6 := set5 g5 (.slice a1' q1 d1') (.slice a2' q2 d2') (.slice a3' q3 d3') (.int .i64 s4) (.int .i64 l4)
          have hP6 := hP5.fr1 g5 hf6
          have hbl6 : Below w.heap.size w (((((w5.setCell ⟨b7, 0, none⟩ (.slice a1' q1 d1')).setCell ⟨b7, 1, none⟩ (.slice a2' q2 d2')).setCell ⟨b7, 2, none⟩ (.slice a3' q3 d3')).setCell ⟨b7, 3, none⟩ (.int .i64 s4)).setCell ⟨b7, 4, none⟩ (.int .i64 l4)) := (((((((HX.out.2.2.1.drew).trans hbl').setCell (by have := HB7.out; exact this) _).setCell (by have := HB7.out; exact this) _).setCell (by have := HB7.out; exact this) _).setCell (by have := HB7.out; exact this) _).setCell (by have := HB7.out; exact this) _)
          generalize (((((w5.setCell ⟨b7, 0, none⟩ (.slice a1' q1 d1')).setCell ⟨b7, 1, none⟩ (.slice a2' q2 d2')).setCell ⟨b7, 2, none⟩ (.slice a3' q3 d3')).setCell ⟨b7, 3, none⟩ (.int .i64 s4)).setCell ⟨b7, 4, none⟩ (.int .i64 l4)) = w6 at hf6 g6 hP6 hbl6 ⊢
          have htl := tells_any w6 p' bs' bw' (k + 1) M' _ hP6.both
          have HTL := Lib.hid htl
          have c0 := cell_of_row w6 b7 0 _ _ _ g6
          have c1 := cell_of_row w6 b7 1 _ _ _ g6
          have c2 := cell_of_row w6 b7 2 _ _ _ g6
          have c3 := cell_of_row w6 b7 3 _ _ _ g6
          have c4 := cell_of_row w6 b7 4 _ _ _ g6
          have HY := Lib.hid (And.intro hP6 (And.intro g6 (And.intro hbl6 (hsz'.trans HX.out.1))))
          clear hP5 hf6 g6 hP6 hbl6 htl hsz' hbl' hfr' g5 r0 r1 r2 r3 r4 f0 f1 f2 f3 f4 y0 y1 y2 y3 y4 y5 x0 x1 x2 x3 x4 x5 hq1 hq2 hq3 hs4 hl4
          go_wp2_with (first
            | (go_at_call 20; (with_reducible refine HTL.out.mono ?_); rintro e w7 ⟨rfl, hb8⟩)
            | go_in)
          have hlt : b7 < w6.heap.size := (Array.getElem?_eq_some_iff.1 HY.out.2.1).1
          have hPn : Pair w7 w.heap.size (k + 1) p' bs' bw' M' _ := ⟨⟨HY.out.1.both.disk.kept hb8, HY.out.1.both.ref.below hb8, HY.out.1.both.ok⟩, HY.out.1.p, HY.out.1.bs, HY.out.1.bw, HY.out.1.steps, HY.out.1.pos⟩
          exact ⟨⟨k + 1, HX.out.2.2.2.1, by omega, by simp, p', bs', bw', M', _, _, _, _, _, _, _, _, _, _, _, rfl, hPn, HY.out.2.2.2, (hb8.block b7 hlt).trans HY.out.2.1, HY.out.2.2.1.trans (lower' hb8 HY.out.2.2.1.size)⟩, by simp [intOf]; have := HX.out.2.2.2.1; omega⟩
      · obtain rfl : k = 80 := by omega
        have hkI : (80 : Int) < (L.length : Int) := by omega
        have HX := Lib.hid hbel
        clear hP hMs hg7 hbel hkl
        go_wp2_with go_in
        go_ret
        exact ⟨rfl, HX.out⟩
    · obtain rfl : k = L.length := by omega
      have HX := Lib.hid hbel
      clear hP hMs hg7 hbel hkl
      go_wp2_with go_in
      go_ret
      exact ⟨rfl, HX.out⟩

set_option maxRecDepth 100000 in
set_option maxHeartbeats 4000000 in
theorem plays_big (n : Int) (A : Option Addr) (L : List OpR) (c : Nat) (w : World) (hr : Rd w w.heap.size A (opsC L)) (ho : ∀ o ∈ L, o.ok w w.heap.size) (hn : 40 < n) (hn2 : n ≤ 4096) :
    Calls Try.prog 3 #[.int .i64 n, .slice A L.length c] w fun e w' => e = .returned (.bool true) ∧ Below w.heap.size w w' := by
  have H1 := Lib.hid (fun W => awake_any W)
  have HR := Lib.hid hr
  have HO := Lib.hid ho
  have HM := Lib.hid (And.intro (show 1 ≤ 40 by omega) (show 40 ≤ 40 by omega))
  clear hr ho
  go_enter Try.func3, Try.ntmps3
  go_upto_region 5 with (first
    | (go_at_call 16; (refine (H1.out w).mono ?_); rintro e w1 ⟨rfl, hb1⟩)
    | go_in)
  go_upto_region 6 with (first
    | (go_at_call 17; (refine (newM 40 w1 (by have := HM.out; omega) (by have := HM.out; omega)).mono ?_); rintro e w2 ⟨rfl, hD, hF⟩)
    | go_in)
  have z1 := hb1.size
  have z2 := hF.size
  have lD := hD.lt
  have hb2 : Below w.heap.size w w2 := hb1.trans (hF.lower z1 (by simp))
  have HZ := Lib.hid (And.intro hb2 (And.intro hD (And.intro z1 lD)))
  clear hb1 hF z1 z2 lD hD hb2
  go_upto_region 7 with (first
    | (go_at_call 18; (refine (rnew_any w2 40 [w1.heap.size + 2, w1.heap.size, w1.heap.size + 1] (by have := HZ.out.2.2.2; simp; omega) (by have := HM.out; omega) (by have := HM.out; omega)).mono ?_); rintro e w3 ⟨v3, rfl, hR3, hb3⟩; rw [← refOf_new] at hR3; have hR3' := hR3; obtain ⟨a1, a2, a3, d1, d2, d3, rfl, _, _, _⟩ := hR3)
    | go_in)
  obtain ⟨m1, hm1⟩ : ∃ m1, m1 = (refOf (DM.new 40)).sure.length := ⟨_, rfl⟩
  obtain ⟨m2, hm2⟩ : ∃ m2, m2 = (refOf (DM.new 40)).now.length := ⟨_, rfl⟩
  obtain ⟨m3, hm3⟩ : ∃ m3, m3 = (refOf (DM.new 40)).fresh.length := ⟨_, rfl⟩
  obtain ⟨s3, hs3⟩ : ∃ s3, s3 = (refOf (DM.new 40)).steps := ⟨_, rfl⟩
  obtain ⟨l3, hl3⟩ : ∃ l3, l3 = (refOf (DM.new 40)).left := ⟨_, rfl⟩
  rw [← hm1, ← hm2, ← hm3, ← hs3, ← hl3] at hR3' ⊢
  have hPI : PlayIn w (w3.alloc (.cells #[.slice a1 m1 d1, .slice a2 m2 d2, .slice a3 m3 d3, .int .i64 s3, .int .i64 l3] 31)) w3.heap.size 0 40 (.pointer (some ⟨w1.heap.size + 2, 0, none⟩)) := by
    have z3 := hb3.size
    have hba : Below w3.heap.size w3 (w3.alloc (.cells #[.slice a1 m1 d1, .slice a2 m2 d2, .slice a3 m3 d3, .int .i64 s3, .int .i64 l3] 31)) := (Below.refl _ _).alloc (Nat.le_refl _) _
    refine ⟨_, _, _, DM.new 40, _, _, _, _, _, _, _, _, _, _, _, rfl, ⟨⟨(HZ.out.2.1.kept hb3).kept hba, hR3'.below hba, ⟨by show 40 ≤ _; have := HM.out; omega, by show 0 ≤ _; omega, by show 0 ≤ _; omega, by omega⟩⟩, ?_, ?_, ?_, Nat.le_refl _, HM.out.1⟩, rfl, heap_alloc_new w3 _, HZ.out.1.trans ((lower' hb3 HZ.out.1.size).trans (lower' hba (by have := HZ.out.1.size; omega)))⟩
    · have := HZ.out.2.2.1; omega
    · have := HZ.out.2.2.1; omega
    · have := HZ.out.2.2.1; omega
  have HPI := Lib.hid hPI
  have H3 := Lib.hid hb3.size
  clear hm1 hm2 hm3 hs3 hl3 hR3' hb3 hPI
  obtain ⟨b7, hb7⟩ : ∃ b7, b7 = w3.heap.size := ⟨_, rfl⟩
  rw [← hb7] at HPI ⊢
  generalize w3.alloc (.cells #[.slice a1 m1 d1, .slice a2 m2 d2, .slice a3 m3 d3, .int .i64 s3, .int .i64 l3] 31) = W7 at HPI ⊢
  have hb7l : w.heap.size ≤ b7 := by rw [hb7]; have := HZ.out.1.size; have := H3.out; omega
  have HB7 := Lib.hid hb7l
  clear hb7 hb7l H3
  go_wp2_with go_in
  go_loopw [5, 9, 10] (fun d i _ wr => ∃ k : Nat, k ≤ L.length ∧ k ≤ 80 ∧ i = .int .i64 (k : Int) ∧ PlayIn w wr b7 k 40 d)
    (fun _ i _ _ => L.length - (intOf i).toNat)
  case atStart => exact ⟨0, by omega, by omega, rfl, HPI.out⟩
  case round =>
    obtain ⟨k, hk, hk80, rfl, p, bs, bw, M, B1, B2, B3, n1, n2, n3, e1, e2, e3, s, l, rfl, hP, hMs, hg7, hbel⟩ := hrel
    by_cases hkl : k < L.length
    · by_cases hk8 : k < 80
      · have hkI : (k : Int) < (L.length : Int) := by omega
        have hkJ : (k : Int) < 80 := by omega
        obtain ⟨ab, ao, rfl, hab, hcell⟩ := op_cells HR.out hkl
        obtain ⟨o, hoe⟩ : ∃ o, o = L[k] := ⟨_, rfl⟩
        have hoo : o.ok wr w.heap.size := by rw [hoe]; exact (HO.out _ (List.getElem_mem hkl)).below hbel (Nat.le_refl _)
        obtain ⟨x0, x1, x2, x3, x4, x5⟩ := hcell wr hbel
        rw [← hoe] at x0 x1 x2 x3 x4 x5
        have hpl := play_any wr.drew w.heap.size k p bs bw M _ o (show Pair wr.drew w.heap.size k p bs bw M _ from ⟨⟨hP.both.disk, hP.both.ref, hP.both.ok⟩, hP.p, hP.bs, hP.bw, hP.steps, hP.pos⟩) ⟨hoo.n, hoo.b, hoo.keep, hoo.kc⟩ hbel.size (by omega)
        unfold OpR.v at hpl
        have HPL := Lib.hid hpl
        have y0 := cell_of_row wr b7 0 _ _ _ hg7
        have y1 := cell_of_row wr b7 1 _ _ _ hg7
        have y2 := cell_of_row wr b7 2 _ _ _ hg7
        have y3 := cell_of_row wr b7 3 _ _ _ hg7
        have y4 := cell_of_row wr b7 4 _ _ _ hg7
        have hoff := hP.both.disk.off hg7
        have HX := Lib.hid (And.intro hMs (And.intro hg7 (And.intro hbel (And.intro hkl hoff))))
        clear hcell hoe hoo hpl hP hMs hg7 hbel hkl hoff
        have y5 := cell_of_row wr b7 0 _ _ _ HX.out.2.1
        go_upto_region 13 with go_in
        go_region_with ((go_at_call 19; (with_reducible refine HPL.out.mono ?_); rintro e w5 ⟨p', bs', bw', M', v', rfl, hP', hsz', hbl', hfr'⟩; have g5 := (hfr'.block b7 (Array.getElem?_eq_some_iff.1 HX.out.2.1).1 (by have := HX.out.2.2.2.2; simp; omega)).trans HX.out.2.1; have hP5 := hP'; obtain ⟨⟨_, ⟨a1', a2', a3', d1', d2', d3', rfl, _, _, _⟩, _⟩, _, _, _, _, _⟩ := hP'; have f0 := frozen_of_row w5 b7 0 _ _ g5; have f1 := frozen_of_row w5 b7 1 _ _ g5; have f2 := frozen_of_row w5 b7 2 _ _ g5; have f3 := frozen_of_row w5 b7 3 _ _ g5; have f4 := frozen_of_row w5 b7 4 _ _ g5; have r0 := cell_of_row w5 b7 0 _ _ _ g5; have r1 := cell_of_row w5 b7 1 _ _ _ g5; have r2 := cell_of_row w5 b7 2 _ _ _ g5; have r3 := cell_of_row w5 b7 3 _ _ _ g5; have r4 := cell_of_row w5 b7 4 _ _ _ g5))
        all_goals
          obtain ⟨q1, hq1⟩ : ∃ q1, q1 = (refOf M').sure.length := ⟨_, rfl⟩
          obtain ⟨q2, hq2⟩ : ∃ q2, q2 = (refOf M').now.length := ⟨_, rfl⟩
          obtain ⟨q3, hq3⟩ : ∃ q3, q3 = (refOf M').fresh.length := ⟨_, rfl⟩
          obtain ⟨s4, hs4⟩ : ∃ s4, s4 = (refOf M').steps := ⟨_, rfl⟩
          obtain ⟨l4, hl4⟩ : ∃ l4, l4 = (refOf M').left := ⟨_, rfl⟩
          rw [← hq1, ← hq2, ← hq3, ← hs4, ← hl4] at hP5 ⊢
          have hf6 : Fr w5 (((((w5.setCell ⟨b7, 0, none⟩ (.slice a1' q1 d1')).setCell ⟨b7, 1, none⟩ (.slice a2' q2 d2')).setCell ⟨b7, 2, none⟩ (.slice a3' q3 d3')).setCell ⟨b7, 3, none⟩ (.int .i64 s4)).setCell ⟨b7, 4, none⟩ (.int .i64 l4)) [b7] := (((((Fr.refl _ _).setCell (by simp) _).setCell (by simp) _).setCell (by simp) _).setCell (by simp) _).setCell (by simp) _
          have g6 := set5 g5 (.slice a1' q1 d1') (.slice a2' q2 d2') (.slice a3' q3 d3') (.int .i64 s4) (.int .i64 l4)
          have hP6 := hP5.fr1 g5 hf6
          have hbl6 : Below w.heap.size w (((((w5.setCell ⟨b7, 0, none⟩ (.slice a1' q1 d1')).setCell ⟨b7, 1, none⟩ (.slice a2' q2 d2')).setCell ⟨b7, 2, none⟩ (.slice a3' q3 d3')).setCell ⟨b7, 3, none⟩ (.int .i64 s4)).setCell ⟨b7, 4, none⟩ (.int .i64 l4)) := (((((((HX.out.2.2.1.drew).trans hbl').setCell (by have := HB7.out; exact this) _).setCell (by have := HB7.out; exact this) _).setCell (by have := HB7.out; exact this) _).setCell (by have := HB7.out; exact this) _).setCell (by have := HB7.out; exact this) _)
          generalize (((((w5.setCell ⟨b7, 0, none⟩ (.slice a1' q1 d1')).setCell ⟨b7, 1, none⟩ (.slice a2' q2 d2')).setCell ⟨b7, 2, none⟩ (.slice a3' q3 d3')).setCell ⟨b7, 3, none⟩ (.int .i64 s4)).setCell ⟨b7, 4, none⟩ (.int .i64 l4)) = w6 at hf6 g6 hP6 hbl6 ⊢
          have htl := tells_any w6 p' bs' bw' (k + 1) M' _ hP6.both
          have HTL := Lib.hid htl
          have c0 := cell_of_row w6 b7 0 _ _ _ g6
          have c1 := cell_of_row w6 b7 1 _ _ _ g6
          have c2 := cell_of_row w6 b7 2 _ _ _ g6
          have c3 := cell_of_row w6 b7 3 _ _ _ g6
          have c4 := cell_of_row w6 b7 4 _ _ _ g6
          have HY := Lib.hid (And.intro hP6 (And.intro g6 (And.intro hbl6 (hsz'.trans HX.out.1))))
          clear hP5 hf6 g6 hP6 hbl6 htl hsz' hbl' hfr' g5 r0 r1 r2 r3 r4 f0 f1 f2 f3 f4 y0 y1 y2 y3 y4 y5 x0 x1 x2 x3 x4 x5 hq1 hq2 hq3 hs4 hl4
          go_wp2_with (first
            | (go_at_call 20; (with_reducible refine HTL.out.mono ?_); rintro e w7 ⟨rfl, hb8⟩)
            | go_in)
          have hlt : b7 < w6.heap.size := (Array.getElem?_eq_some_iff.1 HY.out.2.1).1
          have hPn : Pair w7 w.heap.size (k + 1) p' bs' bw' M' _ := ⟨⟨HY.out.1.both.disk.kept hb8, HY.out.1.both.ref.below hb8, HY.out.1.both.ok⟩, HY.out.1.p, HY.out.1.bs, HY.out.1.bw, HY.out.1.steps, HY.out.1.pos⟩
          exact ⟨⟨k + 1, HX.out.2.2.2.1, by omega, by simp, p', bs', bw', M', _, _, _, _, _, _, _, _, _, _, _, rfl, hPn, HY.out.2.2.2, (hb8.block b7 hlt).trans HY.out.2.1, HY.out.2.2.1.trans (lower' hb8 HY.out.2.2.1.size)⟩, by simp [intOf]; have := HX.out.2.2.2.1; omega⟩
      · obtain rfl : k = 80 := by omega
        have hkI : (80 : Int) < (L.length : Int) := by omega
        have HX := Lib.hid hbel
        clear hP hMs hg7 hbel hkl
        go_wp2_with go_in
        go_ret
        exact ⟨rfl, HX.out⟩
    · obtain rfl : k = L.length := by omega
      have HX := Lib.hid hbel
      clear hP hMs hg7 hbel hkl
      go_wp2_with go_in
      go_ret
      exact ⟨rfl, HX.out⟩

set_option maxRecDepth 100000 in
set_option maxHeartbeats 4000000 in
theorem plays_bad (n : Int) (A : Option Addr) (L : List OpR) (c : Nat) (w : World) (hn : n < 1 ∨ 4096 < n) :
    Calls Try.prog 3 #[.int .i64 n, .slice A L.length c] w fun e w' => e = .returned (.bool true) ∧ Below w.heap.size w w' := by
  have H1 := Lib.hid (fun W => awake_any W)
  have HN := Lib.hid hn
  have hcase : ¬ 40 < n ∨ 4096 < n := by omega
  clear hn
  rcases hcase with h40 | h40
  · go_enter Try.func3, Try.ntmps3
    go_upto_region 5 with (first
      | (go_at_call 16; (refine (H1.out w).mono ?_); rintro e w1 ⟨rfl, hb1⟩)
      | go_in)
    go_upto_region 7 with (first
      | (go_at_call 17; (refine (new_bad n w1 HN.out).mono ?_); rintro e w2 ⟨rfl, rfl⟩)
      | (go_at_call 18; (refine (rnew_bad n w1 HN.out).mono ?_); rintro e w3 ⟨rfl, hb3⟩)
      | go_in)
    have hb7 : Below w.heap.size w (w3.alloc (.cells #[.slice none 0 0, .slice none 0 0, .slice none 0 0, .int .i64 0, .int .i64 0] 31)) := (hb1.trans (lower' hb3 hb1.size)).alloc (by have := hb1.size; have := hb3.size; omega) _
    generalize w3.alloc (.cells #[.slice none 0 0, .slice none 0 0, .slice none 0 0, .int .i64 0, .int .i64 0] 31) = W7 at hb7 ⊢
    have HB := Lib.hid hb7
    clear hb7 hb1 hb3
    go_wp2_with go_in
    go_loopw [5, 9, 10] (fun d i _ wr => i = .int .i64 0 ∧ d = .pointer none ∧ Below w.heap.size w wr)
      (fun _ _ _ _ => 0)
    case atStart => exact ⟨rfl, rfl, HB.out⟩
    case round =>
      obtain ⟨rfl, rfl, hb⟩ := hrel
      go_wp2_with go_in
      go_ret
      exact ⟨rfl, hb⟩
  · go_enter Try.func3, Try.ntmps3
    go_upto_region 5 with (first
      | (go_at_call 16; (refine (H1.out w).mono ?_); rintro e w1 ⟨rfl, hb1⟩)
      | go_in)
    go_upto_region 7 with (first
      | (go_at_call 17; (refine (new_bad n w1 HN.out).mono ?_); rintro e w2 ⟨rfl, rfl⟩)
      | (go_at_call 18; (refine (rnew_bad n w1 HN.out).mono ?_); rintro e w3 ⟨rfl, hb3⟩)
      | go_in)
    have hb7 : Below w.heap.size w (w3.alloc (.cells #[.slice none 0 0, .slice none 0 0, .slice none 0 0, .int .i64 0, .int .i64 0] 31)) := (hb1.trans (lower' hb3 hb1.size)).alloc (by have := hb1.size; have := hb3.size; omega) _
    generalize w3.alloc (.cells #[.slice none 0 0, .slice none 0 0, .slice none 0 0, .int .i64 0, .int .i64 0] 31) = W7 at hb7 ⊢
    have HB := Lib.hid hb7
    clear hb7 hb1 hb3
    go_wp2_with go_in
    go_loopw [5, 9, 10] (fun d i _ wr => i = .int .i64 0 ∧ d = .pointer none ∧ Below w.heap.size w wr)
      (fun _ _ _ _ => 0)
    case atStart => exact ⟨rfl, rfl, HB.out⟩
    case round =>
      obtain ⟨rfl, rfl, hb⟩ := hrel
      go_wp2_with go_in
      go_ret
      exact ⟨rfl, hb⟩

theorem diskPlays_walk (n : Int) (A : Option Addr) (L : List OpR) (c : Nat) (w : World) (hr : Rd w w.heap.size A (opsC L)) (ho : ∀ o ∈ L, o.ok w w.heap.size) :
    Calls Try.prog 3 #[.int .i64 n, .slice A L.length c] w fun e w' => e = .returned (.bool true) ∧ Below w.heap.size w w' := by
  by_cases h1 : n < 1 ∨ 4096 < n
  · exact plays_bad n A L c w h1
  · by_cases h2 : 40 < n
    · exact plays_big n A L c w hr ho h2 (by omega)
    · obtain ⟨m, rfl⟩ : ∃ m : Nat, n = m := ⟨n.toNat, by omega⟩
      exact plays_small m m A L c w hr ho (by omega) (by omega) rfl
end Go.Proofs.Ytdiafgjlbbkhkaa
