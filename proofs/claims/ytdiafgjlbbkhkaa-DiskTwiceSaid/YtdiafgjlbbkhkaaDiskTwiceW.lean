/- DiskTwice: plain facts on disks; the walk. -/
import Derived.Test.YtdiafgjlbbkhkaaPlayG
namespace Go.Proofs.Ytdiafgjlbbkhkaa
open Go.RowKit Go.Maps

theorem OpR.ok.more {o : OpR} {w : World} {B C : Nat} (h : o.ok w B) (hB : B ≤ C) : o.ok w C := ⟨h.n, ⟨h.b.1.more hB, h.b.2⟩, h.keep.more hB, h.kc⟩
theorem left1_none {M : DM} {i : Nat} (h : M.wr i = none) (keep : List Bool) (torn cut : Int) : M.left1 keep torn cut i = M.sure i := by unfold DM.left1; rw [h]
theorem armed_get (M : DM) (n : Int) (i : Nat) : (M.armM n).get i = M.get i := by
  unfold DM.armM
  split
  · rfl
  · split <;> rfl
theorem armed_sure (M : DM) (n : Int) (i : Nat) : (M.armM n).sure i = M.sure i ∧ (M.armM n).wr i = M.wr i ∧ (M.armM n).size = M.size ∧ (M.armM n).steps = M.steps := by
  unfold DM.armM
  split
  · exact ⟨rfl, rfl, rfl, rfl⟩
  · split <;> exact ⟨rfl, rfl, rfl, rfl⟩
theorem readZ {w : World} {p bs bw T : Nat} {M : DM} (h : DiskM w p bs bw M T) (hz : M.size ≤ 4096) (hi : 0 < M.size) :
    Calls Try.prog 25 #[.pointer (some ⟨p, 0, none⟩), .int .i64 0] w fun e w' => ∃ g, e = .returned (.tuple #[.slice (some ⟨g, 0, none⟩) 64 64, .int .i64 0]) ∧ w.heap.size ≤ g ∧ g < w'.heap.size ∧ Rd w' w'.heap.size (some ⟨g, 0, none⟩) (u8s (M.get 0)) ∧ (M.get 0).length = 64 ∧ Below w.heap.size w w' := readC (i := 0) h hz hi
/-- A crash of what a crash left: each sector but the one that is written is the same. -/
theorem twice_get (M : DM) (h9 : M.size = 9) (keep : List Bool) (x y : Int) {i : Nat} (hi : 1 ≤ i) (h : i < 9) :
    ((M.crashed keep x y).armM 0).get i = (((M.crashed keep x y).crashed keep y x).writeM 0 (bytesL [5])).get i := by
  have hp := write_plain (M := (M.crashed keep x y).crashed keep y x) (i := 0) (l := bytesL [5]) rfl (by show 0 < M.size; omega) (bytesL_len _)
  have e2 : (((M.crashed keep x y).crashed keep y x).writeM ((0 : Nat) : Int) (bytesL [5])) = _ := hp.2
  rw [armed_get, show (0 : Int) = ((0 : Nat) : Int) from rfl, e2]
  show (M.crashed keep x y).get i = ((if i = 0 then some (bytesL [5]) else none)).getD (((M.crashed keep x y).crashed keep y x).sure i)
  rw [if_neg (by omega)]
  show M.left1 keep x y i = (M.crashed keep x y).left1 keep y x i
  rw [left1_none (M := M.crashed keep x y) rfl]
  rfl
theorem twice_zero (M : DM) (keep : List Bool) (x y : Int) : ((M.crashed keep x y).armM 0).get 0 = (((M.crashed keep x y).armM 0).crashed [] 0 64).get 0 := by
  rw [armed_get]
  show M.left1 keep x y 0 = ((M.crashed keep x y).armM 0).left1 [] 0 64 0
  rw [left1_none ((armed_sure _ _ _).2.1.trans rfl), (armed_sure _ _ _).1]
  rfl
theorem twice_arm (M : DM) (keep : List Bool) (x y : Int) : (M.crashed keep x y).armE 0 = 0 := by
  unfold DM.armE
  rw [if_neg (by omega), unarmed (M := M.crashed keep x y) rfl]
  rfl
theorem twice_write (M : DM) (h9 : M.size = 9) (keep : List Bool) (x y : Int) : ((M.crashed keep x y).crashed keep y x).writeE 0 (bytesL [5]) = 0 :=
  (write_plain (M := (M.crashed keep x y).crashed keep y x) (i := 0) (l := bytesL [5]) rfl (by show 0 < M.size; omega) (bytesL_len _)).1

set_option maxRecDepth 100000 in
set_option maxHeartbeats 4000000 in
theorem diskTwice_walk (A : Option Addr) (L : List OpR) (c : Nat) (A2 : Option Addr) (keep : List Bool) (c2 : Nat) (x y : Int) (w : World) (hr : Rd w w.heap.size A (opsC L)) (ho : ∀ o ∈ L, o.ok w w.heap.size) (hr2 : Rd w w.heap.size A2 (keep.map Value.bool)) :
    Calls Try.prog 4 #[.slice A L.length c, .slice A2 keep.length c2, .agg #[.int .i64 x, .int .i64 y]] w fun e w' => e = .returned (.bool true) ∧ Below w.heap.size w w' := by
  have hB0 : Below w.heap.size w (w.alloc (.cells #[.int .i64 x, .int .i64 y] 41)) := (Below.refl _ _).alloc (Nat.le_refl _) _
  have g5 : (w.alloc (.cells #[.int .i64 x, .int .i64 y] 41)).heap[w.heap.size]? = some (.cells #[.int .i64 x, .int .i64 y] 41) := heap_alloc_new w _
  have s0 : (w.alloc (.cells #[.int .i64 x, .int .i64 y] 41)).heap.size = w.heap.size + 1 := by simp
  have hr0 := (hr.below hB0 (Nat.le_refl _)).more (B' := (w.alloc (.cells #[.int .i64 x, .int .i64 y] 41)).heap.size) (by omega)
  have hr20 := (hr2.below hB0 (Nat.le_refl _)).more (B' := (w.alloc (.cells #[.int .i64 x, .int .i64 y] 41)).heap.size) (by omega)
  have ho0 : ∀ o ∈ L, o.ok (w.alloc (.cells #[.int .i64 x, .int .i64 y] 41)) (w.alloc (.cells #[.int .i64 x, .int .i64 y] 41)).heap.size := fun o h => ((ho o h).below hB0 (Nat.le_refl _)).more (by omega)
  have H1 := Lib.hid (fun W => awake_any W)
  have HR := Lib.hid hr0
  have HR2 := Lib.hid hr20
  have HO := Lib.hid ho0
  have HB0 := Lib.hid (And.intro hB0 (And.intro g5 s0))
  clear hr hr2 ho hB0 g5 s0 hr0 hr20 ho0
  go_enter Try.func4, Try.ntmps4
  go_upto_region 1 with go_in
  generalize w.alloc (.cells #[.int .i64 x, .int .i64 y] 41) = W0 at HB0 HR HR2 HO ⊢
  go_upto_region 3 with (first
    | (go_at_call 16; (refine (H1.out W0).mono ?_); rintro e w1 ⟨rfl, hb1⟩)
    | go_in)
  go_upto_region 4 with (first
    | (go_at_call 17; (refine (newM 9 w1 (by omega) (by omega)).mono ?_); rintro e w2 ⟨rfl, hD, hF⟩)
    | go_in)
  have z1 := hb1.size
  have z2 := hF.size
  have lD := hD.lt
  have hb2 : Below W0.heap.size W0 w2 := hb1.trans (hF.lower z1 (by simp))
  have HZ := Lib.hid (And.intro hb2 (And.intro hD (And.intro z1 lD)))
  clear hb1 hF z1 z2 lD hD hb2
  go_upto_region 5 with (first
    | (go_at_call 18; (refine (rnew_any w2 9 [w1.heap.size + 2, w1.heap.size, w1.heap.size + 1] (by have := HZ.out.2.2.2; simp; omega) (by omega) (by omega)).mono ?_); rintro e w3 ⟨v3, rfl, hR3, hb3⟩; rw [← refOf_new] at hR3; have hR3' := hR3; obtain ⟨a1, a2, a3, d1, d2, d3, rfl, _, _, _⟩ := hR3)
    | go_in)
  obtain ⟨m1, hm1⟩ : ∃ m1, m1 = (refOf (DM.new 9)).sure.length := ⟨_, rfl⟩
  obtain ⟨m2, hm2⟩ : ∃ m2, m2 = (refOf (DM.new 9)).now.length := ⟨_, rfl⟩
  obtain ⟨m3, hm3⟩ : ∃ m3, m3 = (refOf (DM.new 9)).fresh.length := ⟨_, rfl⟩
  obtain ⟨s3, hs3⟩ : ∃ s3, s3 = (refOf (DM.new 9)).steps := ⟨_, rfl⟩
  obtain ⟨l3, hl3⟩ : ∃ l3, l3 = (refOf (DM.new 9)).left := ⟨_, rfl⟩
  rw [← hm1, ← hm2, ← hm3, ← hs3, ← hl3] at hR3' ⊢
  have hPI : PlayIn W0 (w3.alloc (.cells #[.slice a1 m1 d1, .slice a2 m2 d2, .slice a3 m3 d3, .int .i64 s3, .int .i64 l3] 31)) w3.heap.size 0 9 (.pointer (some ⟨w1.heap.size + 2, 0, none⟩)) := by
    have z3 := hb3.size
    have hba : Below w3.heap.size w3 (w3.alloc (.cells #[.slice a1 m1 d1, .slice a2 m2 d2, .slice a3 m3 d3, .int .i64 s3, .int .i64 l3] 31)) := (Below.refl _ _).alloc (Nat.le_refl _) _
    refine ⟨_, _, _, DM.new 9, _, _, _, _, _, _, _, _, _, _, _, rfl, ⟨⟨(HZ.out.2.1.kept hb3).kept hba, hR3'.below hba, ⟨by show 9 ≤ _; omega, by show 0 ≤ _; omega, by show 0 ≤ _; omega, by omega⟩⟩, ?_, ?_, ?_, Nat.le_refl _, (by show 0 < 9; omega)⟩, rfl, heap_alloc_new w3 _, HZ.out.1.trans ((lower' hb3 HZ.out.1.size).trans (lower' hba (by have := HZ.out.1.size; omega)))⟩
    · have := HZ.out.2.2.1; omega
    · have := HZ.out.2.2.1; omega
    · have := HZ.out.2.2.1; omega
  have HPI := Lib.hid hPI
  have H3 := Lib.hid hb3.size
  clear hm1 hm2 hm3 hs3 hl3 hR3' hb3 hPI
  obtain ⟨b7, hb7⟩ : ∃ b7, b7 = w3.heap.size := ⟨_, rfl⟩
  rw [← hb7] at HPI ⊢
  generalize w3.alloc (.cells #[.slice a1 m1 d1, .slice a2 m2 d2, .slice a3 m3 d3, .int .i64 s3, .int .i64 l3] 31) = W7 at HPI ⊢
  have hb7l : W0.heap.size ≤ b7 := by rw [hb7]; have := HZ.out.1.size; have := H3.out; omega
  have HB7 := Lib.hid hb7l
  clear hb7 hb7l H3
  go_wp2_with go_in
  go_loopw [7, 11, 12] (fun d ok i wr => ∃ k : Nat, k ≤ L.length ∧ k ≤ 40 ∧ i = .int .i64 (k : Int) ∧ ok = .bool true ∧ PlayIn W0 wr b7 k 9 d)
    (fun _ _ i _ => L.length - (intOf i).toNat)
  case atStart => exact ⟨0, by omega, by omega, rfl, rfl, HPI.out⟩
  case round =>
    obtain ⟨k, hk, hk80, rfl, rfl, p, bs, bw, M, B1, B2, B3, n1, n2, n3, e1, e2, e3, s, l, rfl, hP, hMs, hg7, hbel⟩ := hrel
    by_cases hgo : k < L.length ∧ k < 40
    · obtain ⟨hkl, hk8⟩ := hgo
      · have hkI : (k : Int) < (L.length : Int) := by omega
        have hkJ : (k : Int) < 40 := by omega
        obtain ⟨ab, ao, rfl, hab, hcell⟩ := op_cells HR.out hkl
        obtain ⟨o, hoe⟩ : ∃ o, o = L[k] := ⟨_, rfl⟩
        have hoo : o.ok wr W0.heap.size := by rw [hoe]; exact (HO.out _ (List.getElem_mem hkl)).below hbel (Nat.le_refl _)
        obtain ⟨x0, x1, x2, x3, x4, x5⟩ := hcell wr hbel
        rw [← hoe] at x0 x1 x2 x3 x4 x5
        have hpl := play_any wr.drew W0.heap.size k p bs bw M _ o (show Pair wr.drew W0.heap.size k p bs bw M _ from ⟨⟨hP.both.disk, hP.both.ref, hP.both.ok⟩, hP.p, hP.bs, hP.bw, hP.steps, hP.pos⟩) ⟨hoo.n, hoo.b, hoo.keep, hoo.kc⟩ hbel.size (by omega)
        unfold OpR.v at hpl
        have HPL := Lib.hid hpl
        have y0 := cell_of_row wr b7 0 _ _ _ hg7
        have y1 := cell_of_row wr b7 1 _ _ _ hg7
        have y2 := cell_of_row wr b7 2 _ _ _ hg7
        have y3 := cell_of_row wr b7 3 _ _ _ hg7
        have y4 := cell_of_row wr b7 4 _ _ _ hg7
        have hoff := hP.both.disk.off hg7
        have HX := Lib.hid (And.intro hMs (And.intro hg7 (And.intro hbel (And.intro hkl hoff))))
        clear hcell hoe hoo hpl hP hMs hg7 hbel hkl hoff
        have y5 := cell_of_row wr b7 0 _ _ _ HX.out.2.1
        go_upto_region 11 with go_in
        go_region_with ((go_at_call 19; (with_reducible refine HPL.out.mono ?_); rintro e w5 ⟨p', bs', bw', M', v', rfl, hP', hsz', hbl', hfr'⟩; have g5 := (hfr'.block b7 (Array.getElem?_eq_some_iff.1 HX.out.2.1).1 (by have := HX.out.2.2.2.2; simp; omega)).trans HX.out.2.1; have hP5 := hP'; obtain ⟨⟨_, ⟨a1', a2', a3', d1', d2', d3', rfl, _, _, _⟩, _⟩, _, _, _, _, _⟩ := hP'; have f0 := frozen_of_row w5 b7 0 _ _ g5; have f1 := frozen_of_row w5 b7 1 _ _ g5; have f2 := frozen_of_row w5 b7 2 _ _ g5; have f3 := frozen_of_row w5 b7 3 _ _ g5; have f4 := frozen_of_row w5 b7 4 _ _ g5; have r0 := cell_of_row w5 b7 0 _ _ _ g5; have r1 := cell_of_row w5 b7 1 _ _ _ g5; have r2 := cell_of_row w5 b7 2 _ _ _ g5; have r3 := cell_of_row w5 b7 3 _ _ _ g5; have r4 := cell_of_row w5 b7 4 _ _ _ g5))
        all_goals
          obtain ⟨q1, hq1⟩ : ∃ q1, q1 = (refOf M').sure.length := ⟨_, rfl⟩
          obtain ⟨q2, hq2⟩ : ∃ q2, q2 = (refOf M').now.length := ⟨_, rfl⟩
          obtain ⟨q3, hq3⟩ : ∃ q3, q3 = (refOf M').fresh.length := ⟨_, rfl⟩
          obtain ⟨s4, hs4⟩ : ∃ s4, s4 = (refOf M').steps := ⟨_, rfl⟩
          obtain ⟨l4, hl4⟩ : ∃ l4, l4 = (refOf M').left := ⟨_, rfl⟩
          rw [← hq1, ← hq2, ← hq3, ← hs4, ← hl4] at hP5 ⊢
          have hf6 : Fr w5 (((((w5.setCell ⟨b7, 0, none⟩ (.slice a1' q1 d1')).setCell ⟨b7, 1, none⟩ (.slice a2' q2 d2')).setCell ⟨b7, 2, none⟩ (.slice a3' q3 d3')).setCell ⟨b7, 3, none⟩ (.int .i64 s4)).setCell ⟨b7, 4, none⟩ (.int .i64 l4)) [b7] := (((((Fr.refl _ _).setCell (by simp) _).setCell (by simp) _).setCell (by simp) _).setCell (by simp) _).setCell (by simp) _
          have g6 := set5 g5 (.slice a1' q1 d1') (.slice a2' q2 d2') (.slice a3' q3 d3') (.int .i64 s4) (.int .i64 l4)
          have hP6 := hP5.fr1 g5 hf6
          have hbl6 : Below W0.heap.size W0 (((((w5.setCell ⟨b7, 0, none⟩ (.slice a1' q1 d1')).setCell ⟨b7, 1, none⟩ (.slice a2' q2 d2')).setCell ⟨b7, 2, none⟩ (.slice a3' q3 d3')).setCell ⟨b7, 3, none⟩ (.int .i64 s4)).setCell ⟨b7, 4, none⟩ (.int .i64 l4)) := (((((((HX.out.2.2.1.drew).trans hbl').setCell (by have := HB7.out; exact this) _).setCell (by have := HB7.out; exact this) _).setCell (by have := HB7.out; exact this) _).setCell (by have := HB7.out; exact this) _).setCell (by have := HB7.out; exact this) _)
          generalize (((((w5.setCell ⟨b7, 0, none⟩ (.slice a1' q1 d1')).setCell ⟨b7, 1, none⟩ (.slice a2' q2 d2')).setCell ⟨b7, 2, none⟩ (.slice a3' q3 d3')).setCell ⟨b7, 3, none⟩ (.int .i64 s4)).setCell ⟨b7, 4, none⟩ (.int .i64 l4)) = w6 at hf6 g6 hP6 hbl6 ⊢
          have HY := Lib.hid (And.intro hP6 (And.intro g6 (And.intro hbl6 (hsz'.trans HX.out.1))))
          clear hP5 hf6 g6 hP6 hbl6 hsz' hbl' hfr' g5 r0 r1 r2 r3 r4 f0 f1 f2 f3 f4 y0 y1 y2 y3 y4 y5 x0 x1 x2 x3 x4 x5 hq1 hq2 hq3 hs4 hl4
          go_wp2_with go_in
          exact ⟨⟨k + 1, HX.out.2.2.2.1, by omega, by simp, rfl, p', bs', bw', M', _, _, _, _, _, _, _, _, _, _, _, rfl, HY.out.1, HY.out.2.2.2, HY.out.2.1, HY.out.2.2.1⟩, by simp [intOf]; have := HX.out.2.2.2.1; omega⟩
    · have hfin : Calls Try.prog 16 #[] w (fun _ _ => True) := (H1.out w).mono fun _ _ _ => trivial
      clear hfin
      have hD := hP.both.disk
      have hcr := crashM hD (by omega) A2 c2 keep x y ((HR2.out.below hbel (Nat.le_refl _)).more hbel.size)
      have ga := (hbel.block w.heap.size (by have := HB0.out.2.2; omega)).trans HB0.out.2.1
      have i0 := cell_of_row wr w.heap.size 0 _ _ _ ga
      have i1 := cell_of_row wr w.heap.size 1 _ _ _ ga
      have HC := Lib.hid hcr
      have HX := Lib.hid (And.intro hMs (And.intro ga hbel))
      have hkk : (k = 40 ∧ 40 < L.length) ∨ k = L.length := by omega
      have HT := Lib.hid hk80
      clear hP hMs hg7 hbel hD hcr ga hgo
      rcases hkk with ⟨rfl, hk9⟩ | rfl
      all_goals
        first
          | (have hkq : (40 : Int) < (L.length : Int) := by omega)
          | skip
        go_upto_region 17 with (first
          | (go_at_call 21; (with_reducible refine HC.out.mono ?_); rintro e w4 ⟨p4, bs4, bw4, rfl, hp4, hbs4, hbw4, hD4, hb4⟩)
          | go_in)
        have ga4 := (hb4.block w.heap.size (Array.getElem?_eq_some_iff.1 HX.out.2.1).1).trans HX.out.2.1
        have j0 := cell_of_row w4 w.heap.size 0 _ _ _ ga4
        have j1 := cell_of_row w4 w.heap.size 1 _ _ _ ga4
        have hb04 : Below W0.heap.size W0 w4 := HX.out.2.2.trans (lower' hb4 HX.out.2.2.size)
        have hcr2 := crashM hD4 (by have := HT.out; omega) A2 c2 keep y x ((HR2.out.below hb04 (Nat.le_refl _)).more hb04.size)
        have HC2 := Lib.hid hcr2
        have H4 := Lib.hid (And.intro hD4 (And.intro hb04 (And.intro hp4 hD4.lt)))
        clear hcr2 ga4 hb4 hD4 hb04 hp4 hbs4 hbw4 i0 i1
        go_upto_region 18 with (first
          | (go_at_call 21; (with_reducible refine HC2.out.mono ?_); rintro e w5 ⟨p5, bs5, bw5, rfl, hp5, hbs5, hbw5, hD5, hb5⟩)
          | go_in)
        have har := armM (H4.out.1.kept hb5) 0
        rw [twice_arm] at har
        have HAR := Lib.hid har
        have H5 := Lib.hid (And.intro hD5 (And.intro (H4.out.2.1.trans (lower' hb5 H4.out.2.1.size)) (And.intro hp5 (And.intro hbs5 (And.intro hbw5 (And.intro hb5.size hD5.lt))))))
        clear har hD5 hp5 hbs5 hbw5 hb5 j0 j1
        go_upto_region 20 with (first
          | (go_at_call 22; (with_reducible refine HAR.out.mono ?_); rintro e w6 ⟨rfl, hD6, hF6⟩)
          | (go_at_call 24; (refine (bytes_one 5 w6).mono ?_); rintro e w7 ⟨g7, rfl, hg71, hg72, hr7, hb7⟩)
          | (go_at_call 23; have q4 := H4.out.2.2; have q5 := H5.out.2.2; have q6 := hF6.size; (refine (writeC ((H5.out.1.fr hF6 (by simp; omega) (by simp; omega) (by simp; omega)).kept hb7) ⟨by show M.size ≤ 4096; have := HX.out.1; omega, by show 0 ≤ _; omega, by show 0 ≤ _; omega, by have := HT.out; omega⟩ 0 g7 (bytesL [5]) (bytesL_len _) _ hr7 (by omega)).mono ?_); rw [twice_write M HX.out.1]; rintro e w8 ⟨rfl, hD8, hF8⟩)
          | go_in)
        have q4 := H4.out.2.2
        have q5 := H5.out.2.2
        have q6 := hF6.size
        have q7 := hb7.size
        have q8 := hF8.size
        have hDa := (hD6.kept hb7).fr hF8 (by simp; omega) (by simp; omega) (by simp; omega)
        have hcr3 := crashM hDa (by have := HT.out; omega) none 0 [] 0 64 (Rd.emp _ _ _)
        have hB8 : Below W0.heap.size W0 w8 := H5.out.2.1.trans ((hF6.below H5.out.2.1.size (by have := HX.out.2.2.size; simp; omega)).trans ((lower' hb7 (by have := H5.out.2.1.size; omega)).trans (hF8.below (by have := H5.out.2.1.size; omega) (by have := H4.out.2.1.size; simp; omega))))
        have HC3 := Lib.hid hcr3
        have H8 := Lib.hid (And.intro hDa (And.intro hD8 hB8))
        clear hcr3 hDa hD8 hB8 hD6 hF6 hF8 hb7 hr7 hg71 hg72 q4 q5 q6 q7 q8
        go_upto_region 21 with (first
          | (go_at_call 21; (refine HC3.out.mono ?_); rintro e w9 ⟨p9, bs9, bw9, rfl, hp9, hbs9, hbw9, hD9, hb9⟩)
          | go_in)
        have H9 := Lib.hid (And.intro (H8.out.1.kept hb9) (And.intro (H8.out.2.1.kept hb9) (And.intro hD9 (H8.out.2.2.trans (lower' hb9 H8.out.2.2.size)))))
        clear hb9 hD9 hp9 hbs9 hbw9
        go_wp2_with go_in
        go_loopw [16, 17, 18, 19, 20] (fun i _ _ _ _ wr => ∃ k : Nat, 1 ≤ k ∧ k ≤ 9 ∧ i = .int .i64 (k : Int) ∧ Below w9.heap.size w9 wr)
          (fun i _ _ _ _ _ => 9 - (intOf i).toNat)
        case atStart => exact ⟨1, by omega, by omega, rfl, Below.refl _ _⟩
        case round =>
          obtain ⟨k, hk1, hk9', rfl, hb⟩ := hrel
          by_cases hkl : k < 9
          · have hkI : (k : Int) < 9 := by omega
            have ra := readC (i := k) (H9.out.1.kept hb) (by rw [(armed_sure _ _ 0).2.2.1]; show M.size ≤ _; have := HX.out.1; omega) (by rw [(armed_sure _ _ 0).2.2.1]; show k < M.size; have := HX.out.1; omega)
            have rb := fun (W : World) (h : Below w9.heap.size w9 W) => readC (i := k) (H9.out.2.1.kept h) (by rw [(write_facts _ _ _).1]; show M.size ≤ _; have := HX.out.1; omega) (by rw [(write_facts _ _ _).1]; show k < M.size; have := HX.out.1; omega)
            rw [← twice_get M HX.out.1 keep x y hk1 hkl] at rb
            obtain ⟨lk, hlk⟩ : ∃ lk, lk = ((M.crashed keep x y).armM 0).get k := ⟨_, rfl⟩
            rw [← hlk] at ra rb
            have HRA := Lib.hid ra
            have HRB := Lib.hid rb
            have HK := Lib.hid hb
            clear ra rb hlk hb
            go_upto_region 26 with (first
              | (go_at_call 25; (with_reducible refine HRA.out.mono ?_); rintro e wa ⟨g1, rfl, _, _, hra, hla, hba⟩)
              | (go_at_call 25; (with_reducible refine (HRB.out wa (HK.out.trans (lower' hba HK.out.size))).mono ?_); rintro e wb ⟨g2, rfl, _, _, hrb, hlb, hbb⟩)
              | go_in)
            have s1 := strAt (n := 64) (c := 64) (hra.below hbb (Nat.le_refl _)) hla.symm
            have s2 := strAt (n := 64) (c := 64) hrb hlb.symm
            have HK2 := Lib.hid ((HK.out.trans (lower' hba HK.out.size)).trans (lower' hbb (by have := HK.out.size; have := hba.size; omega)))
            clear hra hrb hba hbb hla hlb
            go_wp2_with go_in
            exact ⟨⟨k + 1, by omega, by omega, by simp, HK2.out⟩, by simp [intOf]; omega⟩
          · obtain rfl : k = 9 := by omega
            have ra := readZ (H9.out.1.kept hb) (by rw [(armed_sure _ _ 0).2.2.1]; show M.size ≤ _; have := HX.out.1; omega) (by rw [(armed_sure _ _ 0).2.2.1]; show 0 < M.size; have := HX.out.1; omega)
            have rb := fun (W : World) (h : Below w9.heap.size w9 W) => readZ (H9.out.2.2.1.kept h) (by show ((M.crashed keep x y).armM 0).size ≤ _; rw [(armed_sure _ _ 0).2.2.1]; show M.size ≤ _; have := HX.out.1; omega) (by show 0 < ((M.crashed keep x y).armM 0).size; rw [(armed_sure _ _ 0).2.2.1]; show 0 < M.size; have := HX.out.1; omega)
            rw [← twice_zero M keep x y] at rb
            obtain ⟨lk, hlk⟩ : ∃ lk, lk = ((M.crashed keep x y).armM 0).get 0 := ⟨_, rfl⟩
            rw [← hlk] at ra rb
            have HRA := Lib.hid ra
            have HRB := Lib.hid rb
            have HK := Lib.hid hb
            clear ra rb hlk hb
            go_upto_region 30 with (first
              | (go_at_call 25; (with_reducible refine HRA.out.mono ?_); rintro e wa ⟨g1, rfl, _, _, hra, hla, hba⟩)
              | (go_at_call 25; (with_reducible refine (HRB.out wa (HK.out.trans (lower' hba HK.out.size))).mono ?_); rintro e wb ⟨g2, rfl, _, _, hrb, hlb, hbb⟩)
              | go_in)
            have s1 := strAt (n := 64) (c := 64) (hra.below hbb (Nat.le_refl _)) hla.symm
            have s2 := strAt (n := 64) (c := 64) hrb hlb.symm
            have HK2 := Lib.hid ((HK.out.trans (lower' hba HK.out.size)).trans (lower' hbb (by have := HK.out.size; have := hba.size; omega)))
            clear hra hrb hba hbb hla hlb
            go_wp2_with go_in
            go_ret
            exact ⟨rfl, HB0.out.1.trans (lower' (H9.out.2.2.2.trans (lower' HK2.out H9.out.2.2.2.size)) (by have := HB0.out.2.2; omega))⟩
end Go.Proofs.Ytdiafgjlbbkhkaa
