/- LogAgain: the walk. -/
import Derived.Test.YtkanlecgopcocaaLogU
namespace Go.Proofs.Ytkanlecgopcocaa
open Go.RowKit Go.Maps

set_option maxRecDepth 100000 in
set_option maxHeartbeats 4000000 in
theorem logAgain_walk (A : Option Addr) (rows : List RowB) (c : Nat) (A2 : Option Addr) (keep : List Bool) (c2 : Nat) (n0 n1 n2 n3 : Int) (w : World) (hr : Rd w w.heap.size A (rows.map RowB.v)) (hrows : ∀ r ∈ rows, r.ok w w.heap.size) (hr2 : Rd w w.heap.size A2 (keep.map Value.bool)) :
    Calls Try.prog 4 #[.slice A rows.length c, .slice A2 keep.length c2, .agg #[.int .i64 n0, .int .i64 n1, .int .i64 n2, .int .i64 n3]] w fun e w' => e = .returned (.bool true) ∧ Below w.heap.size w w' := by
  have hB0 : Below w.heap.size w (w.alloc (.cells #[.int .i64 n0, .int .i64 n1, .int .i64 n2, .int .i64 n3] 43)) := (Below.refl _ _).alloc (Nat.le_refl _) _
  have g5 := heap_alloc_new w (.cells #[.int .i64 n0, .int .i64 n1, .int .i64 n2, .int .i64 n3] 43)
  have s5 := alloc1_size w (.cells #[.int .i64 n0, .int .i64 n1, .int .i64 n2, .int .i64 n3] 43)
  have H1 := Lib.hid (fun W => logAwake_any W)
  have HB0 := Lib.hid (And.intro hB0 (And.intro g5 s5))
  have HR := Lib.hid (And.intro hr (And.intro hrows hr2))
  obtain ⟨m, hm60, hmE⟩ : ∃ k : Nat, k < 60 ∧ wrap64 ((IntKind.u64.wrap n0).tmod 60) = (k : Int) := rem_n n0 60 (by omega) (by omega)
  have HM := Lib.hid hmE
  clear hB0 g5 s5 hr hrows hr2 hmE
  go_enter Try.func4, Try.ntmps4
  go_upto_region 1 with go_in
  generalize w.alloc (.cells #[.int .i64 n0, .int .i64 n1, .int .i64 n2, .int .i64 n3] 43) = W0 at HB0 ⊢
  go_upto_region 3 with (first
    | (go_at_call 13; (refine (H1.out W0).mono ?_); rintro e w1 ⟨rfl, hb1⟩; have HB1 := Lib.hid hb1; clear hb1)
    | go_in)
  go_upto_region 6 with (first
    | (go_at_call 14; (refine (newM 40 w1 (by omega) (by omega)).mono ?_); rintro e w2 ⟨rfl, hD, hF⟩)
    | go_in)
  have hB2 : Below W0.heap.size W0 w2 := HB1.out.trans (hF.below HB1.out.size (by simp))
  have hop : Calls Try.prog 15 #[.pointer (some ⟨w1.heap.size + 2, 0, none⟩), .int .i64 0, .int .i64 40] w2 _ := open_new (m := 40) (by omega) hD 0 40 (by omega) (by omega)
  have HO := Lib.hid hop
  have H2 := Lib.hid (And.intro hB2 HB1.out.size)
  clear hD hF hB2 hop
  go_upto_region 7 with (first
    | (go_at_call 15; (with_reducible refine HO.out.mono ?_); rintro e w3 ⟨q, A3, c3, v3, rfl, hq, hL, hF3⟩)
    | go_in)
  have hz := H2.out.2
  have hB3 : Below W0.heap.size W0 w3 := H2.out.1.trans (hF3.below H2.out.1.size (by simp; omega))
  have hqz : W0.heap.size ≤ q := Nat.le_trans H2.out.1.size hq
  have gb3 := (hB3.block w.heap.size (heap_lt HB0.out.2.1)).trans HB0.out.2.1
  have k0 := cell_of_row w3 w.heap.size 0 _ _ _ gb3
  have ha := armM hL.disk (m : Int)
  have hG := (Going.new 40 0 40 (by omega) (by omega)).arm rfl m (by omega)
  rw [hG.1] at ha
  have HA := Lib.hid ha
  have HG := Lib.hid hG.2
  have H3 := Lib.hid (And.intro hL (And.intro hB3 (And.intro hqz hz)))
  have hmE := HM.out
  clear hL hF3 hB3 hqz hz gb3 ha hG hq HO
  go_upto_region 9 with (first
    | (go_at_call 16; (with_reducible refine HA.out.mono ?_); rintro e w4 ⟨rfl, hD4, hF4⟩)
    | go_in)
  have hL4 := H3.out.1.over hD4 (hF4.mono (by simp)) (by unfold DM.armM; split; rfl; split <;> rfl)
  have hB4 : Below W0.heap.size W0 w4 := H3.out.2.1.trans (hF4.below H3.out.2.1.size (by have := H2.out.2; simp; omega))
  have H4 := Lib.hid (And.intro hL4 hB4)
  clear hD4 hF4 hL4 hB4 hmE k0 HA HM
  go_wp2_with go_in
  go_loopw [11] (fun i wr => ∃ (k T : Nat) (L : LG) (v : Value) (M : DM), k ≤ rows.length ∧ k ≤ 12 ∧ i = .int .i64 (k : Int) ∧
      LogD wr (q + 1) q (w1.heap.size + 2) w1.heap.size (w1.heap.size + 1) T L v M ∧ L.first = 0 ∧ L.behind = 40 ∧ Safe M L 40 k ∧ T ≤ 4097 + 70 * k ∧ Below W0.heap.size W0 wr)
      (fun i _ => rows.length - (intOf i).toNat)
  case atStart => exact ⟨0, _, _, _, _, by omega, by omega, rfl, H4.out.1, rfl, rfl, .inl ⟨_, HG.out⟩, by omega, H4.out.2⟩
  case round =>
    obtain ⟨k, T, L, v, M, hk, hk12, rfl, hL, hLf, hLb, hS, hT, hb⟩ := hrel
    by_cases hgo : k < rows.length ∧ k < 12
    · obtain ⟨hkl, hk9⟩ := hgo
      have hkI : (k : Int) < (rows.length : Int) := by omega
      have hkJ : (k : Int) < 12 := by omega
      obtain ⟨r, hre⟩ : ∃ r, r = rows[k] := ⟨_, rfl⟩
      have hbw : Below w.heap.size w wr := HB0.out.1.trans (lower' hb (by have := HB0.out.2.2; omega))
      have hro : r.ok wr w.heap.size := by rw [hre]; exact (HR.out.2.1 _ (List.getElem_mem hkl)).below hbw (Nat.le_refl _)
      obtain ⟨ab, ao, rfl, hab, hcell⟩ := HR.out.1.get (k := k) (by simpa using hkl)
      have hrow1 : wr.cell? ⟨ab, ao + k, none⟩ = some (.slice r.A r.l.length r.c) := by
        have h := hcell
        simp only [List.getElem_map, ← hre] at h
        rw [show (Value.slice r.A r.l.length r.c) = r.v from rfl, ← h]
        exact hbw.cell (p := ⟨ab, ao + k, none⟩) hab
      clear hre hcell hbw
      obtain ⟨rA, rl, rc⟩ := r
      have hlc : (rl.length : Int) ≤ (rc : Int) := by have h : rl.length ≤ rc := hro.2.1; omega
      have hcb : (rc : Int) ≤ 140737488351232 := by have h : rc ≤ 140737488351232 := hro.2.2; omega
      have hd4 : (rl.take 300).length = (min (rl.length : Int) 300).toNat := by rw [List.length_take]; omega
      have hap := append_any (hL.kept (w' := wr.drew) (Below.refl _ _).drew) rA (rl.take 300) rc w.heap.size (by rw [u8s_take]; exact (hro.1.take 300).drew) (Nat.le_trans (by have := HB0.out.2.2; omega) hb.size) (fun hne a ha => by
        obtain ⟨b', o', e', hb', _⟩ := hro.1 (by intro e; apply hne; have := congrArg List.length e; rw [u8s_len] at this; simp at this; simp [this])
        rw [ha] at e'; cases e'
        have h3 := H2.out.2
        have h5 := HB0.out.2.2
        have h6 := H3.out.2.2.1
        show b' ≠ _ ∧ b' ≠ _ ∧ b' ≠ _
        omega) (by rw [List.length_take]; omega) (by have := hro.2.1; have := hro.2.2; show rc ≤ _; omega) (hS.fit (by omega) (by omega) (by omega))
      rw [hd4] at hap
      have hsf := hS.append (rl.take 300) (by rw [List.length_take]; omega) (by omega)
      have HAP := Lib.hid hap
      have HX := Lib.hid (And.intro hL (And.intro hLf (And.intro hLb (And.intro hT (And.intro hb (And.intro hsf hkl))))))
      clear hd4 hap hsf hL hLf hLb hS hT hb hkl hro
      go_upto_region 12 with go_in
      go_region_with (go_at_call 17; (with_reducible refine HAP.out.mono ?_); rintro e w5 ⟨rfl, hlg⟩)
      all_goals
        have HLG := Lib.hid hlg
        clear hlg
        go_wp2_with go_in
        obtain ⟨v5, hl5, hf5⟩ := HLG.out
        obtain ⟨x1, x2, x3, x4, x5, ⟨x6, x7, x8⟩, x9⟩ := HX.out
        have hbF : Below W0.heap.size wr.drew w5 := fr_below (x1.kept (w' := wr.drew) (Below.refl _ _).drew) hf5 x5.size (by have := H3.out.2.2; omega)
        exact ⟨⟨k + 1, _, _, v5, _, by omega, by omega, by simp, hl5, x7.trans x2, x8.trans x3, x6, by omega, x5.drew.trans hbF⟩, by simp [intOf]; omega⟩
    · have hx' : (¬ (k : Int) < (rows.length : Int)) ∨ ((k : Int) < (rows.length : Int) ∧ ¬ (k : Int) < 12) := by omega
      have hbw : Below w.heap.size w wr := HB0.out.1.trans (lower' hb (by have := HB0.out.2.2; omega))
      have hr2 : Rd wr wr.heap.size A2 (keep.map Value.bool) := (HR.out.2.2.below hbw (Nat.le_refl _)).more hbw.size
      have hcr := crashM hL.disk (by omega) A2 c2 keep n1 n2 hr2
      have gbr := (hb.block w.heap.size (heap_lt HB0.out.2.1)).trans HB0.out.2.1
      have k1 := cell_of_row wr w.heap.size 1 _ _ _ gbr
      have k2 := cell_of_row wr w.heap.size 2 _ _ _ gbr
      obtain ⟨ds, hW⟩ := hS.crash hL.disk.full (by rw [hLb]; omega) keep n1 n2
      rw [hLf, hLb] at hW
      have hback := Back.mk' (n := 40) keep n1 n2 (hS.size) hW
      have hT6 : T ≤ 5000 := by omega
      have HX := Lib.hid (And.intro hb (And.intro hback hbw))
      have HCR := Lib.hid hcr
      clear hL hLf hLb hS hT hb hr2 hcr gbr hW hback hbw hgo HG
      generalize M.crashed keep n1 n2 = C at HX HCR
      rcases hx' with e1 | ⟨e1, e2⟩


      all_goals
        go_upto_region 14 with (first
          | (go_at_call 18; (with_reducible refine HCR.out.mono ?_); rintro e w5 ⟨p', bs', bw', rfl, hp1, hp2, hp3, hD5, hb5⟩)
          | go_in)
        have hcr2 : Calls Try.prog 18 #[.pointer (some ⟨p', 0, none⟩), .slice none 0 0, .int .i64 (-1), .int .i64 0] w5 _ := crashM hD5 (by omega) none 0 [] (-1) 0 (Rd.emp _ _ _)
        have HCR2 := Lib.hid hcr2
        have H5 := Lib.hid (And.intro hp1 (And.intro hp2 (And.intro hp3 (And.intro hD5 hb5))))
        clear hp1 hp2 hp3 hD5 hb5 HCR k1 k2 hcr2
        go_upto_region 17 with (first
          | (go_at_call 18; (with_reducible refine HCR2.out.mono ?_); rintro e w6 ⟨p6, bs6, bw6, rfl, hq1, hq2, hq3, hD6, hb6⟩)
          | go_in)
        have hop6 : Calls Try.prog 15 #[.pointer (some ⟨p', 0, none⟩), .int .i64 0, .int .i64 40] w6 _ := open_back (H5.out.2.2.2.1.kept hb6) HX.out.2.1 40 (by omega) (by omega) (by omega) (by omega) (by omega)
        have HO6 := Lib.hid hop6
        have H6 := Lib.hid (And.intro hq1 (And.intro hq2 (And.intro hq3 (And.intro hD6 hb6))))
        clear hq1 hq2 hq3 hD6 hb6 HCR2 hop6
        go_upto_region 18 with (first
          | (go_at_call 15; (with_reducible refine HO6.out.mono ?_); rintro e w7 ⟨q7, A7, c7, v7, M7, rfl, hq7, hR7, hL7, hF7⟩)
          | go_in)
        obtain ⟨xb, xback, xbw⟩ := HX.out
        obtain ⟨y1, y2, y3, y4, y5⟩ := H5.out
        obtain ⟨z1, z2, z3, z4, z5⟩ := H6.out
        have ylt := y4.lt
        have zlt := z4.lt
        have hw7 : Below w.heap.size w w7 := xbw.trans ((lower' y5 xbw.size).trans ((lower' z5 (Nat.le_trans xbw.size y5.size)).trans (hF7.below (Nat.le_trans xbw.size (Nat.le_trans y5.size z5.size)) (by have := xbw.size; simp; omega))))
        have hW7 : Below W0.heap.size W0 w7 := xb.trans ((lower' y5 xb.size).trans ((lower' z5 (Nat.le_trans xb.size y5.size)).trans (hF7.below (Nat.le_trans xb.size (Nat.le_trans y5.size z5.size)) (by have := xb.size; simp; omega))))
        have hD7 := z4.fr hF7 (by simp; omega) (by simp; omega) (by simp; omega)
        have hback6 := Back.mk' (n := 40) (M := C) [] (-1) 0 xback.size (by rw [crashed_sure xback.calm]; exact xback.whole)
        have hrl := whole_len xback.whole (by omega)
        have HB := Lib.hid (And.intro hw7 (And.intro hW7 (And.intro hback6 (And.intro hD7 (And.intro hR7 hrl)))))
        have HZ := Lib.hid (And.intro (Nat.le_trans xb.size (Nat.le_trans y5.size z1)) (And.intro (Nat.le_trans xb.size (Nat.le_trans y5.size z2)) (Nat.le_trans xb.size (Nat.le_trans y5.size z3))))
        clear xb xback xbw y1 y2 y3 y4 y5 z1 z2 z3 z4 z5 ylt zlt hw7 hW7 hD7 hback6 hR7 hL7 hF7 hq7 HX H5 H6 HO6 hrl
        obtain ⟨rs, hrs⟩ : ∃ rs, rs = numR 1 ds := ⟨_, rfl⟩
        have hnxt := back_next (first := 0) (behind := 40) ds
        rw [← hrs] at HB hnxt ⊢
        have HNE := Lib.hid hnxt
        clear hrs hnxt
        go_wp2_with go_in
        go_loopw [13, 16] (fun a i wr => ∃ (k p bs bw T : Nat) (M : DM), k ≤ 4 ∧ i = .int .i64 (k : Int) ∧ a = .pointer (some ⟨p, 0, none⟩) ∧ (W0.heap.size ≤ p ∧ W0.heap.size ≤ bs ∧ W0.heap.size ≤ bw) ∧ DiskM wr p bs bw M T ∧ Back M 0 40 40 rs ∧ T ≤ 5000 + 4097 * k ∧ RecsAt wr (q7 + 1) (.slice A7 rs.length c7) rs ∧ Below W0.heap.size W0 wr)
          (fun _ i _ => 4 - (intOf i).toNat)
        case atStart => exact ⟨0, _, _, _, _, _, by omega, rfl, rfl, HZ.out, HB.out.2.2.2.1, HB.out.2.2.1, by omega, HB.out.2.2.2.2.1, HB.out.2.1⟩
        case round =>
          obtain ⟨k, p, bs, bw, T, M, hk, rfl, rfl, hz, hD, hback, hT, hR, hb⟩ := hrel
          have gbr := (hb.block w.heap.size (heap_lt HB0.out.2.1)).trans HB0.out.2.1
          have hbw : Below w.heap.size w wr := HB0.out.1.trans (lower' hb (by have := HB0.out.2.2; omega))
          by_cases hk4 : k < 4
          · have hkI : (k : Int) < 4 := by omega
            have k3 := cell_of_row wr w.heap.size 3 _ _ _ gbr
            have harm := fun x : Int => armM hD x
            have HARM := Lib.hid harm
            have HX := Lib.hid (And.intro hz (And.intro hD (And.intro hback (And.intro hT (And.intro hR (And.intro hb (And.intro gbr (And.intro hbw hk4))))))))
            clear harm hz hD hback hT hR hb gbr hbw hk4
            obtain ⟨y, hy6, hyE⟩ : ∃ y : Nat, y < 6 ∧ wrap64 ((IntKind.u64.wrap (wrap64 (n3 + (k : Int)))).tmod 6) = (y : Int) := rem_n _ 6 (by omega) (by omega)
            have HYE := Lib.hid hyE
            clear hyE
            go_upto_region 24 with (first
              | (go_at_call 16; (refine (HARM.out _).mono ?_); rintro e w8 ⟨rfl, hD8, hF8⟩)
              | go_in)
            obtain ⟨hz, hD, hback, hT, hR, hb, gbr, hbw, hk4⟩ := HX.out
            rw [HYE.out] at hD8
            obtain ⟨m1, m2, m3, m4, m5⟩ := hback.arm y (by omega)
            have hop : Calls Try.prog 15 #[.pointer (some ⟨p, 0, none⟩), .int .i64 0, .int .i64 40] w8 _ := open_disk hD8 0 40 (by omega) (by omega) ⟨by omega, by omega, by omega, by omega⟩
            have HOP := Lib.hid hop
            have hR8 := hR.disk' hD (hF8.mono (by simp))
            have hf8 := hF8.below (B := W0.heap.size) hb.size (by simp; omega)
            have hf9 := hF8.below (B := w.heap.size) hbw.size (by have := HB0.out.2.2; simp; omega)
            have H8 := Lib.hid (And.intro hD8 (And.intro hR8 (And.intro (hb.trans hf8) (And.intro (hbw.trans hf9) (And.intro m1 (And.intro (show Whole (M.armM (y : Int)).sure 0 40 rs by rw [m2]; exact hback.whole) (And.intro m3 (And.intro hT (And.intro hz hk4)))))))))
            clear hz hD hback hT hR hb gbr hbw hk4 hop hD8 hR8 hF8 hf8 hf9 m1 m2 m3 m4 m5 HYE HARM HX
            generalize M.armM (y : Int) = M1 at H8 HOP
            go_upto_region 25 with (first
              | (go_at_call 15; (with_reducible refine HOP.out.mono ?_); rintro e w9 ⟨⟨v9, rfl⟩, hD9, hF9⟩)
              | go_in)
            obtain ⟨x1, x2, x3, x4, x5, x6, x7, x8, x9, x10⟩ := H8.out
            have hb9 := x3.trans (hF9.below (B := W0.heap.size) x3.size (by simp; omega))
            have hbw9 := x4.trans (hF9.below (B := w.heap.size) x4.size (by have := HB0.out.2.2; simp; omega))
            have hR9 := x2.disk' x1 hF9
            have gbr := (hb9.block w.heap.size (heap_lt HB0.out.2.1)).trans HB0.out.2.1
            have k1 := cell_of_row w9 w.heap.size 1 _ _ _ gbr
            have k2 := cell_of_row w9 w.heap.size 2 _ _ _ gbr
            have hr2 : Rd w9 w9.heap.size A2 (keep.map Value.bool) := (HR.out.2.2.below hbw9 (Nat.le_refl _)).more hbw9.size
            have hcr := fun t : Int => crashM hD9 (by omega) A2 c2 keep t n2 hr2
            have hbk := fun t : Int => open_torn x5 x7 x6 (by omega) (by omega) hD9.full keep t n2
            have HCR := Lib.hid hcr
            have H9 := Lib.hid (And.intro hbk (And.intro hR9 (And.intro hb9 (And.intro hbw9 (And.intro x8 (And.intro x9 x10))))))
            clear x1 x2 x3 x4 x5 x6 x7 x8 x9 x10 hb9 hbw9 hR9 gbr hr2 hcr hbk hD9 hF9 H8 HOP
            go_wp2_with (first
              | (go_at_call 18; (refine (HCR.out _).mono ?_); rintro e w10 ⟨p10, bs10, bw10, rfl, hp1, hp2, hp3, hD10, hb10⟩; have H10 := Lib.hid (And.intro hp1 (And.intro hp2 (And.intro hp3 (And.intro hD10 hb10)))); clear hp1 hp2 hp3 hD10 hb10)
              | go_in)
            obtain ⟨y1, y2, y3, y4, y5, y6, y7⟩ := H9.out
            obtain ⟨z1, z2, z3, z4, z5⟩ := H10.out
            have := y3.size
            exact ⟨⟨k + 1, p10, bs10, bw10, _, _, by omega, by simp, rfl, by omega, z4, y1 _, by omega, y2.below z5, y3.trans (lower' z5 y3.size)⟩, by simp [intOf]; omega⟩
          · obtain rfl : k = 4 := by omega
            have hop : Calls Try.prog 15 #[.pointer (some ⟨p, 0, none⟩), .int .i64 0, .int .i64 40] wr _ := open_back hD hback 40 (by omega) (by omega) (by omega) (by omega) (by omega)
            have HOP := Lib.hid hop
            have HX := Lib.hid (And.intro hz (And.intro hD (And.intro hR (And.intro hb hbw))))
            have hrl : (rs.length : Int) ≤ 40 := by have := HB.out.2.2.2.2.2; omega
            clear hop hz hD hback hT hR hb gbr hbw hk4 hk
            go_upto_region 29 with (first
              | (go_at_call 15; (with_reducible refine HOP.out.mono ?_); rintro e w8 ⟨q8, A8, c8, v8, M8, rfl, hq8, hR8, hL8, hF8⟩)
              | go_in)
            obtain ⟨x1, x2, x3, x4, x5⟩ := HX.out
            have hR1 := x3.disk' x2 hF8
            have hw8 := x5.trans (hF8.below (B := w.heap.size) x5.size (by have := HB0.out.2.2; simp; omega))
            have hnx := next_any hL8.log
            rw [HNE.out] at hnx
            have HNX := Lib.hid hnx
            have H8 := Lib.hid (And.intro hR1 (And.intro hR8 hw8))
            clear x1 x2 x3 x4 x5 hR1 hw8 hnx hR8 hL8 hF8 hq8 HX HOP HB
            go_wp2_with (first
              | (go_at_call 19; (with_reducible refine HNX.out.mono ?_); rintro e w9 ⟨rfl, rfl⟩)
              | go_in)
            go_loopw [155] (fun i wr2 => ∃ j : Nat, j ≤ rs.length ∧ i = .int .i64 (j : Int) ∧ Below w8.heap.size w8 wr2)
              (fun i _ => rs.length - (intOf i).toNat)
            case atStart => exact ⟨0, by omega, rfl, Below.refl _ _⟩
            case round =>
              obtain ⟨j, hj, rfl, hb2⟩ := hrel
              by_cases hjl : j < rs.length
              · have hjI : (j : Int) < (rs.length : Int) := by omega
                obtain ⟨ab, ao, B1, d1, rfl, hab, p0, p1, hd1⟩ := H8.out.1.get hjl
                obtain ⟨ub, uo, B2, d2, rfl, hub, p2, p3, hd2⟩ := H8.out.2.1.get hjl
                replace p0 := (hb2.cell (p := ⟨ab, ao + j * 2, none⟩) hab).trans p0
                replace p1 := (hb2.cell (p := ⟨ab, ao + j * 2 + 1, none⟩) hab).trans p1
                replace p2 := (hb2.cell (p := ⟨ub, uo + j * 2, none⟩) hub).trans p2
                replace p3 := (hb2.cell (p := ⟨ub, uo + j * 2 + 1, none⟩) hub).trans p3
                generalize rs[j] = r at p0 p1 p2 p3 hd1 hd2
                obtain ⟨s, d⟩ := r
                have hs1 : ∀ n, (convert 36 9 (.slice B1 d.length d1)).run Try.prog (wr.drewN n) = .ok (.string ⟨d.toArray⟩) (wr.drewN n) := fun n => strAt ((hd1.below hb2 (Nat.le_refl _)).drewN n) rfl
                have hs2 : ∀ n, (convert 36 9 (.slice B2 d.length d2)).run Try.prog (wr.drewN n) = .ok (.string ⟨d.toArray⟩) (wr.drewN n) := fun n => strAt ((hd2.below hb2 (Nat.le_refl _)).drewN n) rfl
                have HX2 := Lib.hid (And.intro hb2 hjl)
                clear hab hub hd1 hd2 hb2 hjl
                go_upto_region 34 with go_in
                go_quiet (fail)
                go_wp2_with go_in
                exact ⟨⟨j + 1, by have := HX2.out.2; omega, by simp, Below.drewN' HX2.out.1 _⟩, by simp [intOf]; have := HX2.out.2; omega⟩
              · obtain rfl : j = rs.length := by omega
                have HB2 := Lib.hid hb2
                clear hb2 hjl
                go_wp2_with go_in
                go_ret
                exact ⟨rfl, H8.out.2.2.trans (lower' HB2.out H8.out.2.2.size)⟩
end Go.Proofs.Ytkanlecgopcocaa
