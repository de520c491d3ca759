/- LogWhole: the walk. -/
import Derived.Test.YtkanlecgopcocaaLogU
namespace Go.Proofs.Ytkanlecgopcocaa
open Go.RowKit Go.Maps

set_option maxRecDepth 100000 in
set_option maxHeartbeats 4000000 in
theorem logWhole_walk (A : Option Addr) (rows : List RowB) (c : Nat) (A2 : Option Addr) (keep : List Bool) (c2 : Nat) (n0 n1 n2 : Int) (w : World) (hr : Rd w w.heap.size A (rows.map RowB.v)) (hrows : ∀ r ∈ rows, r.ok w w.heap.size) (hr2 : Rd w w.heap.size A2 (keep.map Value.bool)) :
    Calls Try.prog 3 #[.slice A rows.length c, .slice A2 keep.length c2, .agg #[.int .i64 n0, .int .i64 n1, .int .i64 n2]] w fun e w' => e = .returned (.bool true) ∧ Below w.heap.size w w' := by
  have hB0 : Below w.heap.size w (w.alloc (.cells #[.int .i64 n0, .int .i64 n1, .int .i64 n2] 24)) := (Below.refl _ _).alloc (Nat.le_refl _) _
  have g5 := heap_alloc_new w (.cells #[.int .i64 n0, .int .i64 n1, .int .i64 n2] 24)
  have s5 := alloc1_size w (.cells #[.int .i64 n0, .int .i64 n1, .int .i64 n2] 24)
  have H1 := Lib.hid (fun W => logAwake_any W)
  have HB0 := Lib.hid (And.intro hB0 (And.intro g5 s5))
  have HR := Lib.hid (And.intro hr (And.intro hrows hr2))
  obtain ⟨ISL, hi, hz0, hz1, hz2⟩ := info_parts infoSl
  have HI := Lib.hid (And.intro hi (And.intro hz0 (And.intro hz1 hz2)))
  obtain ⟨m, hm70, hmE⟩ : ∃ k : Nat, k < 70 ∧ wrap64 ((IntKind.u64.wrap n0).tmod 70) = (k : Int) := rem_n n0 70 (by omega) (by omega)
  have HM := Lib.hid hmE
  clear hB0 g5 s5 hr hrows hr2 hi hz0 hz1 hz2 hmE
  go_enter Try.func3, Try.ntmps3
  go_upto_region 1 with go_in
  generalize w.alloc (.cells #[.int .i64 n0, .int .i64 n1, .int .i64 n2] 24) = W0 at HB0 ⊢
  go_upto_region 3 with (first
    | (go_at_call 13; (refine (H1.out W0).mono ?_); rintro e w1 ⟨rfl, hb1⟩; have HB1 := Lib.hid hb1; clear hb1)
    | go_in)
  go_upto_region 6 with (first
    | (go_at_call 14; (refine (newM 60 w1 (by omega) (by omega)).mono ?_); rintro e w2 ⟨rfl, hD, hF⟩)
    | go_in)
  have hB2 : Below W0.heap.size W0 w2 := HB1.out.trans (hF.below HB1.out.size (by simp))
  have hop : Calls Try.prog 15 #[.pointer (some ⟨w1.heap.size + 2, 0, none⟩), .int .i64 3, .int .i64 50] w2 _ := open_new (m := 60) (by omega) hD 3 50 (by omega) (by omega)
  have HO := Lib.hid hop
  have H2 := Lib.hid (And.intro hB2 HB1.out.size)
  clear hD hF hB2 hop
  go_upto_region 7 with (first
    | (go_at_call 15; (with_reducible refine HO.out.mono ?_); rintro e w3 ⟨q, A3, c3, v3, rfl, hq, hL, hF3⟩)
    | go_in)
  have hz := H2.out.2
  have hB3 : Below W0.heap.size W0 w3 := H2.out.1.trans (hF3.below H2.out.1.size (by simp; omega))
  have hqz : W0.heap.size ≤ q := Nat.le_trans H2.out.1.size hq
  have gb3 := (hB3.block w.heap.size (heap_lt HB0.out.2.1)).trans HB0.out.2.1
  have k0 := cell_of_row w3 w.heap.size 0 _ _ _ gb3
  have ha := armM hL.disk (m : Int)
  have hG := (Going.new 60 3 53 (by omega) (by omega)).arm rfl m (by omega)
  rw [hG.1] at ha
  have HA := Lib.hid ha
  have HG := Lib.hid hG.2
  have H3 := Lib.hid (And.intro hL (And.intro hB3 (And.intro hqz hz)))
  have hmE := HM.out
  clear hL hF3 hB3 hqz hz gb3 ha hG hq HO
  go_upto_region 9 with (first
    | (go_at_call 16; (with_reducible refine HA.out.mono ?_); rintro e w4 ⟨rfl, hD4, hF4⟩)
    | go_in)
  have hL4 := H3.out.1.over hD4 (hF4.mono (by simp)) (by unfold DM.armM; split; rfl; split <;> rfl)
  have hB4 : Below W0.heap.size W0 w4 := H3.out.2.1.trans (hF4.below H3.out.2.1.size (by have := H2.out.2; simp; omega))
  have H4 := Lib.hid (And.intro hL4 hB4)
  clear hD4 hF4 hL4 hB4 hmE k0 HA HM
  go_wp2_with go_in
  go_loopw [11, 12, 13, 14] (fun u la dy i wr => ∃ (k T : Nat) (L : LG) (v : Value) (M : DM) (R : List RowB) (lr : RowB) (dyb : Bool), k ≤ rows.length ∧ k ≤ 12 ∧ i = .int .i64 (k : Int) ∧ dy = .bool dyb ∧ la = lr.v ∧ lr.ok w w.heap.size ∧ (∀ r ∈ R, r.ok w w.heap.size) ∧ R.length ≤ k ∧
      wr.ownsRow w4.heap.size 36 1 u R.length (R.map RowB.v) ∧ LogD wr (q + 1) q (w1.heap.size + 2) w1.heap.size (w1.heap.size + 1) T L v M ∧ L.first = 3 ∧ L.behind = 53 ∧ Stand dyb M L (R.map RowB.l) lr.l 60 k ∧ T ≤ 4097 + 70 * k ∧ Below W0.heap.size W0 wr ∧ w4.heap.size ≤ wr.heap.size)
      (fun _ _ dy i _ => rows.length - (intOf i).toNat)
  case atStart => exact ⟨0, _, _, _, _, [], ⟨none, [], 0⟩, false, by omega, by omega, rfl, rfl, rfl, ⟨Rd.emp _ _ _, by simp, by simp⟩, by simp, by simp, by simpa using World.ownsRow_nil w4 w4.heap.size 36 1, H4.out.1, rfl, rfl, HG.out, by omega, H4.out.2, Nat.le_refl _⟩
  case round =>
    obtain ⟨k, T, L, v, M, R, lr, dyb, hk, hk12, rfl, rfl, rfl, hlr, hRok, hRk, hrow, hL, hLf, hLb, hS, hT, hb, hsz⟩ := hrel
    by_cases hgo : k < rows.length ∧ k < 12 ∧ dyb = false
    · obtain ⟨hkl, hk9, rfl⟩ := hgo
      have hkI : (k : Int) < (rows.length : Int) := by omega
      have hkJ : (k : Int) < 12 := by omega
      obtain ⟨r, hre⟩ : ∃ r, r = rows[k] := ⟨_, rfl⟩
      have hbw : Below w.heap.size w wr := HB0.out.1.trans (lower' hb (by have := HB0.out.2.2; omega))
      have hro0 : r.ok w w.heap.size := by rw [hre]; exact HR.out.2.1 _ (List.getElem_mem hkl)
      have hro : r.ok wr w.heap.size := hro0.below hbw (Nat.le_refl _)
      obtain ⟨ab, ao, rfl, hab, hcell⟩ := HR.out.1.get (k := k) (by simpa using hkl)
      have hrow1 : wr.cell? ⟨ab, ao + k, none⟩ = some (.slice r.A r.l.length r.c) := by
        have h := hcell
        simp only [List.getElem_map, ← hre] at h
        rw [show (Value.slice r.A r.l.length r.c) = r.v from rfl, ← h]
        exact hbw.cell (p := ⟨ab, ao + k, none⟩) hab
      clear hre hcell hbw
      have hcut0 := hro0.cut 300
      obtain ⟨rA, rl, rc⟩ := r
      have hlc : (rl.length : Int) ≤ (rc : Int) := by have h : rl.length ≤ rc := hro.2.1; omega
      have hcb : (rc : Int) ≤ 140737488351232 := by have h : rc ≤ 140737488351232 := hro.2.2; omega
      have hd4 : (rl.take 300).length = (min (rl.length : Int) 300).toNat := by rw [List.length_take]; omega
      have hap := append_any (hL.kept (w' := wr.drew) (Below.refl _ _).drew) rA (rl.take 300) rc w.heap.size (by rw [u8s_take]; exact (hro.1.take 300).drew) (Nat.le_trans (by have := HB0.out.2.2; omega) hb.size) (fun hne a ha => by
        obtain ⟨b', o', e', hb', _⟩ := hro.1 (by intro e; apply hne; have := congrArg List.length e; rw [u8s_len] at this; simp at this; simp [this])
        rw [ha] at e'; cases e'
        have h3 := H2.out.2
        have h5 := HB0.out.2.2
        have h6 := H3.out.2.2.1
        show b' ≠ _ ∧ b' ≠ _ ∧ b' ≠ _
        omega) (by rw [List.length_take]; omega) (by have := hro.2.1; have := hro.2.2; show rc ≤ _; omega) (hS.fit (by omega) (by omega) (by omega))
      rw [hd4] at hap
      have hgs := Going.append hS (rl.take 300) (by rw [List.length_take]; omega) (by omega)
      have hbase : q + 1 ≤ w4.heap.size := H4.out.1.low
      obtain ⟨Au, cu, rfl, _, _, _⟩ := own_shape hrow
      have HX := Lib.hid (And.intro hlr (And.intro hRok (And.intro hRk (And.intro hrow (And.intro hL (And.intro hLf (And.intro hLb (And.intro hT (And.intro hb (And.intro hsz (And.intro hcut0 (And.intro hd4 (And.intro hbase hkl)))))))))))))
      have hstep : ∀ w5, Fr wr.drew w5 ([w1.heap.size + 2, w1.heap.size, w1.heap.size + 1, q] ++ v.ownBlock.toList) → Below W0.heap.size W0 w5 ∧ w5.ownsRow w4.heap.size 36 1 (.slice Au R.length cu) R.length (R.map RowB.v) ∧ w4.heap.size ≤ w5.heap.size := fun w5 hf =>
        ⟨hb.drew.trans (fr_below (hL.kept (w' := wr.drew) (Below.refl _ _).drew) hf hb.size (by have := H3.out.2.2; omega)), row_logged (hL.kept (w' := wr.drew) (Below.refl _ _).drew) hf hrow hbase, Nat.le_trans hsz hf.size⟩
      have HST := Lib.hid hstep
      clear hlr hRok hRk hL hLf hLb hS hT hb hsz hro hro0 hd4 hcut0 hrow hbase hstep hkl
      rcases hgs with ⟨e5, hg5⟩ | ⟨e0, hg0, hf0, hb0, ha0⟩ | ⟨e30, eL, hT30, ha30⟩
      · rw [e5] at hap
        have HAP := Lib.hid hap
        have HG5 := Lib.hid hg5
        clear hap e5 hg5
        go_upto_region 15 with go_in
        go_region
        all_goals
          go_wp2_with (first
            | (go_at_call 17; (with_reducible refine HAP.out.mono ?_); rintro e w5 ⟨rfl, hlg⟩; have HLG := Lib.hid hlg; clear hlg)
            | go_in)
          obtain ⟨v5, hl5, hf5⟩ := HLG.out
          obtain ⟨x1, x2, x3, x4, x5, x6, x7, x8, x9, x10, x11, x12, x13, x14⟩ := HX.out
          obtain ⟨y1, y2, y3⟩ := HST.out w5 hf5
          exact ⟨⟨k + 1, T + 70, L, v5, M, R, lr, false, by omega, by omega, by simp, rfl, rfl, x1, x2, by omega, y2, hl5, x6, x7, HG5.out, by omega, y1, y3⟩, by simp [intOf]; omega⟩
      · rw [e0] at hap
        have HAP := Lib.hid hap
        have HG0 := Lib.hid (And.intro hg0 (And.intro hf0 hb0))
        clear hap e0 hg0 hf0 hb0 ha0
        go_upto_region 15 with go_in
        go_region
        all_goals
          go_upto_region 18 with (first
            | (go_at_call 17; (with_reducible refine HAP.out.mono ?_); rintro e w5 ⟨rfl, hlg⟩; have HLG := Lib.hid hlg; clear hlg)
            | go_in)
          obtain ⟨v5, hl5, hf5⟩ := HLG.out
          obtain ⟨y1, y2, y3⟩ := HST.out w5 hf5
          have HY := Lib.hid (And.intro hl5 (And.intro y1 (And.intro y2 y3)))
          clear hl5 hf5 y1 y2 y3
          go_wp2_with (first
            | (at_builtin; refine wpList_appR _ rfl (.tmp 85) (.tmp 87) _ rfl w4.heap.size 36 ISL _ 1 24 Try.underlying22 HI.out.1 HI.out.2.1 HI.out.2.2.1 HI.out.2.2.2 rfl (by omega) (.slice Au R.length cu) R.length (R.map RowB.v) rfl (World.ownsRow.alloc HY.out.2.2.1 _) (w5.heap.size + 1) (some ⟨w5.heap.size, 0, none⟩) 1 1 [.slice rA (min (rl.length : Int) 300).toNat rc] rfl rfl (Rd.new w5 #[.slice rA (min (rl.length : Int) 300).toNat rc] 36 (0, 0)) (by simp [Value.oneCell']) (by have := HX.out.2.2.1; omega) (by omega) (by have := HY.out.2.2.2; simp; omega) ?_; intro v6 w6 hown6 hg6 hat6; have HG6 := Lib.hid (And.intro hown6 hg6); clear hown6 hg6 hat6)
            | go_in)
          obtain ⟨x1, x2, x3, x4, x5, x6, x7, x8, x9, x10, x11, x12, x13, x14⟩ := HX.out
          obtain ⟨y1, y2, y3, y4⟩ := HY.out
          obtain ⟨z1, z2⟩ := HG6.out
          have hrow6 : w6.ownsRow w4.heap.size 36 1 v6 (R ++ [RowB.cut ⟨rA, rl, rc⟩ 300]).length ((R ++ [RowB.cut ⟨rA, rl, rc⟩ 300]).map RowB.v) := by
            rw [List.length_append, List.map_append]
            show w6.ownsRow _ _ _ _ (R.length + 1) (R.map RowB.v ++ [.slice rA (rl.take 300).length rc])
            rw [x12]
            exact z1
          have hl6 := y1.beside rfl y3 x13 z2
          have hb6 : Below W0.heap.size W0 w6 := y2.trans (((Below.refl _ w5).alloc y2.size _).trans (grown_below' z2 (fun j hj => by have := (World.ownsRow.lt y3 j hj).1; have := x9.size; have := H4.out.2.size; omega) (by have := y2.size; simp; omega)))
          refine ⟨⟨k + 1, T + 70, _, v5, _, R ++ [RowB.cut ⟨rA, rl, rc⟩ 300], lr, false, by omega, by omega, by simp, rfl, rfl, x1, fun r hr => ?_, by simp; omega, hrow6, hl6, HG0.out.2.1.trans x6, HG0.out.2.2.trans x7, ?_, by omega, hb6, Nat.le_trans y4 (by have := z2.size; simp at this; omega)⟩, by simp [intOf]; omega⟩
          · rcases List.mem_append.1 hr with h | h
            · exact x2 r h
            · rw [List.mem_singleton.1 h]; exact x11
          · rw [List.map_append]
            exact HG0.out.1
      · rw [e30] at hap
        have HAP := Lib.hid hap
        have HG0 := Lib.hid (And.intro hT30 eL)
        clear hap e30 eL hT30 ha30
        go_upto_region 15 with go_in
        go_region
        all_goals
          go_wp2_with (first
            | (go_at_call 17; (with_reducible refine HAP.out.mono ?_); rintro e w5 ⟨rfl, hlg⟩; have HLG := Lib.hid hlg; clear hlg)
            | go_in)
          obtain ⟨v5, hl5, hf5⟩ := HLG.out
          obtain ⟨x1, x2, x3, x4, x5, x6, x7, x8, x9, x10, x11, x12, x13, x14⟩ := HX.out
          obtain ⟨y1, y2, y3⟩ := HST.out w5 hf5
          rw [HG0.out.2] at hl5
          exact ⟨⟨k + 1, T + 70, L, v5, _, R, RowB.cut ⟨rA, rl, rc⟩ 300, true, by omega, by omega, by simp, rfl, (by show _ = Value.slice rA (rl.take 300).length rc; rw [x12]), x11, x2, by omega, y2, hl5, x6, x7, HG0.out.1, by omega, y1, y3⟩, by simp [intOf]; omega⟩
    · have hx' : (¬ (k : Int) < (rows.length : Int)) ∨ ((k : Int) < (rows.length : Int) ∧ ¬ (k : Int) < 12) ∨ ((k : Int) < (rows.length : Int) ∧ (k : Int) < 12 ∧ dyb = true) := by
        by_cases h1 : k < rows.length
        · by_cases h2 : k < 12
          · right; right
            cases dyb with
            | true => exact ⟨by omega, by omega, rfl⟩
            | false => exact absurd ⟨h1, h2, rfl⟩ hgo
          · right; left; omega
        · left; omega
      have hbw : Below w.heap.size w wr := HB0.out.1.trans (lower' hb (by have := HB0.out.2.2; omega))
      have hr2 : Rd wr wr.heap.size A2 (keep.map Value.bool) := (HR.out.2.2.below hbw (Nat.le_refl _)).more hbw.size
      have hcr := crashM hL.disk (by omega) A2 c2 keep n1 n2 hr2
      have gbr := (hb.block w.heap.size (heap_lt HB0.out.2.1)).trans HB0.out.2.1
      have k1 := cell_of_row wr w.heap.size 1 _ _ _ gbr
      have k2 := cell_of_row wr w.heap.size 2 _ _ _ gbr
      obtain ⟨D, hDR, hDok, hW⟩ : ∃ D : List RowB, (D = R ∨ dyb = true ∧ D = R ++ [lr]) ∧ (∀ r ∈ D, r.ok w w.heap.size) ∧ Whole (M.crashed keep n1 n2).sure 3 53 (numR 1 (D.map RowB.l)) := by
        rcases hS.crash hL.disk.full (by omega) keep n1 n2 with h | ⟨h0, h⟩
        · rw [hLf, hLb] at h
          exact ⟨R, .inl rfl, hRok, h⟩
        · rw [hLf, hLb] at h
          refine ⟨R ++ [lr], .inr ⟨h0, rfl⟩, fun r hr => ?_, by rw [List.map_append]; exact h⟩
          rcases List.mem_append.1 hr with h | h
          · exact hRok r h
          · rw [List.mem_singleton.1 h]; exact hlr
      have hMs : (M.crashed keep n1 n2).size = 60 := by
        show M.size = 60
        cases dyb with
        | true => exact Torn.size hS
        | false => exact Going.size hS
      have hop : ∀ w5 p' bs' bw', DiskM w5 p' bs' bw' (M.crashed keep n1 n2) T → Calls Try.prog 15 #[.pointer (some ⟨p', 0, none⟩), .int .i64 3, .int .i64 50] w5 _ := fun w5 p' bs' bw' h => open_crashed h rfl (fun _ => rfl) rfl rfl 3 50 (by omega) (by omega) (by omega) (by omega) hW
      obtain ⟨Au, cu, rfl, _, _, _⟩ := own_shape hrow
      have HX := Lib.hid (And.intro hlr (And.intro hRok (And.intro hrow (And.intro hL (And.intro hb (And.intro hDR (And.intro hDok (And.intro hbw hRk))))))))
      have HCR := Lib.hid hcr
      have HOP := Lib.hid hop
      clear hlr hRok hRk hrow hL hLf hLb hS hT hb hsz hr2 hcr gbr hDok hW hMs hop hbw hgo HG HI
      have hcase : D = R ∧ True ∨ dyb = true ∧ D = R ++ [lr] := by
        rcases hDR with h | h
        · exact .inl ⟨h, trivial⟩
        · exact .inr h
      clear hDR
      rcases hx' with e1 | ⟨e1, e2⟩ | ⟨e1, e2, rfl⟩
      all_goals
        go_upto_region 22 with (first
          | (go_at_call 18; (with_reducible refine HCR.out.mono ?_); rintro e w5 ⟨p', bs', bw', rfl, hp1, hp2, hp3, hD5, hb5⟩; have HO5 := Lib.hid (HOP.out _ _ _ _ hD5))
          | go_in)
        have H5 := Lib.hid (And.intro hp1 (And.intro hp2 (And.intro hp3 (And.intro hD5.lt hb5))))
        clear hp1 hp2 hp3 hD5 hb5 HOP HCR k1 k2
        go_upto_region 25 with (first
          | (go_at_call 15; (with_reducible refine HO5.out.mono ?_); rintro e w6 ⟨q6, A6, c6, v6, R6, M6, rfl, hq6, hR6, hRd6, hDa6, hL6, hF6⟩)
          | go_in)
        obtain ⟨xlr, xR, xrow, xL, xb, hDR, xDok, xbw, xRk⟩ := HX.out
        obtain ⟨zp1, zp2, zp3, zlt, zb⟩ := H5.out
        have hnum := numR_of hR6
        have hlenD : R6.length = D.length := by rw [hnum.1, List.length_map]
        have hrow5 : w5.ownsRow w4.heap.size 36 1 (.slice Au R.length cu) R.length (R.map RowB.v) := own_below xrow zb (Nat.le_refl _)
        have hrow6 : w6.ownsRow w4.heap.size 36 1 (.slice Au R.length cu) R.length (R.map RowB.v) := rowFrS hrow5 hF6 (fun s hs hm => by
          have h1 := (World.ownsRow.lt xrow s (by simpa using hs)).2
          simp at hm
          omega)
        have hRdu : Rd w6 w6.heap.size Au (R.map RowB.v) := Rd.ofOwn hrow6
        have hbw6 : Below w.heap.size w w6 := xbw.trans ((lower' zb xbw.size).trans (hF6.below (Nat.le_trans xbw.size zb.size) (by have := xbw.size; simp; omega)))
        have hnxe : (LG.of 3 (3 + 50) (numR 1 (D.map RowB.l))).next = R6.length + 1 := by
          show (nextR none (numR 1 (D.map RowB.l))).getD 1 = _
          rw [numR_next0, hnum.1]
        have HNE := Lib.hid hnxe
        have hRk2 : (R.length : Int) ≤ 12 := by omega
        have hget : ∀ j (hj : j < R6.length), ∃ b : RowB, b.ok w w.heap.size ∧ (∀ hR : j < R.length, b = R[j]) ∧ (¬ j < R.length → b = lr) ∧ R6[j].s = 1 + j ∧ R6[j].d = b.l := by
          intro j hj
          have hjD : j < D.length := by omega
          obtain ⟨h1, h2⟩ := hnum.2 j hj (by rw [List.length_map]; exact hjD)
          refine ⟨D[j], xDok _ (List.getElem_mem hjD), fun hR => ?_, fun hR => ?_, h1, by rw [h2, List.getElem_map]⟩
          · rcases hDR with h | ⟨_, h⟩
            · subst h; rfl
            · subst h; rw [List.getElem_append_left hR]
          · rcases hDR with h | ⟨_, h⟩
            · subst h; exact absurd hjD hR
            · subst h
              have : j = R.length := by rw [List.length_append] at hjD; simp at hjD; omega
              subst this
              simp
        have hW06 : Hid (Below w.heap.size w w6) := Lib.hid hbw6
        have HG := Lib.hid hget
        have HD := Lib.hid (And.intro hRd6 (And.intro hDa6 hRdu))
        have HL6 := Lib.hid hL6
        have f1 : decide (R6.length < R.length) = false := by
          rcases hDR with h | ⟨_, h⟩
          · rw [hlenD, h]; simp
          · rw [hlenD, h, List.length_append]; simp
        have f2 : ¬ (R.length : Int) + 1 < (R6.length : Int) := by
          rcases hDR with h | ⟨_, h⟩
          · rw [hlenD, h]; omega
          · rw [hlenD, h, List.length_append]; simp
        have hlen3 : decide (R.length < R6.length) = false ∨ decide (R.length < R6.length) = true := by cases decide (R.length < R6.length) <;> simp
        have hlen4 : decide (R.length < R6.length) = true → D ≠ R := fun h e => by rw [hlenD, e] at h; simp at h
        have f4 : (R6.length : Int) ≤ 13 := by omega
        have hlen5 : D = R ++ [lr] → decide (R.length < R6.length) = true := fun h => by rw [hlenD, h, List.length_append]; simp
        clear xlr xR xrow xL xb xDok xbw xRk zp1 zp2 zp3 zlt zb hnum hlenD hrow5 hrow6 hRdu hbw6 hnxe hget hRd6 hDa6 hL6 hF6 hR6 hq6 HX H5 HO5
        have tail : ∀ b : Bool, True := fun _ => trivial
        rcases hDR with hD | ⟨hdy, hD⟩
        · have f3 : decide (R.length < R6.length) = false := by
            rcases hlen3 with h | h
            · exact h
            · exact absurd hD (hlen4 h)
          clear hlen3 hlen4 hlen5 hcase hD tail
          go_wp2_with go_in
          go_loopw [141] (fun i wr2 => ∃ j : Nat, j ≤ R6.length ∧ i = .int .i64 (j : Int) ∧ Below w6.heap.size w6 wr2)
            (fun i _ => R6.length - (intOf i).toNat)
          case atStart => exact ⟨0, by omega, rfl, Below.refl _ _⟩
          case round =>
            obtain ⟨j, hj, rfl, hb2⟩ := hrel
            by_cases hjl : j < R6.length
            · have hjI : (j : Int) < (R6.length : Int) := by omega
              obtain ⟨b, hbok, hb1, hbn, hs6, hd6⟩ := HG.out j hjl
              obtain ⟨ab, ao, rfl, hab, hcc⟩ := HD.out.1 (by intro e; have := recC_len R6; rw [e] at this; simp at this; omega)
              obtain ⟨hc0, hc1⟩ := recC_get R6 j hjl
              have p0 : wr.cell? ⟨ab, ao + j * 2, none⟩ = some (.int .i64 ((j : Int) + 1)) := by
                rw [hb2.cell (p := ⟨ab, ao + j * 2, none⟩) hab, hcc _ _ hc0, hs6]
                exact congrArg (fun x => some (Value.int .i64 x)) (by omega)
              have hda := HD.out.2.1 R6[j] (List.getElem_mem hjl)
              rw [hd6] at hc1 hda
              have p1 : wr.cell? ⟨ab, ao + j * 2 + 1, none⟩ = some (.slice R6[j].A b.l.length R6[j].c) := by
                rw [hb2.cell (p := ⟨ab, ao + j * 2 + 1, none⟩) hab, Nat.add_assoc, hcc _ _ hc1]
              have hs1 : ∀ n, (convert 36 9 (.slice R6[j].A b.l.length R6[j].c)).run Try.prog (wr.drewN n) = .ok (.string ⟨b.l.toArray⟩) (wr.drewN n) := fun n => strAt ((hda.1.below hb2 (Nat.le_refl _)).drewN n) rfl
              have hs2 : ∀ n, (convert 36 9 b.v).run Try.prog (wr.drewN n) = .ok (.string ⟨b.l.toArray⟩) (wr.drewN n) := fun n => RowB.str (B := w.heap.size) ⟨(((hbok.below hW06.out (Nat.le_refl _)).below hb2 hW06.out.size).1).drewN n, hbok.2⟩
              generalize R6[j].A = A7 at p1 hs1
              generalize R6[j].c = c7 at p1 hs1
              have HX2 := Lib.hid (And.intro hb2 hjl)
              by_cases hjR : j < R.length
              · obtain rfl := hb1 hjR
                have hRI : (j : Int) < (R.length : Int) := by omega
                have hrd := HD.out.2.2
                obtain ⟨ub, uo, rfl, hub, hucell⟩ := hrd.get (k := j) (by simpa using hjR)
                have pu : wr.cell? ⟨ub, uo + j, none⟩ = some (R[j]).v := by
                  have h := hucell
                  simp only [List.getElem_map] at h
                  rw [← h]
                  exact hb2.cell (p := ⟨ub, uo + j, none⟩) hub
                generalize R[j] = b at p1 hs1 hs2 pu
                clear hbok hb1 hbn hs6 hd6 hab hcc hc0 hc1 hda hb2 hrd hub hucell hjl
                go_upto_region 33 with go_in
                have hwj : IntKind.i64.wrap ((j : Int) + 1) = (j : Int) + 1 := IntWalk.i64_in _ (by omega)
                go_quiet (fail)
                clear hwj
                go_wp2_with go_in
                exact ⟨⟨j + 1, by have := HX2.out.2; omega, by simp, Below.drewN' HX2.out.1 _⟩, by simp [intOf]; have := HX2.out.2; omega⟩
              · obtain rfl := hbn hjR
                have hRI : ¬ (j : Int) < (R.length : Int) := by omega
                clear hbok hb1 hbn hs6 hd6 hab hcc hc0 hc1 hda hb2 hjl
                go_upto_region 33 with go_in
                have hwj : IntKind.i64.wrap ((j : Int) + 1) = (j : Int) + 1 := IntWalk.i64_in _ (by omega)
                go_quiet (fail)
                clear hwj
                go_wp2_with go_in
                exact ⟨⟨j + 1, by have := HX2.out.2; omega, by simp, Below.drewN' HX2.out.1 _⟩, by simp [intOf]; have := HX2.out.2; omega⟩
            · obtain rfl : j = R6.length := by omega
              have hnx := next_any (HL6.out.kept hb2).log
              rw [HNE.out] at hnx
              have HNX2 := Lib.hid hnx
              have HB2 := Lib.hid hb2
              clear hnx hb2 hjl
              go_wp2_with (first
                | (go_at_call 19; (with_reducible refine HNX2.out.mono ?_); rintro e w7 ⟨rfl, rfl⟩)
                | go_in)
              go_ret
              exact ⟨rfl, hW06.out.trans (lower' HB2.out hW06.out.size)⟩
        · cases hdy
          have f3 : decide (R.length < R6.length) = true := hlen5 hD
          clear hlen3 hlen4 hlen5 hcase hD tail
          go_wp2_with go_in
          go_loopw [141] (fun i wr2 => ∃ j : Nat, j ≤ R6.length ∧ i = .int .i64 (j : Int) ∧ Below w6.heap.size w6 wr2)
            (fun i _ => R6.length - (intOf i).toNat)
          case atStart => exact ⟨0, by omega, rfl, Below.refl _ _⟩
          case round =>
            obtain ⟨j, hj, rfl, hb2⟩ := hrel
            by_cases hjl : j < R6.length
            · have hjI : (j : Int) < (R6.length : Int) := by omega
              obtain ⟨b, hbok, hb1, hbn, hs6, hd6⟩ := HG.out j hjl
              obtain ⟨ab, ao, rfl, hab, hcc⟩ := HD.out.1 (by intro e; have := recC_len R6; rw [e] at this; simp at this; omega)
              obtain ⟨hc0, hc1⟩ := recC_get R6 j hjl
              have p0 : wr.cell? ⟨ab, ao + j * 2, none⟩ = some (.int .i64 ((j : Int) + 1)) := by
                rw [hb2.cell (p := ⟨ab, ao + j * 2, none⟩) hab, hcc _ _ hc0, hs6]
                exact congrArg (fun x => some (Value.int .i64 x)) (by omega)
              have hda := HD.out.2.1 R6[j] (List.getElem_mem hjl)
              rw [hd6] at hc1 hda
              have p1 : wr.cell? ⟨ab, ao + j * 2 + 1, none⟩ = some (.slice R6[j].A b.l.length R6[j].c) := by
                rw [hb2.cell (p := ⟨ab, ao + j * 2 + 1, none⟩) hab, Nat.add_assoc, hcc _ _ hc1]
              have hs1 : ∀ n, (convert 36 9 (.slice R6[j].A b.l.length R6[j].c)).run Try.prog (wr.drewN n) = .ok (.string ⟨b.l.toArray⟩) (wr.drewN n) := fun n => strAt ((hda.1.below hb2 (Nat.le_refl _)).drewN n) rfl
              have hs2 : ∀ n, (convert 36 9 b.v).run Try.prog (wr.drewN n) = .ok (.string ⟨b.l.toArray⟩) (wr.drewN n) := fun n => RowB.str (B := w.heap.size) ⟨(((hbok.below hW06.out (Nat.le_refl _)).below hb2 hW06.out.size).1).drewN n, hbok.2⟩
              generalize R6[j].A = A7 at p1 hs1
              generalize R6[j].c = c7 at p1 hs1
              have HX2 := Lib.hid (And.intro hb2 hjl)
              by_cases hjR : j < R.length
              · obtain rfl := hb1 hjR
                have hRI : (j : Int) < (R.length : Int) := by omega
                have hrd := HD.out.2.2
                obtain ⟨ub, uo, rfl, hub, hucell⟩ := hrd.get (k := j) (by simpa using hjR)
                have pu : wr.cell? ⟨ub, uo + j, none⟩ = some (R[j]).v := by
                  have h := hucell
                  simp only [List.getElem_map] at h
                  rw [← h]
                  exact hb2.cell (p := ⟨ub, uo + j, none⟩) hub
                generalize R[j] = b at p1 hs1 hs2 pu
                clear hbok hb1 hbn hs6 hd6 hab hcc hc0 hc1 hda hb2 hrd hub hucell hjl
                go_upto_region 33 with go_in
                have hwj : IntKind.i64.wrap ((j : Int) + 1) = (j : Int) + 1 := IntWalk.i64_in _ (by omega)
                go_quiet (fail)
                clear hwj
                go_wp2_with go_in
                exact ⟨⟨j + 1, by have := HX2.out.2; omega, by simp, Below.drewN' HX2.out.1 _⟩, by simp [intOf]; have := HX2.out.2; omega⟩
              · obtain rfl := hbn hjR
                have hRI : ¬ (j : Int) < (R.length : Int) := by omega
                clear hbok hb1 hbn hs6 hd6 hab hcc hc0 hc1 hda hb2 hjl
                go_upto_region 33 with go_in
                have hwj : IntKind.i64.wrap ((j : Int) + 1) = (j : Int) + 1 := IntWalk.i64_in _ (by omega)
                go_quiet (fail)
                clear hwj
                go_wp2_with go_in
                exact ⟨⟨j + 1, by have := HX2.out.2; omega, by simp, Below.drewN' HX2.out.1 _⟩, by simp [intOf]; have := HX2.out.2; omega⟩
            · obtain rfl : j = R6.length := by omega
              have hnx := next_any (HL6.out.kept hb2).log
              rw [HNE.out] at hnx
              have HNX2 := Lib.hid hnx
              have HB2 := Lib.hid hb2
              clear hnx hb2 hjl
              go_wp2_with (first
                | (go_at_call 19; (with_reducible refine HNX2.out.mono ?_); rintro e w7 ⟨rfl, rfl⟩)
                | go_in)
              go_ret
              exact ⟨rfl, hW06.out.trans (lower' HB2.out hW06.out.size)⟩
end Go.Proofs.Ytkanlecgopcocaa
