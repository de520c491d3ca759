/- LogResets: the walk. -/
import Derived.Test.YtkanlecgopcocaaLogU
import Derived.Test.YtkanlecgopcocaaLogR
namespace Go.Proofs.Ytkanlecgopcocaa
open Go.RowKit Go.Maps

/-- An Open of a disk that was just crashed, whatever its records. -/
theorem open_calm {w : World} {p bs bw T : Nat} {M : DM} {rs : List Rec} (hD : DiskM w p bs bw M T) (ha : M.armed = false) (hs : M.steps = 0) (hl : M.left = 0) (first count : Nat) (hscan : scan M.get (first + count) first none = rs) (hc : 2 ≤ count) (hfit : first + count ≤ M.size) (hz : M.size ≤ 4096) (hT : T ≤ 1000000) :
    Calls Try.prog 15 #[.pointer (some ⟨p, 0, none⟩), .int .i64 (first : Int), .int .i64 (count : Int)] w fun e w' =>
      ∃ q A c v M', e = .returned (.tuple #[.pointer (some ⟨q, 0, none⟩), .slice A rs.length c, .int .i64 0]) ∧ w.heap.size ≤ q ∧ RecsAt w' (q + 1) (.slice A rs.length c) rs ∧ LogD w' (q + 1) q p bs bw (T + 4097) (LG.of first (first + count) rs) v M' ∧ Fr w w' [p, bs, bw] := by
  refine (open_any hD first count hc hfit ⟨hz, by rw [hs]; omega, by rw [hl]; omega, by omega⟩).mono ?_
  rintro e w' ⟨h1, _, h3⟩
  rw [hscan] at h1
  obtain ⟨q, u, v, rfl, h4, h5, h6⟩ := h1 (by rw [runOps_alive ha])
  obtain ⟨R, hR1, hR2, hR3⟩ := h5.ex
  obtain ⟨A, c, rfl, _, _, hR4⟩ := own_shape hR2
  have hle : R.length = rs.length := by rw [← hR1, List.length_map]
  rw [hle] at h5 ⊢
  exact ⟨q, A, c, v, _, rfl, h4, h5, h6, h3⟩
theorem rstOps_len (first : Nat) (rs : List Rec) : (rstOps first rs).length ≤ 2 + endR first rs := by
  have h1 := heads_len first rs
  have h2 := others_len rs first
  unfold rstOps
  split
  · simp
  · simp only [wipeOps, zeroOps, List.length_append, List.length_map, List.length_cons, List.length_nil]
    omega
/-- A Reset while the power may go, and a crash behind it. -/
theorem reset_crash {M : DM} {L : LG} {ds : List (List UInt8)} {n k : Nat} (h : Going M L ds n k) (hfull : (rstR L M 40).2.1.full) (hb : L.behind ≤ n) (keep : List Bool) (torn cut : Int) :
    (∃ m, m ≤ ds.length ∧ scan ((rstR L M 40).2.1.crashed keep torn cut).get L.behind L.first none = numR 1 (ds.take m) ∧ ((rstR L M 40).1 = 0 → m = 0)) ∧ ((rstR L M 40).1 = 0 ∧ (rstR L M 40).2.2.next = 40 ∨ (rstR L M 40).1 = 30) ∧ (rstR L M 40).2.1.size = n := by
  have e : rstR L M 40 = if (runOps (rstOps L.first L.recs) M).1 = 0 then (0, (runOps (rstOps L.first L.recs) M).2, LG.mk L.first L.behind [] 40) else (30, (runOps (rstOps L.first L.recs) M).2, L) := by
    unfold rstR
    rw [if_neg (by omega)]
    rfl
  have e2 : (rstR L M 40).2.1 = (runOps (rstOps L.first L.recs) M).2 := by rw [e]; split <;> rfl
  obtain ⟨j, hj, hdone, hcase⟩ := runOps_cut (rstOps L.first L.recs) M
  have hsz : (runOps (rstOps L.first L.recs) M).2.size = n := (runOps_facts _ M).1.trans h.size
  rw [e2] at hfull ⊢
  have hcr : Crashes (runOps (rstOps L.first L.recs) M).2 L.behind ((runOps (rstOps L.first L.recs) M).2.left1 keep torn cut) := crashes_left1 _ hfull keep torn cut (by rw [hsz]; exact hb)
  rw [hdone] at hcr
  have hrc := reset_cut h.clean hcr (by have := h.ok.first; omega)
  rw [← hdone] at hrc
  refine ⟨?_, ?_, hsz⟩
  · have hget : ((runOps (rstOps L.first L.recs) M).2.crashed keep torn cut).get = (runOps (rstOps L.first L.recs) M).2.left1 keep torn cut := rfl
    rw [hget]
    generalize scan ((runOps (rstOps L.first L.recs) M).2.left1 keep torn cut) L.behind L.first none = rs at hrc
    obtain ⟨hp, h0⟩ := hrc
    rw [h.recs] at hp
    have hl : rs.length ≤ ds.length := by have := hp.length_le; rw [numR_len] at this; exact this
    refine ⟨rs.length, hl, ?_, fun hc => ?_⟩
    · rw [← numR_take]
      exact List.prefix_iff_eq_take.1 hp
    · rcases hcase with ⟨_, hjl⟩ | ⟨h30, _⟩
      · rw [h0 (by omega)]; rfl
      · rw [e] at hc
        rw [h30] at hc
        simp at hc
  · rw [e]
    rcases hcase with ⟨h0, _⟩ | ⟨h30, _⟩
    · left
      rw [if_pos h0]
      exact ⟨rfl, rfl⟩
    · right
      rw [if_neg (by rw [h30]; omega)]

set_option maxRecDepth 100000 in
set_option maxHeartbeats 4000000 in
theorem logResets_walk (A : Option Addr) (rows : List RowB) (c : Nat) (A2 : Option Addr) (keep : List Bool) (c2 : Nat) (n0 n1 n2 : Int) (w : World) (hr : Rd w w.heap.size A (rows.map RowB.v)) (hrows : ∀ r ∈ rows, r.ok w w.heap.size) (hr2 : Rd w w.heap.size A2 (keep.map Value.bool)) :
    Calls Try.prog 5 #[.slice A rows.length c, .slice A2 keep.length c2, .agg #[.int .i64 n0, .int .i64 n1, .int .i64 n2]] w fun e w' => e = .returned (.bool true) ∧ Below w.heap.size w w' := by
  have hB0 : Below w.heap.size w (w.alloc (.cells #[.int .i64 n0, .int .i64 n1, .int .i64 n2] 24)) := (Below.refl _ _).alloc (Nat.le_refl _) _
  have g5 := heap_alloc_new w (.cells #[.int .i64 n0, .int .i64 n1, .int .i64 n2] 24)
  have s5 := alloc1_size w (.cells #[.int .i64 n0, .int .i64 n1, .int .i64 n2] 24)
  have H1 := Lib.hid (fun W => logAwake_any W)
  have HB0 := Lib.hid (And.intro hB0 (And.intro g5 s5))
  have HR := Lib.hid (And.intro hr (And.intro hrows hr2))
  obtain ⟨ISL, hi, hz0, hz1, hz2⟩ := info_parts infoSl
  have HI := Lib.hid (And.intro hi (And.intro hz0 (And.intro hz1 hz2)))
  obtain ⟨m, hm50, hmE⟩ : ∃ k : Nat, k < 50 ∧ wrap64 ((IntKind.u64.wrap n0).tmod 50) = (k : Int) := rem_n n0 50 (by omega) (by omega)
  have HM := Lib.hid hmE
  clear hB0 g5 s5 hr hrows hr2 hi hz0 hz1 hz2 hmE
  go_enter Try.func5, Try.ntmps5
  go_upto_region 1 with go_in
  generalize w.alloc (.cells #[.int .i64 n0, .int .i64 n1, .int .i64 n2] 24) = W0 at HB0 ⊢
  go_upto_region 3 with (first
    | (go_at_call 13; (refine (H1.out W0).mono ?_); rintro e w1 ⟨rfl, hb1⟩; have HB1 := Lib.hid hb1; clear hb1)
    | go_in)
  go_upto_region 6 with (first
    | (go_at_call 14; (refine (newM 60 w1 (by omega) (by omega)).mono ?_); rintro e w2 ⟨rfl, hD, hF⟩)
    | go_in)
  have hB2 : Below W0.heap.size W0 w2 := HB1.out.trans (hF.below HB1.out.size (by simp))
  have hop : Calls Try.prog 15 #[.pointer (some ⟨w1.heap.size + 2, 0, none⟩), .int .i64 0, .int .i64 60] w2 _ := open_new (m := 60) (by omega) hD 0 60 (by omega) (by omega)
  have HO := Lib.hid hop
  have H2 := Lib.hid (And.intro hB2 HB1.out.size)
  clear hD hF hB2 hop
  go_upto_region 7 with (first
    | (go_at_call 15; (with_reducible refine HO.out.mono ?_); rintro e w3 ⟨q, A3, c3, v3, rfl, hq, hL, hF3⟩)
    | go_in)
  have hz := H2.out.2
  have hB3 : Below W0.heap.size W0 w3 := H2.out.1.trans (hF3.below H2.out.1.size (by simp; omega))
  have hqz : W0.heap.size ≤ q := Nat.le_trans H2.out.1.size hq
  have hG := Going.new 60 0 60 (by omega) (by omega)
  have HG := Lib.hid hG
  have H3 := Lib.hid (And.intro hL (And.intro hB3 (And.intro hqz hz)))
  clear hL hF3 hB3 hqz hz hG hq HO
  go_wp2_with go_in
  go_loopw [11, 12] (fun u i wr => ∃ (k T : Nat) (L : LG) (v : Value) (M : DM) (R : List RowB), k ≤ rows.length ∧ k ≤ 8 ∧ i = .int .i64 (k : Int) ∧ (∀ r ∈ R, r.ok w w.heap.size) ∧ R.length ≤ k ∧
      wr.ownsRow w3.heap.size 36 1 u R.length (R.map RowB.v) ∧ LogD wr (q + 1) q (w1.heap.size + 2) w1.heap.size (w1.heap.size + 1) T L v M ∧ L.first = 0 ∧ L.behind = 60 ∧ Going M L (R.map RowB.l) 60 k ∧ M.armed = false ∧ T ≤ 4097 + 70 * k ∧ Below W0.heap.size W0 wr ∧ w3.heap.size ≤ wr.heap.size)
      (fun _ i _ => rows.length - (intOf i).toNat)
  case atStart => exact ⟨0, _, _, _, _, [], by omega, by omega, rfl, by simp, by simp, by simpa using World.ownsRow_nil w3 w3.heap.size 36 1, H3.out.1, rfl, rfl, HG.out, rfl, by omega, H3.out.2.1, Nat.le_refl _⟩
  case round =>
    obtain ⟨k, T, L, v, M, R, hk, hk12, rfl, hRok, hRk, hrow, hL, hLf, hLb, hS, harmed, hT, hb, hsz⟩ := hrel
    by_cases hgo : k < rows.length ∧ k < 8
    · obtain ⟨hkl, hk9⟩ := hgo
      have hkI : (k : Int) < (rows.length : Int) := by omega
      have hkJ : (k : Int) < 8 := by omega
      obtain ⟨r, hre⟩ : ∃ r, r = rows[k] := ⟨_, rfl⟩
      have hbw : Below w.heap.size w wr := HB0.out.1.trans (lower' hb (by have := HB0.out.2.2; omega))
      have hro0 : r.ok w w.heap.size := by rw [hre]; exact HR.out.2.1 _ (List.getElem_mem hkl)
      have hro : r.ok wr w.heap.size := hro0.below hbw (Nat.le_refl _)
      obtain ⟨ab, ao, rfl, hab, hcell⟩ := HR.out.1.get (k := k) (by simpa using hkl)
      have hrow1 : wr.cell? ⟨ab, ao + k, none⟩ = some (.slice r.A r.l.length r.c) := by
        have h := hcell
        simp only [List.getElem_map, ← hre] at h
        rw [show (Value.slice r.A r.l.length r.c) = r.v from rfl, ← h]
        exact hbw.cell (p := ⟨ab, ao + k, none⟩) hab
      clear hre hcell hbw
      have hcut0 := hro0.cut 200
      obtain ⟨rA, rl, rc⟩ := r
      have hlc : (rl.length : Int) ≤ (rc : Int) := by have h : rl.length ≤ rc := hro.2.1; omega
      have hcb : (rc : Int) ≤ 140737488351232 := by have h : rc ≤ 140737488351232 := hro.2.2; omega
      have hd4 : (rl.take 200).length = (min (rl.length : Int) 200).toNat := by rw [List.length_take]; omega
      have hap := append_any (hL.kept (w' := wr.drew) (Below.refl _ _).drew) rA (rl.take 200) rc w.heap.size (by rw [u8s_take]; exact (hro.1.take 200).drew) (Nat.le_trans (by have := HB0.out.2.2; omega) hb.size) (fun hne a ha => by
        obtain ⟨b', o', e', hb', _⟩ := hro.1 (by intro e; apply hne; have := congrArg List.length e; rw [u8s_len] at this; simp at this; simp [this])
        rw [ha] at e'; cases e'
        have h3 := H2.out.2
        have h5 := HB0.out.2.2
        have h6 := H3.out.2.2.1
        show b' ≠ _ ∧ b' ≠ _ ∧ b' ≠ _
        omega) (by rw [List.length_take]; omega) (by have := hro.2.1; have := hro.2.2; show rc ≤ _; omega) (hS.fit (by omega) (by omega) (by omega))
      rw [hd4] at hap
      have hgs := Going.append hS (rl.take 200) (by rw [List.length_take]; omega) (by omega)
      have hbase : q + 1 ≤ w3.heap.size := H3.out.1.low
      obtain ⟨Au, cu, rfl, _, _, _⟩ := own_shape hrow
      have HX := Lib.hid (And.intro hRok (And.intro hRk (And.intro hLf (And.intro hLb (And.intro hT (And.intro hb (And.intro hcut0 (And.intro hd4 (And.intro hbase (And.intro hkl harmed))))))))))
      have hstep : ∀ w5, Fr wr.drew w5 ([w1.heap.size + 2, w1.heap.size, w1.heap.size + 1, q] ++ v.ownBlock.toList) → Below W0.heap.size W0 w5 ∧ w5.ownsRow w3.heap.size 36 1 (.slice Au R.length cu) R.length (R.map RowB.v) ∧ w3.heap.size ≤ w5.heap.size := fun w5 hf =>
        ⟨hb.drew.trans (fr_below (hL.kept (w' := wr.drew) (Below.refl _ _).drew) hf hb.size (by have := H3.out.2.2; omega)), row_logged (hL.kept (w' := wr.drew) (Below.refl _ _).drew) hf hrow hbase, Nat.le_trans hsz hf.size⟩
      have HST := Lib.hid hstep
      clear hRok hRk hL hLf hLb hS hT hb hsz hro hro0 hd4 hcut0 hrow hbase hstep hkl harmed
      rcases hgs with ⟨e5, hg5⟩ | ⟨e0, hg0, hf0, hb0, ha0⟩ | ⟨e30, eL, hT30, ha30⟩
      · rw [e5] at hap
        have HAP := Lib.hid hap
        have HG5 := Lib.hid hg5
        clear hap e5 hg5
        go_upto_region 13 with go_in
        go_region
        all_goals
          go_wp2_with (first
            | (go_at_call 17; (with_reducible refine HAP.out.mono ?_); rintro e w5 ⟨rfl, hlg⟩; have HLG := Lib.hid hlg; clear hlg)
            | go_in)
          obtain ⟨v5, hl5, hf5⟩ := HLG.out
          obtain ⟨x2, x3, x6, x7, x8, x9, x11, x12, x13, x14, x15⟩ := HX.out
          obtain ⟨y1, y2, y3⟩ := HST.out w5 hf5
          exact ⟨⟨k + 1, T + 70, L, v5, M, R, by omega, by omega, by simp, x2, by omega, y2, hl5, x6, x7, HG5.out, x15, by omega, y1, y3⟩, by simp [intOf]; omega⟩
      · rw [e0] at hap
        have HAP := Lib.hid hap
        have HG0 := Lib.hid (And.intro hg0 (And.intro hf0 (And.intro hb0 ha0)))
        clear hap e0 hg0 hf0 hb0 ha0
        go_upto_region 13 with go_in
        go_region
        all_goals
          go_upto_region 15 with (first
            | (go_at_call 17; (with_reducible refine HAP.out.mono ?_); rintro e w5 ⟨rfl, hlg⟩; have HLG := Lib.hid hlg; clear hlg)
            | go_in)
          obtain ⟨v5, hl5, hf5⟩ := HLG.out
          obtain ⟨y1, y2, y3⟩ := HST.out w5 hf5
          have HY := Lib.hid (And.intro hl5 (And.intro y1 (And.intro y2 y3)))
          clear hl5 hf5 y1 y2 y3
          go_wp2_with (first
            | (at_builtin; refine wpList_appR _ rfl (.tmp 68) (.tmp 70) _ rfl w3.heap.size 36 ISL _ 1 24 Try.underlying22 HI.out.1 HI.out.2.1 HI.out.2.2.1 HI.out.2.2.2 rfl (by omega) (.slice Au R.length cu) R.length (R.map RowB.v) rfl (World.ownsRow.alloc HY.out.2.2.1 _) (w5.heap.size + 1) (some ⟨w5.heap.size, 0, none⟩) 1 1 [.slice rA (min (rl.length : Int) 200).toNat rc] rfl rfl (Rd.new w5 #[.slice rA (min (rl.length : Int) 200).toNat rc] 36 (0, 0)) (by simp [Value.oneCell']) (by have := HX.out.2.1; omega) (by omega) (by have := HY.out.2.2.2; simp; omega) ?_; intro v6 w6 hown6 hg6 hat6; have HG6 := Lib.hid (And.intro hown6 hg6); clear hown6 hg6 hat6)
            | go_in)
          obtain ⟨x2, x3, x6, x7, x8, x9, x11, x12, x13, x14, x15⟩ := HX.out
          obtain ⟨y1, y2, y3, y4⟩ := HY.out
          obtain ⟨z1, z2⟩ := HG6.out
          have hrow6 : w6.ownsRow w3.heap.size 36 1 v6 (R ++ [RowB.cut ⟨rA, rl, rc⟩ 200]).length ((R ++ [RowB.cut ⟨rA, rl, rc⟩ 200]).map RowB.v) := by
            rw [List.length_append, List.map_append]
            show w6.ownsRow _ _ _ _ (R.length + 1) (R.map RowB.v ++ [.slice rA (rl.take 200).length rc])
            rw [x12]
            exact z1
          have hl6 := y1.beside rfl y3 x13 z2
          have hb6 : Below W0.heap.size W0 w6 := y2.trans (((Below.refl _ w5).alloc y2.size _).trans (grown_below' z2 (fun j hj => by have := (World.ownsRow.lt y3 j hj).1; have := x9.size; have := H3.out.2.1.size; omega) (by have := y2.size; simp; omega)))
          refine ⟨⟨k + 1, T + 70, _, v5, _, R ++ [RowB.cut ⟨rA, rl, rc⟩ 200], by omega, by omega, by simp, fun r hr => ?_, by simp; omega, hrow6, hl6, HG0.out.2.1.trans x6, HG0.out.2.2.1.trans x7, ?_, HG0.out.2.2.2.trans x15, by omega, hb6, Nat.le_trans y4 (by have := z2.size; simp at this; omega)⟩, by simp [intOf]; omega⟩
          · rcases List.mem_append.1 hr with h | h
            · exact x2 r h
            · rw [List.mem_singleton.1 h]; exact x11
          · rw [List.map_append]
            exact HG0.out.1
      · rw [HX.out.2.2.2.2.2.2.2.2.2.2] at ha30
        cases ha30
    · have hx' : (¬ (k : Int) < (rows.length : Int)) ∨ ((k : Int) < (rows.length : Int) ∧ ¬ (k : Int) < 8) := by omega
      have hbw : Below w.heap.size w wr := HB0.out.1.trans (lower' hb (by have := HB0.out.2.2; omega))
      have gbr := (hb.block w.heap.size (heap_lt HB0.out.2.1)).trans HB0.out.2.1
      have k0 := cell_of_row wr w.heap.size 0 _ _ _ gbr
      have harm := armM hL.disk (m : Int)
      have hGa := hS.arm harmed m (by omega)
      rw [hGa.1] at harm
      have HARM := Lib.hid harm
      obtain ⟨Au, cu, rfl, _, _, _⟩ := own_shape hrow
      have HX := Lib.hid (And.intro hRok (And.intro hrow (And.intro hL (And.intro hb (And.intro hbw (And.intro hGa.2 (And.intro hLf (And.intro hLb (And.intro hT (And.intro hsz (And.intro hRk hk12)))))))))))
      have hmE := HM.out
      have hmE2 := HM.out
      clear hRok hRk hrow hL hLf hLb hS hT hb hsz gbr hbw hgo HG HI harm hGa harmed
      rcases hx' with e1 | ⟨e1, e2⟩
      all_goals
        go_upto_region 18 with (first
          | (go_at_call 16; (with_reducible refine HARM.out.mono ?_); rintro e w5 ⟨rfl, hD5, hF5⟩)
          | go_in)
        clear hmE hmE2
        obtain ⟨xR, xrow, xL, xb, xbw, xG, xf, xbe, xT, xsz, xRk, xk⟩ := HX.out
        have hL5 := xL.over hD5 (hF5.mono (by simp)) (by unfold DM.armM; split; rfl; split <;> rfl)
        have hb5 := xb.trans (hF5.below (B := W0.heap.size) xb.size (by have := H3.out.2.2; simp; omega))
        have hbw5 := xbw.trans (hF5.below (B := w.heap.size) xbw.size (by have := H3.out.2.2; have := HB0.out.2.2; simp; omega))
        have hrow5 : w5.ownsRow w3.heap.size 36 1 (.slice Au R.length cu) R.length (R.map RowB.v) := rowFrS xrow hF5 (fun s hs hm => by have h1 := own_ge xrow s hs; have h2 := H3.out.1.low; have h3 := H3.out.1.ap.lp; simp at hm; omega)
        have hrs := reset_any hL5 40 ⟨by rw [xG.size]; omega, by have := xG.steps; omega, by have := xG.left; omega, by omega⟩
        have HRS := Lib.hid hrs
        have H5 := Lib.hid (And.intro hL5 (And.intro hb5 (And.intro hbw5 (And.intro hrow5 (And.intro xG (And.intro xf (And.intro xbe (And.intro xT (And.intro xR (And.intro xRk (Nat.le_trans xsz hF5.size)))))))))))
        clear hL5 hb5 hbw5 hrow5 hrs xR xrow xL xb xbw xG xf xbe xT xsz xRk hD5 hF5 HX HARM k0 xk
        generalize M.armM (m : Int) = M1 at H5 HRS
        obtain ⟨x, hx⟩ : ∃ x, x = (rstR L M1 40).1 := ⟨_, rfl⟩
        rw [← hx] at HRS
        have HXE := Lib.hid hx
        clear hx
        go_upto_region 19 with (first
          | (go_at_call 20; (with_reducible refine HRS.out.mono ?_); rintro e w6 ⟨rfl, v6, hl6, hf6⟩)
          | go_in)
        obtain ⟨yL, yb, ybw, yrow, yG, yf, ybe, yT, yR, yRk, ysz⟩ := H5.out
        have hb6 := yb.trans (fr_below yL hf6 yb.size (by have := H3.out.2.2; omega))
        have hbw6 := ybw.trans (fr_below yL hf6 ybw.size (by have := H3.out.2.2; have := HB0.out.2.2; omega))
        have hrow6 := row_logged yL hf6 yrow H3.out.1.low
        obtain ⟨⟨m9, hm9, hscan, hm0⟩, hcode, hsize⟩ := reset_crash yG hl6.disk.full (by omega) keep n1 n2
        rw [yf, ybe] at hscan
        have gbr := (hb6.block w.heap.size (heap_lt HB0.out.2.1)).trans HB0.out.2.1
        have k1 := cell_of_row w6 w.heap.size 1 _ _ _ gbr
        have k2 := cell_of_row w6 w.heap.size 2 _ _ _ gbr
        have hr2 : Rd w6 w6.heap.size A2 (keep.map Value.bool) := (HR.out.2.2.below hbw6 (Nat.le_refl _)).more hbw6.size
        have hcr := crashM hl6.disk (by omega) A2 c2 keep n1 n2 hr2
        have hop : ∀ w7 p' bs' bw', DiskM w7 p' bs' bw' ((rstR L M1 40).2.1.crashed keep n1 n2) (T + 4100) → Calls Try.prog 15 #[.pointer (some ⟨p', 0, none⟩), .int .i64 0, .int .i64 60] w7 _ := fun w7 p' bs' bw' h => open_calm h rfl rfl rfl 0 60 hscan (by omega) (by show 0 + 60 ≤ (rstR L M1 40).2.1.size; omega) (by show (rstR L M1 40).2.1.size ≤ _; omega) (by omega)
        have hcode2 : (x = 0 ∧ (rstR L M1 40).2.2.next = 40) ∨ x = 30 := by rw [HXE.out]; exact hcode
        have hm00 : x = 0 → m9 = 0 := by rw [HXE.out]; exact hm0
        have HC := Lib.hid (And.intro hcode2 (And.intro hm00 (And.intro hm9 yRk)))
        have HCR := Lib.hid hcr
        have HOP := Lib.hid hop
        have H6 := Lib.hid (And.intro hl6 (And.intro hb6 (And.intro hbw6 (And.intro hrow6 yR))))
        clear yL yb ybw yrow yG yf ybe yT yR yRk ysz hb6 hbw6 hrow6 hm9 hscan hm0 hcode hsize gbr hr2 hcr hop hcode2 hm00 hl6 hf6 H5 HRS HXE
        go_upto_region 20 with (first
          | (go_at_call 18; (with_reducible refine HCR.out.mono ?_); rintro e w7 ⟨p', bs', bw', rfl, hp1, hp2, hp3, hD7, hb7⟩; have HO7 := Lib.hid (HOP.out _ _ _ _ hD7))
          | go_in)
        have H7 := Lib.hid (And.intro hp1 (And.intro hp2 (And.intro hp3 (And.intro hD7.lt hb7))))
        clear hp1 hp2 hp3 hD7 hb7 HOP HCR k1 k2
        go_upto_region 23 with (first
          | (go_at_call 15; (with_reducible refine HO7.out.mono ?_); rintro e w8 ⟨q8, A8, c8, v8, M8, rfl, hq8, hR8, hL8, hF8⟩)
          | go_in)
        obtain ⟨yL, yb, ybw, yrow, yR⟩ := H6.out
        obtain ⟨zp1, zp2, zp3, zlt, zb⟩ := H7.out
        obtain ⟨rs, hrs⟩ : ∃ rs, rs = numR 1 ((R.map RowB.l).take m9) := ⟨_, rfl⟩
        rw [← hrs] at hR8 ⊢
        have hrl : rs.length = min m9 R.length := by rw [hrs, numR_len, List.length_take, List.length_map]
        have hrow8 : w8.ownsRow w3.heap.size 36 1 (.slice Au R.length cu) R.length (R.map RowB.v) := rowFrS (own_below yrow zb (Nat.le_refl _)) hF8 (fun s hs hm => by
          have h1 := (World.ownsRow.lt yrow s (by simpa using hs)).2
          simp at hm
          omega)
        have hbw8 : Below w.heap.size w w8 := ybw.trans ((lower' zb ybw.size).trans (hF8.below (Nat.le_trans ybw.size zb.size) (by have := ybw.size; simp; omega)))
        have hLog8 : LogAt w8 (q + 1) q (w1.heap.size + 2) (rstR L M1 40).2.2 v6 := (yL.kept zb).log.frS hF8 (by have := yL.log.size; simp; omega) (fun s hs hm => by
          have h1 := (World.ownsRow.lt yL.log.row s (by simpa using hs)).2
          simp at hm
          omega)
        have hnx : ∀ w9, Below w8.heap.size w8 w9 → Calls Try.prog 19 #[.pointer (some ⟨q, 0, none⟩)] w9 _ := fun w9 hb => next_any (hLog8.kept hb)
        have hgetE : ∀ j (hj : j < rs.length) (hjR : j < R.length), rs[j].1 = 1 + j ∧ rs[j].2 = R[j].l := by
          intro j hj hjR
          have h1 := numR_get ((R.map RowB.l).take m9) 1 j (by rw [List.length_take, List.length_map]; omega)
          rw [← hrs, List.getElem?_eq_getElem hj] at h1
          have h2 := Option.some.inj h1
          rw [h2]
          simp
        have HK := Lib.hid (And.intro hR8 (And.intro (Rd.ofOwn hrow8) (And.intro hbw8 yR)))
        have HE := Lib.hid hgetE
        have HN := Lib.hid (show rs.length ≤ R.length ∧ R.length ≤ 8 by have := HC.out.2.2.2; omega)
        have f1 : decide (R.length < rs.length) = false := by simp; omega
        have hcode := HC.out.1
        have hm00 := HC.out.2.1
        clear yL yb ybw yrow yR zp1 zp2 zp3 zlt zb hrow8 hbw8 hLog8 hgetE hR8 hL8 hF8 hq8 H6 H7 HO7 hrs
        rcases hcode with ⟨rfl, hnext⟩ | rfl
        · have hm := hm00 rfl
          have hl0 : rs.length = 0 := by rw [hrl, hm]; simp
          rw [hnext] at hnx
          have HNX := Lib.hid hnx
          have HL0 := Lib.hid hl0
          clear hm hm00 hrl hnx hnext
          obtain rfl : rs = [] := List.eq_nil_of_length_eq_zero hl0
          clear hl0 f1
          simp only [List.length_nil]
          have f1 : decide (R.length < 0) = false := rfl
          go_wp2_with go_in
          go_loopw [121] (fun i wr2 => i = .int .i64 0 ∧ Below w8.heap.size w8 wr2)
            (fun _ _ => 0)
          case atStart => exact ⟨rfl, Below.refl _ _⟩
          case round =>
            obtain ⟨rfl, hb2⟩ := hrel
            have hnx := HNX.out wr hb2
            have HNX2 := Lib.hid hnx
            have HB2 := Lib.hid hb2
            clear hb2 hnx
            go_wp2_with (first
              | (go_at_call 19; (with_reducible refine HNX2.out.mono ?_); rintro e w9 ⟨rfl, rfl⟩)
              | go_in)
            go_ret
            exact ⟨rfl, HK.out.2.2.1.trans (lower' HB2.out HK.out.2.2.1.size)⟩
        · have HNX := Lib.hid hnx
          clear hm00 hrl hnx
          go_wp2_with go_in
          go_loopw [121] (fun i wr2 => ∃ j : Nat, j ≤ rs.length ∧ i = .int .i64 (j : Int) ∧ Below w8.heap.size w8 wr2)
            (fun i _ => rs.length - (intOf i).toNat)
          case atStart => exact ⟨0, by omega, rfl, Below.refl _ _⟩
          case round =>
            obtain ⟨j, hj, rfl, hb2⟩ := hrel
            by_cases hjl : j < rs.length
            · have hjI : (j : Int) < (rs.length : Int) := by omega
              have hjR : j < R.length := by have := HN.out; omega
              have hRI : (j : Int) < (R.length : Int) := by omega
              obtain ⟨ab, ao, B1, d1, rfl, hab, p0, p1, hd1⟩ := HK.out.1.get hjl
              replace p0 := (hb2.cell (p := ⟨ab, ao + j * 2, none⟩) hab).trans p0
              replace p1 := (hb2.cell (p := ⟨ab, ao + j * 2 + 1, none⟩) hab).trans p1
              obtain ⟨es, ed⟩ := HE.out j hjl hjR
              rw [es] at p0
              rw [ed] at p1 hd1
              rw [show (((1 + j : Nat)) : Int) = (j : Int) + 1 by omega] at p0
              have hbok := HK.out.2.2.2 R[j] (List.getElem_mem hjR)
              obtain ⟨ub, uo, rfl, hub, hucell⟩ := HK.out.2.1.get (k := j) (by simpa using hjR)
              have pu : wr.cell? ⟨ub, uo + j, none⟩ = some (R[j]).v := by
                have h := hucell
                simp only [List.getElem_map] at h
                rw [← h]
                exact hb2.cell (p := ⟨ub, uo + j, none⟩) hub
              generalize R[j] = b at p1 hd1 hbok pu
              have hs1 : ∀ n, (convert 36 9 (.slice B1 b.l.length d1)).run Try.prog (wr.drewN n) = .ok (.string ⟨b.l.toArray⟩) (wr.drewN n) := fun n => strAt ((hd1.below hb2 (Nat.le_refl _)).drewN n) rfl
              have hs2 : ∀ n, (convert 36 9 b.v).run Try.prog (wr.drewN n) = .ok (.string ⟨b.l.toArray⟩) (wr.drewN n) := fun n => RowB.str (B := w.heap.size) ⟨(((hbok.below HK.out.2.2.1 (Nat.le_refl _)).below hb2 HK.out.2.2.1.size).1).drewN n, hbok.2⟩
              have HX2 := Lib.hid (And.intro hb2 hjl)
              have hj60 : (j : Int) ≤ 8 := by have := HN.out; omega
              clear hab hd1 hb2 es ed hbok hub hucell hjl
              go_upto_region 28 with go_in
              have hwj : IntKind.i64.wrap ((j : Int) + 1) = (j : Int) + 1 := IntWalk.i64_in _ (by omega)
              go_quiet (fail)
              clear hwj
              go_wp2_with go_in
              exact ⟨⟨j + 1, by have := HX2.out.2; omega, by simp, Below.drewN' HX2.out.1 _⟩, by simp [intOf]; have := HX2.out.2; omega⟩
            · obtain rfl : j = rs.length := by omega
              have HB2 := Lib.hid hb2
              have hnx := HNX.out wr hb2
              have HNX2 := Lib.hid hnx
              clear hb2 hjl hnx
              go_wp2_with (first
                | (go_at_call 19; (with_reducible refine HNX2.out.mono ?_); rintro e w9 ⟨rfl, rfl⟩)
                | go_in)
              go_ret
              exact ⟨rfl, HK.out.2.2.1.trans (lower' HB2.out HK.out.2.2.1.size)⟩
end Go.Proofs.Ytkanlecgopcocaa
