/- ImageTurns: the walk. -/
import Derived.Test.YtnjljalihjkmcaaImgM
import Derived.Test.YtnjljalihjkmcaaDskX
import Derived.Deep.CutBlock
import Derived.Deep.CutRange
namespace Go.Proofs.Ytnjljalihjkmcaa
open Go.RowKit Go.Maps

theorem rdF {w w' : World} {B g : Nat} {xs : List Value} {S : List Nat} (h : Rd w B (some ⟨g, 0, none⟩) xs) (hf : Fr w w' S) (hg : g ∉ S) (hl : g < w.heap.size) : Rd w' w'.heap.size (some ⟨g, 0, none⟩) xs := fun hn => by
  obtain ⟨b, o, e, hb, hc⟩ := h hn
  cases e
  exact ⟨g, 0, rfl, Nat.lt_of_lt_of_le hl hf.size, fun j u hu => (World.cell?_of_block (hf.block g hl hg)).trans (hc j u hu)⟩
/-- Between two rounds. -/
structure Turn (wr : World) (q p bs bw T k : Nat) (M : DM) : Prop where
  img : ImgD wr q p bs bw T 0 6 M
  calm : Calm M
  armed : M.armed = false
  size : M.size = 12
  steps : M.steps ≤ 10000 * k
  left : M.left = 0
  T : T ≤ 10000 * k
  seq : seqI (imgOf M.get 0 6) ≤ 3 * k
  turn : areaO M.get 0 6 = k % 2 * 6
  turnC : areaC M.get 0 6 = (k + 1) % 2 * 6
/-- A round, plainly: the new image, the other area as it was; the same number once more is refused. -/
theorem Turn.next {wr : World} {q p bs bw T k : Nat} {M : DM} (h : Turn wr q p bs bw T k M) (hk : k < 12) (d : List UInt8) (hd : d.length ≤ 320) :
    ∃ M', saveR M 0 6 (3 * (k : Int) + 1) d = (0, M') ∧ saveR M' 0 6 (3 * (k : Int) + 1) d = (2, M') ∧ imgOf M'.get 0 6 = some (3 * k + 1, d) ∧ M'.get ((k + 1) % 2 * 6) = M.get ((k + 1) % 2 * 6) ∧ M'.get ((k + 1) % 2 * 6 + 1) = M.get ((k + 1) % 2 * 6 + 1) ∧
      Fit M T 5000 ∧ Fit M' (T + 5000) 5000 ∧ M'.size = 12 ∧
      ∀ w', ImgD w' q p bs bw (T + 5000 + 5000) 0 6 M' → Turn w' q p bs bw (T + 5000 + 5000) (k + 1) M' := by
  have hroom : roomI 6 = 320 := rfl
  obtain ⟨h1, h2⟩ := save_run (first := 0) (count := 6) (s := 3 * k + 1) (d := d) h.calm h.armed (by omega) (by omega) (by omega) (by omega) (by rw [hroom]; exact hd) (by have := h.seq; omega)
  have hc : ((3 * k + 1 : Nat) : Int) = 3 * (k : Int) + 1 := by omega
  rw [hc] at h1 h2
  obtain ⟨M', hM⟩ : ∃ M', M' = (saveR M 0 6 (3 * (k : Int) + 1) d).2 := ⟨_, rfl⟩
  rw [← hM] at h2
  have hst := h.steps
  have hsz : M'.size = 12 := h2.size.trans h.size
  have hl : M'.left = 0 := by have := h2.left; rw [h.left] at this; omega
  have hseq : seqI (imgOf M'.get 0 6) = 3 * k + 1 := by rw [h2.img]; rfl
  have hs2 := h2.steps
  have hT := h.T
  have e2 : saveR M' 0 6 (3 * (k : Int) + 1) d = (2, M') := by
    unfold saveR
    rw [hseq, if_neg (by omega), if_pos (by omega)]
  refine ⟨M', Prod.ext h1 hM.symm, e2, h2.img, h2.same _ (by rw [h.turn]; omega), h2.same _ (by rw [h.turn]; omega), ⟨by rw [h.size]; omega, by omega, by rw [h.left]; omega, by omega⟩, ⟨by rw [hsz]; omega, by omega, by rw [hl]; omega, by omega⟩, hsz, fun w' hI => ⟨hI, h2.calm, h2.armed, hsz, by omega, hl, by omega, by rw [hseq]; omega, ?_, ?_⟩⟩
  · rw [h2.turnO, h.turnC]
  · rw [h2.turnC, h.turn]; omega
theorem Turn.new {w : World} {q p bs bw : Nat} (h : ImgD w q p bs bw 0 0 6 (DM.new 12)) : Turn w q p bs bw 0 0 (DM.new 12) := by
  refine ⟨h, calm_new _, rfl, rfl, by show 0 ≤ _; omega, rfl, by omega, by rw [img_new0]; show 0 ≤ _; omega, ?_, ?_⟩
  · unfold areaO hdA hdB; rw [ahd_new, ahd_new]; rfl
  · unfold areaC hdA hdB; rw [ahd_new, ahd_new]; rfl
set_option maxRecDepth 100000 in
set_option maxHeartbeats 4000000 in
theorem imageTurns_walk (A : Option Addr) (rows : List RowB) (c : Nat) (w : World) (hr : Rd w w.heap.size A (rows.map RowB.v)) (hrows : ∀ r ∈ rows, r.ok w w.heap.size) :
    Calls Try.prog 8 #[.slice A rows.length c] w fun e w' => e = .returned (.bool true) ∧ Below w.heap.size w w' := by
  have H1 := Lib.hid (imgAwake_any w)
  have HR := Lib.hid (And.intro hr hrows)
  clear hr hrows
  go_enter Try.func8, Try.ntmps8
  go_upto_region 3 with (first
    | (go_at_call 32; (refine H1.out.mono ?_); rintro e w1 ⟨rfl, hb1⟩; have HB1 := Lib.hid hb1; clear hb1)
    | go_in)
  have hnw := newM 12 w1 (by omega) (by omega)
  rw [show ((12 : Nat) : Int) = 12 from rfl] at hnw
  have HNW := Lib.hid hnw
  clear hnw
  go_upto_region 6 with (first
    | (go_at_call 11; (with_reducible refine HNW.out.mono ?_); rintro e w2 ⟨rfl, hD, hF⟩)
    | go_in)
  have HF2 := Lib.hid (hF.below (B := w1.heap.size) (Nat.le_refl _) (by simp))
  have hop := openD (first := 0) (count := 6) hD (by decide) (by unfold FitsI; exact ⟨by decide, by decide, by decide, by decide⟩)
  rw [show ((0 : Nat) : Int) = 0 from rfl, show ((6 : Nat) : Int) = 6 from rfl] at hop
  have HO := Lib.hid hop
  clear hD hF hop
  go_upto_region 9 with (first
    | (go_at_call 33; (with_reducible refine HO.out.mono ?_); rintro e w3 ⟨q, rfl, hq, hI, hb3⟩)
    | go_in)
  have HI := Lib.hid (And.intro (Turn.new hI) (And.intro hq hb3))
  clear hI hq hb3 HO HNW H1
  go_wp2_with go_in
  go_loopw [6] (fun i wr => ∃ (k T : Nat) (M : DM), k ≤ rows.length ∧ k ≤ 12 ∧ i = .int .i64 (k : Int) ∧ Turn wr q (w1.heap.size + 2) w1.heap.size (w1.heap.size + 1) T k M ∧ Below w1.heap.size w1 wr)
    (fun i _ => rows.length - (intOf i).toNat)
  case atStart => exact ⟨0, 0, _, by omega, by omega, rfl, HI.out.1, HF2.out.trans (lower' HI.out.2.2 HF2.out.size)⟩
  case round =>
    obtain ⟨k, T, M, hk, hk12, rfl, hT, hb⟩ := hrel
    by_cases hgo : k < rows.length ∧ k < 12
    · obtain ⟨hkl, hk9⟩ := hgo
      have hkI : (k : Int) < (rows.length : Int) := by omega
      have hkJ : (k : Int) < 12 := by omega
      have hbw : Below w.heap.size w wr := HB1.out.trans (lower' hb HB1.out.size)
      obtain ⟨r, hre⟩ : ∃ r, r = rows[k] := ⟨_, rfl⟩
      have hro : r.ok wr w.heap.size := by rw [hre]; exact (HR.out.2 _ (List.getElem_mem hkl)).below hbw (Nat.le_refl _)
      obtain ⟨ab, ao, rfl, hab, hcell⟩ := HR.out.1.get (k := k) (by simpa using hkl)
      have hrow1 : ∀ W, Below wr.heap.size wr W → W.cell? ⟨ab, ao + k, none⟩ = some (.slice r.A r.l.length r.c) := fun W hW => by
        have h := hcell
        simp only [List.getElem_map, ← hre] at h
        rw [show (Value.slice r.A r.l.length r.c) = r.v from rfl, ← h]
        exact (hbw.trans (lower' hW hbw.size)).cell (p := ⟨ab, ao + k, none⟩) hab
      have HROW := Lib.hid hrow1
      clear hre hcell hrow1
      obtain ⟨rA, rl, rc⟩ := r
      have hlc : (rl.length : Int) ≤ (rc : Int) := by have h : rl.length ≤ rc := hro.2.1; omega
      have hcb : (rc : Int) ≤ 140737488351232 := by have h : rc ≤ 140737488351232 := hro.2.2; omega
      have hd4 : (rl.take 320).length = (min (rl.length : Int) 320).toNat := by rw [List.length_take]; omega
      obtain ⟨b, hbE⟩ : ∃ b, b = (k + 1) % 2 := ⟨_, rfl⟩
      have hb2 : b < 2 := by omega
      have hbI : (b : Int) < 2 := by omega
      have hbm : ((k : Int) + 1) % 2 = (b : Int) := by omega
      have hbt : ((k : Int) + 1).tmod 2 = (b : Int) := by rw [Int.tmod_eq_emod_of_nonneg (by omega)]; exact hbm
      obtain ⟨M', hs1, hs2, himg, hg1, hg2, hft1, hft2, hsz', hnext⟩ := hT.next hk9 (rl.take 320) (by rw [List.length_take]; omega)
      rw [← hbE] at hg1 hg2
      have hDr : Rd wr w.heap.size rA (u8s (rl.take 320)) := by rw [u8s_take]; exact hro.1.take 320
      have hDc : (rl.take 320).length ≤ rc := by have h : rl.length ≤ rc := hro.2.1; rw [List.length_take]; omega
      obtain ⟨D, hDe⟩ : ∃ D, D = rl.take 320 := ⟨_, rfl⟩
      rw [← hDe] at hs1 hs2 himg hd4 hDr hDc
      have HDR := Lib.hid (And.intro hDr hDc)
      clear hDr hDc hDe
      have hlt := hT.img.disk.lt
      have hrd := fun (W : World) (hW : Below wr.heap.size wr W) => readC (hT.img.disk.kept hW) (show M.size ≤ 4096 by rw [hT.size]; omega) (i := b * 6) (by rw [hT.size]; omega)
      have hrd1 := fun (W : World) (hW : Below wr.heap.size wr W) => readC (hT.img.disk.kept hW) (show M.size ≤ 4096 by rw [hT.size]; omega) (i := b * 6 + 1) (by rw [hT.size]; omega)
      rw [show ((b * 6 : Nat) : Int) = (b : Int) * 6 by omega] at hrd
      rw [show ((b * 6 + 1 : Nat) : Int) = (b : Int) * 6 + 1 by omega] at hrd1
      have HRD := Lib.hid hrd
      have HRD1 := Lib.hid hrd1
      have HT := Lib.hid (And.intro hT (And.intro hb (And.intro hro (And.intro hlt (And.intro hkl hbw)))))
      have HM := Lib.hid (And.intro hs1 (And.intro hs2 (And.intro himg (And.intro hg1 (And.intro hg2 (And.intro hft1 (And.intro hft2 (And.intro hsz' hnext))))))))
      have HD4 := Lib.hid hd4
      clear hT hb hro hlt hkl hs1 hs2 himg hg1 hg2 hft1 hft2 hsz' hnext hrd hrd1 hbw hd4 hbE
      go_upto_region 13 with (first
        | (go_at_call 40; (with_reducible refine (HRD.out wr (Below.refl _ _)).mono ?_); rintro e w4 ⟨g4, rfl, x1, x2, x3, x4, x5⟩)
        | go_in)
      have H4 := Lib.hid (And.intro x1 (And.intro x2 (And.intro x3 (And.intro x4 x5))))
      clear x1 x2 x3 x4 x5
      go_upto_region 14 with (first
        | (go_at_call 40; (with_reducible refine (HRD1.out w4 H4.out.2.2.2.2).mono ?_); rintro e w5 ⟨g5, rfl, x1, x2, x3, x4, x5⟩)
        | go_in)
      have hw5 : Below wr.heap.size wr w5 := H4.out.2.2.2.2.trans (lower' x5 H4.out.2.2.2.2.size)
      have hr4 : Rd w5 w5.heap.size (some ⟨g4, 0, none⟩) (u8s (M.get (b * 6))) := H4.out.2.2.1.below x5 (Nat.le_refl _) |>.more x5.size
      have hrow5 := HROW.out w5 hw5
      have H5 := Lib.hid (And.intro hr4 (And.intro x1 (And.intro x2 (And.intro x3 (And.intro x4 (And.intro x5 hw5))))))
      clear x1 x2 x3 x4 x5 hw5 hr4
      go_cut [11] from 71 to 81 (fun v w' => v = .slice rA (min (rl.length : Int) 320).toNat rc ∧ Below w5.heap.size w5 w')
      case first =>
        go_region
        all_goals
          go_wp2_with go_in
          go_meet
          case rel => exact ⟨rfl, (Below.refl _ _).drew⟩
      case rest =>
        obtain ⟨rfl, hbc⟩ := hcut
        obtain ⟨t1, t2, t3, t4, t5, t6⟩ := HT.out
        obtain ⟨m1, m2, m3, m4, m5, m6, m7, m8, m9⟩ := HM.out
        have z1 := HB1.out.size
        have zr : w1.heap.size ≤ wr.heap.size := t2.size
        have hwc : Below wr.heap.size wr wc := H5.out.2.2.2.2.2.2.trans (lower' hbc H5.out.2.2.2.2.2.2.size)
        have hP : ∀ x ∈ [w1.heap.size + 2, w1.heap.size, w1.heap.size + 1], w1.heap.size ≤ x := fun x hx => by simp at hx; omega
        have hPl : ∀ g, wr.heap.size ≤ g → g ∉ [w1.heap.size + 2, w1.heap.size, w1.heap.size + 1] := fun g hg => by simp <;> omega
        have hrb : ∀ W, Below w1.heap.size wr W → Rd W w.heap.size rA (u8s D) := fun W hW => HDR.out.1.below hW z1
        have hne : D ≠ [] → ∀ x, rA = some x → x.block ≠ w1.heap.size + 2 ∧ x.block ≠ w1.heap.size ∧ x.block ≠ w1.heap.size + 1 := fun hn x hx => by
          obtain ⟨b', o', e', hb', _⟩ := HDR.out.1 (by intro e; apply hn; have := congrArg List.length e; rw [u8s_len] at this; exact List.eq_nil_of_length_eq_zero (by simpa using this))
          rw [hx] at e'; cases e'
          dsimp only
          omega
        have hcm : rc ≤ 9223372036854775807 := by omega
        have hsv1 := saveD (t1.img.below hwc) (3 * (k : Int) + 1) rA D rc w.heap.size (hrb wc (hwc.mono zr)) (by have := hwc.size; omega) hne HDR.out.2 hcm m6
        rw [m1, HD4.out] at hsv1
        dsimp only at hsv1
        have hsv2 := fun (W : World) (hW : Saved wc W q (w1.heap.size + 2) w1.heap.size (w1.heap.size + 1) T 0 6 M') => saveD hW.1 (3 * (k : Int) + 1) rA D rc w.heap.size (hrb W ((hwc.mono zr).trans (hW.2.below (by have := hwc.size; omega) hP))) (by have := hwc.size; have := hW.2.size; omega) hne HDR.out.2 hcm m7
        rw [m2, HD4.out] at hsv2
        dsimp only at hsv2
        have HS1 := Lib.hid hsv1
        have HS2 := Lib.hid hsv2
        have HC := Lib.hid (And.intro hwc (And.intro hP (And.intro hPl (And.intro hrb (And.intro zr (And.intro z1 hbc))))))
        clear hsv1 hsv2 t1 t2 t3 t4 t5 t6 m1 m2 m3 m4 m5 m6 m7 m8 m9 hwc hP hPl hrb hne hcm hbc
        have hk36 : 3 * (k : Int) + 1 ≤ 40 := by omega
        go_upto_region 17 with (first
          | (go_at_call 35; (with_reducible refine HS1.out.mono ?_); rintro e w6 ⟨rfl, hv6⟩; have hs2' := HS2.out w6 hv6; have HS2' := Lib.hid hs2'; have HV6 := Lib.hid hv6; clear hs2' hv6 HS1)
          | (go_at_call 35; (with_reducible refine HS2'.out.mono ?_); rintro e w7 ⟨rfl, hv7⟩)
          | go_in)
        have hf7 : Fr wc w7 [w1.heap.size + 2, w1.heap.size, w1.heap.size + 1] := HV6.out.2.trans hv7.2
        have hld := loadI_any hv7.1
        rw [HM.out.2.2.1] at hld
        have hsz8 : M'.size = 12 := HM.out.2.2.2.2.2.2.2.1
        have hr1 := fun (W : World) (hW : Below w7.heap.size w7 W) => readC (hv7.1.disk.kept hW) (show M'.size ≤ 4096 by rw [hsz8]; omega) (i := b * 6) (by rw [hsz8]; omega)
        have hr2 := fun (W : World) (hW : Below w7.heap.size w7 W) => readC (hv7.1.disk.kept hW) (show M'.size ≤ 4096 by rw [hsz8]; omega) (i := b * 6 + 1) (by rw [hsz8]; omega)
        rw [show ((b * 6 : Nat) : Int) = (b : Int) * 6 by omega, HM.out.2.2.2.1] at hr1
        rw [show ((b * 6 + 1 : Nat) : Int) = (b : Int) * 6 + 1 by omega, HM.out.2.2.2.2.1] at hr2
        obtain ⟨hwc, hP, hPl, hrb, zr, z1, hbc⟩ := HC.out
        have q4 : Rd w7 w7.heap.size (some ⟨g4, 0, none⟩) (u8s (M.get (b * 6))) := rdF (H5.out.1.below hbc (Nat.le_refl _)) hf7 (hPl _ H4.out.1) (by have := H4.out.2.1; have := H5.out.2.2.2.2.2.1.size; have := hbc.size; omega)
        have q5 : Rd w7 w7.heap.size (some ⟨g5, 0, none⟩) (u8s (M.get (b * 6 + 1))) := rdF (H5.out.2.2.2.1.below hbc (Nat.le_refl _)) hf7 (hPl _ (by have := H5.out.2.1; have := H4.out.2.2.2.2.size; omega)) (by have := H5.out.2.2.1; have := hbc.size; omega)
        have q6 : Rd w7 w.heap.size rA (u8s D) := hrb w7 ((hwc.mono zr).trans (hf7.below (by have := hwc.size; omega) hP))
        have hcv : ∀ W, Below w7.heap.size w7 W → (convert 45 9 (.slice (some ⟨g4, 0, none⟩) 64 64)).run Try.prog W = .ok (.string ⟨(M.get (b * 6)).toArray⟩) W ∧ (convert 45 9 (.slice (some ⟨g5, 0, none⟩) 64 64)).run Try.prog W = .ok (.string ⟨(M.get (b * 6 + 1)).toArray⟩) W ∧ (convert 45 9 (.slice rA (min (rl.length : Int) 320).toNat rc)).run Try.prog W = .ok (.string ⟨D.toArray⟩) W := fun W hW =>
          ⟨strAt (q4.below hW (Nat.le_refl _)) H4.out.2.2.2.1.symm, strAt (q5.below hW (Nat.le_refl _)) H5.out.2.2.2.2.1.symm, strAt (q6.below hW (by have := hwc.size; have := hf7.size; omega)) HD4.out.symm⟩
        have HLD := Lib.hid hld
        have HR1 := Lib.hid hr1
        have HR2 := Lib.hid hr2
        have HCV := Lib.hid hcv
        have hw7 : Below w1.heap.size wr w7 := (hwc.mono zr).trans (hf7.below (by have := hwc.size; omega) hP)
        have HEND := Lib.hid (And.intro (fun W (hW : Below w7.heap.size w7 W) => HM.out.2.2.2.2.2.2.2.2 W (hv7.1.below hW)) (And.intro hw7 (Nat.le_trans zr (Nat.le_trans hwc.size hf7.size))))
        clear hld hr1 hr2 hcv hwc hP hPl hrb zr z1 hbc q4 q5 q6 hw7 hv7 hf7 hsz8 HS2 HS2'
        go_upto_region 18 with (first
          | (go_at_call 37; (with_reducible refine HLD.out.mono ?_); rintro e w8 ⟨A8, c8, rfl, hO8⟩)
          | go_in)
        obtain ⟨A9, c9, e9, _, ho2, _, _, hb8⟩ := hO8
        cases e9
        have hcv8 : ∀ W, Below w8.heap.size w8 W → (convert 45 9 (.slice A8 D.length c8)).run Try.prog W = .ok (.string ⟨D.toArray⟩) W := fun W hW => strAt (ho2.below hW (Nat.le_refl _)) rfl
        have HCV8 := Lib.hid hcv8
        have HB8 := Lib.hid hb8
        clear ho2 hb8 hcv8
        go_upto_region 19 with (first
          | (go_at_call 40; (with_reducible refine (HR1.out w8 HB8.out).mono ?_); rintro e w9 ⟨g9, rfl, x1, x2, x3, x4, x5⟩)
          | go_in)
        have hb9 : Below w7.heap.size w7 w9 := HB8.out.trans (lower' x5 HB8.out.size)
        have H9 := Lib.hid (And.intro x3 (And.intro x4 (And.intro x5 hb9)))
        clear x1 x2 x3 x4 x5 hb9
        go_upto_region 20 with (first
          | (go_at_call 40; (with_reducible refine (HR2.out w9 H9.out.2.2.2).mono ?_); rintro e w10 ⟨g10, rfl, x1, x2, x3, x4, x5⟩)
          | go_in)
        have hb10 : Below w7.heap.size w7 w10 := H9.out.2.2.2.trans (lower' x5 H9.out.2.2.2.size)
        obtain ⟨s1, s2, s3⟩ := HCV.out w10 hb10
        have s4 := HCV8.out w10 (H9.out.2.2.1.trans (lower' x5 H9.out.2.2.1.size))
        have s5 : (convert 45 9 (.slice (some ⟨g9, 0, none⟩) 64 64)).run Try.prog w10 = .ok (.string ⟨(M.get (b * 6)).toArray⟩) w10 := strAt (H9.out.1.below x5 (Nat.le_refl _)) H9.out.2.1.symm
        have s6 : (convert 45 9 (.slice (some ⟨g10, 0, none⟩) 64 64)).run Try.prog w10 = .ok (.string ⟨(M.get (b * 6 + 1)).toArray⟩) w10 := strAt x3 x4.symm
        have H10 := Lib.hid hb10
        clear x1 x2 x3 x4 x5 hb10
        go_wp2_with go_in
        have hwe : Below w1.heap.size wr w10 := HEND.out.2.1.trans (lower' H10.out HEND.out.2.2)
        exact ⟨⟨k + 1, _, M', by have := HT.out.2.2.2.2.1; omega, by omega, by simp, HEND.out.1 w10 H10.out, HT.out.2.1.trans hwe⟩, by simp [intOf]; have := HT.out.2.2.2.2.1; omega⟩
    · have hend : ¬ ((k : Int) < (rows.length : Int) ∧ (k : Int) < 12) := by omega
      have HX := Lib.hid hb
      have hend2 : ¬ (k : Int) < (rows.length : Int) ∨ ((k : Int) < (rows.length : Int) ∧ ¬ (k : Int) < 12) := by omega
      clear hT hb hgo hend
      rcases hend2 with h | ⟨h1, h2⟩
      all_goals
        go_wp2_with go_in
        go_ret
        exact ⟨rfl, HB1.out.trans (lower' HX.out HB1.out.size)⟩
end Go.Proofs.Ytnjljalihjkmcaa
