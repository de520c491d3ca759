/- ImageWhole: the walk. -/
import Derived.Test.YtnjljalihjkmcaaImgM
import Derived.Test.YtnjljalihjkmcaaDskX
import Derived.Deep.CutBlock
import Derived.Deep.CutRange
namespace Go.Proofs.Ytnjljalihjkmcaa
open Go.RowKit Go.Maps

theorem rem_k (n : Int) (m : Nat) (h0 : 0 < m) (h1 : m < 1000) : ∃ k : Nat, k < m ∧ wrap64 ((IntKind.u64.wrap n).tmod (m : Int)) = (k : Int) := by
  have h2 : 0 ≤ IntKind.u64.wrap n := by
    rw [IntKind.wrap_u64]
    omega
  generalize IntKind.u64.wrap n = u at h2
  have h3 := Int.tmod_lt_of_pos u (show (0 : Int) < (m : Int) by omega)
  have h4 := Int.tmod_nonneg (m : Int) h2
  refine ⟨(u.tmod m).toNat, by omega, ?_⟩
  unfold wrap64
  omega
def RowB.cut (r : RowB) (n : Nat) : RowB := ⟨r.A, r.l.take n, r.c⟩
theorem RowB.ok.cut {r : RowB} {w : World} {B : Nat} (h : r.ok w B) (n : Nat) : (r.cut n).ok w B := by
  obtain ⟨h1, h2, h3⟩ := h
  refine ⟨?_, ?_, h3⟩
  · show Rd w B r.A (u8s (r.l.take n))
    rw [u8s_take]
    exact h1.take n
  · show (r.l.take n).length ≤ r.c
    rw [List.length_take]
    omega
def imgX (s : Nat) (l : List UInt8) : Option (Nat × List UInt8) := if s = 0 then none else some (s, l)
/-- Between two rounds. -/
structure Live (M : DM) (s : Nat) (l : List UInt8) : Prop where
  calm : Calm M
  armed : M.armed = false
  size : M.size = 20
  steps : M.steps = 0
  left : M.left = 0
  img : imgOf M.get 1 9 = imgX s l
  nil : s = 0 → l = []
theorem Live.new : Live (DM.new 20) 0 [] := ⟨calm_new _, rfl, rfl, rfl, rfl, by rw [img_new0]; rfl, fun _ => rfl⟩
theorem seq_imgX (s : Nat) (l : List UInt8) : seqI (imgX s l) = s := by
  unfold imgX
  split
  · rename_i h; rw [h]; rfl
  · rfl
/-- A round, plainly. -/
theorem Live.round {M : DM} {s : Nat} {l : List UInt8} (h : Live M s l) (hs : s ≤ 100) (n : Nat) (d : List UInt8) (hd : d.length ≤ 500) (hn : n ≤ 100) :
    M.armE (n : Int) = 0 ∧ (M.armM (n : Int)).size = 20 ∧ (M.armM (n : Int)).steps = 0 ∧ (M.armM (n : Int)).left ≤ 100 ∧
    ((saveR (M.armM (n : Int)) 1 9 ((s : Int) + 1) d).1 = 0 ∨ (saveR (M.armM (n : Int)) 1 9 ((s : Int) + 1) d).1 = 30) ∧
    ∀ keep torn cut, (saveR (M.armM (n : Int)) 1 9 ((s : Int) + 1) d).2.full →
      Live ((saveR (M.armM (n : Int)) 1 9 ((s : Int) + 1) d).2.crashed keep torn cut) (s + 1) d ∨ ((saveR (M.armM (n : Int)) 1 9 ((s : Int) + 1) d).1 = 30 ∧ Live ((saveR (M.armM (n : Int)) 1 9 ((s : Int) + 1) d).2.crashed keep torn cut) s l) := by
  have hdead : M.dead = false := by unfold DM.dead; rw [h.armed]; rfl
  have hn0 : ¬ (n : Int) < 0 := by omega
  have eE : M.armE (n : Int) = 0 := by unfold DM.armE; rw [if_neg hn0, hdead]; rfl
  obtain ⟨M1, hM1⟩ : ∃ M1, M1 = M.armM (n : Int) := ⟨_, rfl⟩
  have eM : M1 = { M with armed := true, left := n } := by
    rw [hM1]; unfold DM.armM; rw [if_neg hn0, hdead]; rfl
  rw [← hM1]
  have c1 : Calm M1 := by rw [eM]; exact h.calm
  have g1 : M1.get = M.get := by rw [eM]; rfl
  have hsu : M1.get = M1.sure := calm_fun c1
  have hroom : roomI 9 = 512 := rfl
  have hseq : seqI (imgOf M1.get 1 9) = s := by rw [g1, h.img, seq_imgX]
  have hR : saveR M1 1 9 ((s : Int) + 1) d = runOps (saveOps (areaO M1.sure 1 9) (s + 1) d) M1 := by
    unfold saveR
    rw [hseq, if_neg (by omega), if_neg (by omega), if_neg (by rw [hroom]; omega), hsu]
    congr 1
  rw [hR]
  obtain ⟨f1, _, _, f4⟩ := runOps_facts (saveOps (areaO M1.sure 1 9) (s + 1) d) M1
  obtain ⟨k, k1, k2, k3⟩ := runOps_cut (saveOps (areaO M1.sure 1 9) (s + 1) d) M1
  have z1 : M1.size = 20 := by rw [eM]; exact h.size
  refine ⟨eE, z1, by rw [eM]; exact h.steps, by rw [eM]; show n ≤ 100; exact hn, f4, fun keep torn cut hfull => ?_⟩
  have hcr := crashes_left1 _ hfull keep torn cut (behind := 20) (by rw [f1, z1]; exact Nat.le_refl _)
  rw [k2] at hcr
  have hseq2 : seqI (imgOf M1.sure 1 9) < s + 1 := by rw [← hsu, hseq]; omega
  obtain ⟨s1, s2⟩ := save_cut (first := 1) (count := 9) (s := s + 1) (d := d) c1 (by omega) (by rw [hroom]; omega) (by omega) (by omega) (by omega) hseq2 (behind := 20) (by omega) hcr
  have hlive : ∀ (s' : Nat) (l' : List UInt8), imgOf ((runOps (saveOps (areaO M1.sure 1 9) (s + 1) d) M1).2.left1 keep torn cut) 1 9 = imgX s' l' → (s' = 0 → l' = []) → Live ((runOps (saveOps (areaO M1.sure 1 9) (s + 1) d) M1).2.crashed keep torn cut) s' l' := fun s' l' hi hn => ⟨fun _ => rfl, rfl, by show (runOps _ M1).2.size = 20; rw [f1, z1], rfl, rfl, hi, hn⟩
  rw [← k2] at s1 s2
  rcases k3 with ⟨e0, ek⟩ | ⟨e30, _⟩
  · exact .inl (hlive (s + 1) d (s2 (by omega)) (by omega))
  · rcases s1 with hs1 | hs1
    · refine .inr ⟨e30, hlive s l ?_ h.nil⟩
      rw [hs1, ← hsu, g1, h.img]
    · exact .inl (hlive (s + 1) d hs1 (by omega))
set_option maxRecDepth 100000 in
set_option maxHeartbeats 4000000 in
theorem imageWhole_walk (A : Option Addr) (rows : List RowB) (c : Nat) (A2 : Option Addr) (keep : List Bool) (c2 : Nat) (A3 : Option Addr) (nums : List Int) (c3 : Nat) (w : World) (hr : Rd w w.heap.size A (rows.map RowB.v)) (hrows : ∀ r ∈ rows, r.ok w w.heap.size) (hr2 : Rd w w.heap.size A2 (keep.map Value.bool)) (hr3 : Rd w w.heap.size A3 (nums.map (Value.int .i64))) (hnums : ∀ n ∈ nums, -9223372036854775808 ≤ n ∧ n ≤ 9223372036854775807) :
    Calls Try.prog 7 #[.slice A rows.length c, .slice A2 keep.length c2, .slice A3 nums.length c3] w fun e w' => e = .returned (.bool true) ∧ Below w.heap.size w w' := by
  have H1 := Lib.hid (imgAwake_any w)
  have HR := Lib.hid (And.intro hr (And.intro hrows (And.intro hr2 (And.intro hr3 hnums))))
  clear hr hrows hr2 hr3 hnums
  go_enter Try.func7, Try.ntmps7
  go_upto_region 3 with (first
    | (go_at_call 32; (refine H1.out.mono ?_); rintro e w1 ⟨rfl, hb1⟩; have HB1 := Lib.hid hb1; clear hb1)
    | go_in)
  have hnw := newM 20 w1 (by omega) (by omega)
  rw [show ((20 : Nat) : Int) = 20 from rfl] at hnw
  have HNW := Lib.hid hnw
  clear hnw
  go_upto_region 6 with (first
    | (go_at_call 11; (with_reducible refine HNW.out.mono ?_); rintro e w2 ⟨rfl, hD, hF⟩)
    | go_in)
  have HD := Lib.hid (And.intro hD (hF.below (B := w1.heap.size) (Nat.le_refl _) (by simp)))
  clear hD hF H1 HNW
  go_wp2_with go_in
  go_loopw [7, 9, 10, 11] (fun dv nv sv i wr => ∃ (k T p bs bw s : Nat) (M : DM) (lr : RowB), k ≤ rows.length ∧ k ≤ 8 ∧ i = .int .i64 (k : Int) ∧ sv = .int .i64 (s : Int) ∧ s ≤ k ∧ nv = lr.v ∧ lr.ok w w.heap.size ∧ dv = .pointer (some ⟨p, 0, none⟩) ∧ DiskM wr p bs bw M T ∧ Live M s lr.l ∧ T ≤ 10000 * k ∧ w1.heap.size ≤ p ∧ w1.heap.size ≤ bs ∧ w1.heap.size ≤ bw ∧ Below w1.heap.size w1 wr)
    (fun _ _ _ i _ => rows.length - (intOf i).toNat)
  case atStart => exact ⟨0, 0, _, _, _, 0, _, ⟨none, [], 0⟩, by omega, by omega, rfl, rfl, by omega, rfl, ⟨Rd.emp _ _ _, by simp, by simp⟩, rfl, HD.out.1, Live.new, by omega, by omega, by omega, by omega, HD.out.2⟩
  case round =>
    obtain ⟨k, T, p, bs, bw, s, M, lr, hk, hk8, rfl, rfl, hsk, rfl, hlr, rfl, hDk, hL, hT, hp1, hp2, hp3, hb⟩ := hrel
    by_cases hgo : k < rows.length ∧ k < 8
    · obtain ⟨hkl, hk9⟩ := hgo
      have hkI : (k : Int) < (rows.length : Int) := by omega
      have hkJ : (k : Int) < 8 := by omega
      have hop := openD (first := 1) (count := 9) hDk (by rw [hL.size]; omega) (by rw [hL.size]; unfold FitsI; exact ⟨by decide, by decide, by decide, by decide⟩)
      rw [show ((1 : Nat) : Int) = 1 from rfl, show ((9 : Nat) : Int) = 9 from rfl] at hop
      have HO := Lib.hid hop
      have HX := Lib.hid (And.intro hlr (And.intro hL (And.intro hT (And.intro hp1 (And.intro hp2 (And.intro hp3 (And.intro hb (And.intro hkl (And.intro hsk hDk)))))))))
      clear hop hlr hDk hL hT hp1 hp2 hp3 hb hkl
      go_upto_region 14 with (first
        | (go_at_call 33; (with_reducible refine HO.out.mono ?_); rintro e w4 ⟨q, rfl, hq, hI, hb4⟩)
        | go_in)
      have hb14 : Below w1.heap.size w1 w4 := HX.out.2.2.2.2.2.2.1.trans (lower' hb4 HX.out.2.2.2.2.2.2.1.size)
      have hbw4 : Below w.heap.size w w4 := HB1.out.trans (lower' hb14 HB1.out.size)
      have H4 := Lib.hid (And.intro hI (And.intro hq (And.intro hb4 (And.intro hb14 hbw4))))
      clear hI hq hb4 hb14 hbw4 HO
      go_upto_if 57 with go_in
      go_cut [14] from 54 to 61 (fun v w' => ∃ x : Int, v = .int .i64 x ∧ -9223372036854775808 ≤ x ∧ x ≤ 9223372036854775807 ∧ w' = w4)
      case first =>
        by_cases hkn : k < nums.length
        · have hknI : (k : Int) < (nums.length : Int) := by omega
          obtain ⟨ab, ao, rfl, hab, hcell⟩ := HR.out.2.2.2.1.get (k := k) (by simpa using hkn)
          have hn := HR.out.2.2.2.2 nums[k] (List.getElem_mem hkn)
          obtain ⟨y, hy⟩ : ∃ y, y = nums[k] := ⟨_, rfl⟩
          have hc4 : w4.cell? ⟨ab, ao + k, none⟩ = some (.int .i64 y) := by
            have h := hcell
            simp only [List.getElem_map, ← hy] at h
            rw [← h]
            exact H4.out.2.2.2.2.cell (p := ⟨ab, ao + k, none⟩) hab
          rw [← hy] at hn
          have HN := Lib.hid hn
          clear hcell hab hn hy hkn
          go_wp2_with go_in
          go_meet
          case rel => exact ⟨y, rfl, HN.out.1, HN.out.2, rfl⟩
        · have hknI : ¬ (k : Int) < (nums.length : Int) := by omega
          clear hkn
          go_wp2_with go_in
          go_meet
          case rel => exact ⟨0, rfl, by omega, by omega, rfl⟩
      case rest =>
        obtain ⟨x, rfl, hx1, hx2, rfl⟩ := hcut
        obtain ⟨m, hm16, hmE⟩ : ∃ m : Nat, m < 16 ∧ wrap64 ((IntKind.u64.wrap x).tmod 16) = (m : Int) := rem_k x 16 (by omega) (by omega)
        obtain ⟨r, hre⟩ : ∃ r, r = rows[k]'(HX.out.2.2.2.2.2.2.2.1) := ⟨_, rfl⟩
        have hro0 : r.ok w w.heap.size := by rw [hre]; exact HR.out.2.1 _ (List.getElem_mem _)
        obtain ⟨ab, ao, rfl, hab, hcell⟩ := HR.out.1.get (k := k) (by simpa using HX.out.2.2.2.2.2.2.2.1)
        have hrow1 : ∀ W, Below w.heap.size w W → W.cell? ⟨ab, ao + k, none⟩ = some (.slice r.A r.l.length r.c) := fun W hW => by
          have h := hcell
          simp only [List.getElem_map, ← hre] at h
          rw [show (Value.slice r.A r.l.length r.c) = r.v from rfl, ← h]
          exact hW.cell (p := ⟨ab, ao + k, none⟩) hab
        have HROW := Lib.hid hrow1
        have hcut0 := hro0.cut 500
        clear hre hcell hrow1
        obtain ⟨rA, rl, rc⟩ := r
        have hlc : (rl.length : Int) ≤ (rc : Int) := by have h : rl.length ≤ rc := hro0.2.1; omega
        have hcb : (rc : Int) ≤ 140737488351232 := by have h : rc ≤ 140737488351232 := hro0.2.2; omega
        have hd4 : (rl.take 500).length = (min (rl.length : Int) 500).toNat := by rw [List.length_take]; omega
        obtain ⟨r1, r2, r3, r4, r5, r6⟩ := HX.out.2.1.round (by have := HX.out.2.2.2.2.2.2.2.2.1; omega) m (rl.take 500) (by rw [List.length_take]; omega) (by omega)
        have hDr : Rd w w.heap.size rA (u8s (rl.take 500)) := by rw [u8s_take]; exact hro0.1.take 500
        have hDc : (rl.take 500).length ≤ rc := by have h : rl.length ≤ rc := hro0.2.1; rw [List.length_take]; omega
        have hcutv : (RowB.cut ⟨rA, rl, rc⟩ 500).v = .slice rA (rl.take 500).length rc := rfl
        have hcutl : (RowB.cut ⟨rA, rl, rc⟩ 500).l = rl.take 500 := rfl
        obtain ⟨D, hDe⟩ : ∃ D, D = rl.take 500 := ⟨_, rfl⟩
        rw [← hDe] at r5 r6 hd4 hDr hDc hcutv hcutl
        have harm := armM H4.out.1.disk (m : Int)
        rw [r1] at harm
        have HA := Lib.hid harm
        have HD4 := Lib.hid (And.intro hd4 (And.intro hDr (And.intro hDc (And.intro hcut0 (And.intro hcutv hcutl)))))
        have HRN := Lib.hid (And.intro r2 (And.intro r3 (And.intro r4 (And.intro r5 r6))))
        clear r1 r2 r3 r4 r5 r6 hd4 hDr hDc hDe hro0 hcut0 hcutv hcutl harm
        go_upto_region 18 with (first
          | (go_at_call 19; (with_reducible refine HA.out.mono ?_); rintro e w5 ⟨rfl, hD5, hF5⟩)
          | go_in)
        have hb15 : Below w1.heap.size w1 w5 := H4.out.2.2.2.1.trans (hF5.below H4.out.2.2.2.1.size (by have := HX.out.2.2.2.1; simp; omega))
        have hI5 : ImgD w5 q p bs bw T 1 9 (M.armM (m : Int)) := H4.out.1.fr hF5 (by simp; have := H4.out.1.ap; omega) hD5 (by rw [HRN.out.1, HX.out.2.1.size])
        have hbw5 : Below w.heap.size w w5 := HB1.out.trans (lower' hb15 HB1.out.size)
        have hrow5 := HROW.out w5 hbw5
        have H5 := Lib.hid (And.intro hI5 (And.intro hb15 hbw5))
        clear hD5 hF5 hb15 hI5 hbw5 hmE
        go_cut [15] from 69 to 79 (fun v w' => v = .slice rA (min (rl.length : Int) 500).toNat rc ∧ Below w5.heap.size w5 w')
        case first =>
          go_region
          all_goals
            go_wp2_with go_in
            go_meet
            case rel => exact ⟨rfl, (Below.refl _ _).drew⟩
        case rest =>
          obtain ⟨rfl, hbc⟩ := hcut
          have hb16 : Below w1.heap.size w1 wc := H5.out.2.1.trans (lower' hbc H5.out.2.1.size)
          have z1 := HB1.out.size
          have z2 := H5.out.2.1.size
          have hbwc : Below w.heap.size w wc := HB1.out.trans (lower' hb16 z1)
          have hp1 := HX.out.2.2.2.1
          have hp2 := HX.out.2.2.2.2.1
          have hp3 := HX.out.2.2.2.2.2.1
          have hne : D ≠ [] → ∀ y, rA = some y → y.block ≠ p ∧ y.block ≠ bs ∧ y.block ≠ bw := fun hn y hy => by
            obtain ⟨b', o', e', hb', _⟩ := HD4.out.2.1 (by intro e; apply hn; have := congrArg List.length e; rw [u8s_len] at this; exact List.eq_nil_of_length_eq_zero (by simpa using this))
            rw [hy] at e'; cases e'
            dsimp only
            omega
          have hT := HX.out.2.2.1
          have hsv := saveD (H5.out.1.below hbc) ((s : Int) + 1) rA D rc w.heap.size (HD4.out.2.1.below hbwc (Nat.le_refl _)) (by have := hbwc.size; omega) hne HD4.out.2.2.1 (by omega) ⟨by rw [HRN.out.1]; omega, by rw [HRN.out.2.1]; omega, by have := HRN.out.2.2.1; omega, by omega⟩
          rw [HD4.out.1] at hsv
          obtain ⟨R, hRe⟩ : ∃ R, R = saveR (M.armM (m : Int)) 1 9 ((s : Int) + 1) D := ⟨_, rfl⟩
          have hlive := HRN.out.2.2.2.2
          have hcode := HRN.out.2.2.2.1
          rw [← hRe] at hsv hlive hcode
          have hP : ∀ y ∈ [p, bs, bw], w1.heap.size ≤ y := fun y hy => by simp at hy; omega
          have hcr := fun (W : World) (hW : Saved wc W q p bs bw T 1 9 R.2) (torn cut : Int) => crashM hW.1.disk (by omega) A2 c2 keep torn cut ((HR.out.2.2.1.below (hbwc.trans (hW.2.below (by have := hbwc.size; omega) (fun y hy => Nat.le_trans z1 (hP y hy)))) (Nat.le_refl _)).more (by have := hbwc.size; have := hW.2.size; omega))
          have hfull := fun (W : World) (hW : Saved wc W q p bs bw T 1 9 R.2) => hW.1.disk.full
          have HSV := Lib.hid hsv
          have HCR := Lib.hid hcr
          have HLV := Lib.hid (And.intro hlive (And.intro hfull (And.intro hP (And.intro hb16 (And.intro hbwc (And.intro z1 z2))))))
          have h7a : -7 < x.tmod 7 := by have := Int.tmod_lt_of_pos (-x) (show (0 : Int) < 7 by omega); rw [Int.neg_tmod] at this; omega
          have h7b : x.tmod 7 < 7 := Int.tmod_lt_of_pos x (by omega)
          have hsI : (s : Int) ≤ 8 := by have := HX.out.2.2.2.2.2.2.2.2.1; omega
          clear hsv hcr hlive hfull hP hb16 hbwc z1 z2 hne hp1 hp2 hp3 hT hRe hbc hrow5 HRN HA
          rcases hcode with hcode | hcode
          · rw [hcode] at HSV
            have HCD := Lib.hid hcode
            clear hcode
            go_upto_region 22 with (first
              | (go_at_call 35; (with_reducible refine HSV.out.mono ?_); rintro e w6 ⟨rfl, hv6⟩)
              | go_in)
            have HV6 := Lib.hid hv6
            clear hv6
            go_upto_region 25 with (first
              | (go_at_call 24; (with_reducible refine (HCR.out w6 HV6.out _ _).mono ?_); rintro e w7 ⟨p', bs', bw', rfl, y1, y2, y3, hD7, hb7⟩)
              | go_in)
            have hl7 := HLV.out.1 keep (x.tmod 7 - 1) (x.tmod 65) (HLV.out.2.1 w6 HV6.out)
            obtain ⟨M3, hM3⟩ : ∃ M3, M3 = R.2.crashed keep (x.tmod 7 - 1) (x.tmod 65) := ⟨_, rfl⟩
            rw [← hM3] at hl7 hD7
            have hsz3 : M3.size = 20 := by rcases hl7 with h | h; exact h.size; exact h.2.size
            have hf6 : Fr wc w6 [p, bs, bw] := HV6.out.2
            have hw17 : Below w1.heap.size w1 w7 := HLV.out.2.2.2.1.trans ((hf6.below HLV.out.2.2.2.1.size HLV.out.2.2.1).trans (lower' hb7 (Nat.le_trans HLV.out.2.2.2.1.size hf6.size)))
            have hop7 := openD (first := 1) (count := 9) hD7 (by rw [hsz3]; omega) (by rw [hsz3]; unfold FitsI; exact ⟨by decide, by decide, by decide, by decide⟩)
            rw [show ((1 : Nat) : Int) = 1 from rfl, show ((9 : Nat) : Int) = 9 from rfl] at hop7
            have HO7 := Lib.hid hop7
            have zz : w1.heap.size ≤ w6.heap.size := Nat.le_trans HLV.out.2.2.2.1.size hf6.size
            have H7 := Lib.hid (And.intro (Nat.le_trans zz y1) (And.intro (Nat.le_trans zz y2) (And.intro (Nat.le_trans zz y3) (And.intro hD7 hw17))))
            clear hop7 y1 y2 y3 hD7 hb7 hf6 hw17 hM3 hsz3 zz h7a h7b
            go_upto_region 28 with (first
              | (go_at_call 33; (with_reducible refine HO7.out.mono ?_); rintro e w8 ⟨q8, rfl, hq8, hI8, hb8⟩)
              | go_in)
            have hld := loadI_any hI8
            have hw18 : Below w1.heap.size w1 w8 := H7.out.2.2.2.2.trans (lower' hb8 H7.out.2.2.2.2.size)
            have hD8 := H7.out.2.2.2.1.kept hb8
            have H8 := Lib.hid (And.intro hw18 hD8)
            clear hw18 hD8 hI8 hb8 hq8 HO7
            replace hl7 := hl7.resolve_right (fun h => by have h1 := h.1; rw [HCD.out] at h1; exact absurd h1 (by decide))
            have hL3 := hl7
            rw [hL3.img] at hld
            rw [show imgX (s + 1) D = some (s + 1, D) from if_neg (by omega)] at hld
            have HLD := Lib.hid hld
            have HL3 := Lib.hid hL3
            clear hld hl7 hL3
            go_upto_region 29 with (first
              | (go_at_call 37; (with_reducible refine HLD.out.mono ?_); rintro e w9 ⟨A9, c9, rfl, hO9⟩)
              | go_in)
            obtain ⟨A8, c8, e8, _, ho2, _, _, hb9⟩ := hO9
            cases e8
            have s1 := strAt (n := D.length) (c := c9) ho2 rfl
            have hw19 : Below w1.heap.size w1 w9 := H8.out.1.trans (lower' hb9 H8.out.1.size)
            have s2 : (convert 45 9 (.slice rA (min (rl.length : Int) 500).toNat rc)).run Try.prog w9 = .ok (.string ⟨D.toArray⟩) w9 := strAt (HD4.out.2.1.below (HB1.out.trans (lower' hw19 HB1.out.size)) (Nat.le_refl _)) HD4.out.1.symm
            have HD9 := Lib.hid (And.intro (H8.out.2.kept hb9) hw19)
            clear ho2 hb9 hw19
            go_wp2_with go_in
            refine ⟨⟨k + 1, _, p', bs', bw', s + 1, M3, RowB.cut ⟨rA, rl, rc⟩ 500, by have := HX.out.2.2.2.2.2.2.2.1; omega, by omega, by simp, by simp, by have := HX.out.2.2.2.2.2.2.2.2.1; omega, ?_, HD4.out.2.2.2.1, rfl, HD9.out.1, ?_, by have := HX.out.2.2.1; omega, H7.out.1, H7.out.2.1, H7.out.2.2.1, HD9.out.2⟩, by simp [intOf]; have := HX.out.2.2.2.2.2.2.2.1; omega⟩
            · rw [HD4.out.2.2.2.2.1, HD4.out.1]
            · rw [HD4.out.2.2.2.2.2]; exact HL3.out
          · rw [hcode] at HSV
            have HCD := Lib.hid hcode
            clear hcode
            go_upto_region 22 with (first
              | (go_at_call 35; (with_reducible refine HSV.out.mono ?_); rintro e w6 ⟨rfl, hv6⟩)
              | go_in)
            have HV6 := Lib.hid hv6
            clear hv6
            go_upto_region 25 with (first
              | (go_at_call 24; (with_reducible refine (HCR.out w6 HV6.out _ _).mono ?_); rintro e w7 ⟨p', bs', bw', rfl, y1, y2, y3, hD7, hb7⟩)
              | go_in)
            have hl7 := HLV.out.1 keep (x.tmod 7 - 1) (x.tmod 65) (HLV.out.2.1 w6 HV6.out)
            obtain ⟨M3, hM3⟩ : ∃ M3, M3 = R.2.crashed keep (x.tmod 7 - 1) (x.tmod 65) := ⟨_, rfl⟩
            rw [← hM3] at hl7 hD7
            have hsz3 : M3.size = 20 := by rcases hl7 with h | h; exact h.size; exact h.2.size
            have hf6 : Fr wc w6 [p, bs, bw] := HV6.out.2
            have hw17 : Below w1.heap.size w1 w7 := HLV.out.2.2.2.1.trans ((hf6.below HLV.out.2.2.2.1.size HLV.out.2.2.1).trans (lower' hb7 (Nat.le_trans HLV.out.2.2.2.1.size hf6.size)))
            have hop7 := openD (first := 1) (count := 9) hD7 (by rw [hsz3]; omega) (by rw [hsz3]; unfold FitsI; exact ⟨by decide, by decide, by decide, by decide⟩)
            rw [show ((1 : Nat) : Int) = 1 from rfl, show ((9 : Nat) : Int) = 9 from rfl] at hop7
            have HO7 := Lib.hid hop7
            have zz : w1.heap.size ≤ w6.heap.size := Nat.le_trans HLV.out.2.2.2.1.size hf6.size
            have H7 := Lib.hid (And.intro (Nat.le_trans zz y1) (And.intro (Nat.le_trans zz y2) (And.intro (Nat.le_trans zz y3) (And.intro hD7 hw17))))
            clear hop7 y1 y2 y3 hD7 hb7 hf6 hw17 hM3 hsz3 zz h7a h7b
            go_upto_region 28 with (first
              | (go_at_call 33; (with_reducible refine HO7.out.mono ?_); rintro e w8 ⟨q8, rfl, hq8, hI8, hb8⟩)
              | go_in)
            have hld := loadI_any hI8
            have hw18 : Below w1.heap.size w1 w8 := H7.out.2.2.2.2.trans (lower' hb8 H7.out.2.2.2.2.size)
            have hD8 := H7.out.2.2.2.1.kept hb8
            have H8 := Lib.hid (And.intro hw18 hD8)
            clear hw18 hD8 hI8 hb8 hq8 HO7
            rcases hl7 with hl7 | ⟨_, hl7⟩
            · have hL3 := hl7
              rw [hL3.img] at hld
              rw [show imgX (s + 1) D = some (s + 1, D) from if_neg (by omega)] at hld
              have HLD := Lib.hid hld
              have HL3 := Lib.hid hL3
              clear hld hl7 hL3
              go_upto_region 29 with (first
                | (go_at_call 37; (with_reducible refine HLD.out.mono ?_); rintro e w9 ⟨A9, c9, rfl, hO9⟩)
                | go_in)
              obtain ⟨A8, c8, e8, _, ho2, _, _, hb9⟩ := hO9
              cases e8
              have s1 := strAt (n := D.length) (c := c9) ho2 rfl
              have hw19 : Below w1.heap.size w1 w9 := H8.out.1.trans (lower' hb9 H8.out.1.size)
              have s2 : (convert 45 9 (.slice rA (min (rl.length : Int) 500).toNat rc)).run Try.prog w9 = .ok (.string ⟨D.toArray⟩) w9 := strAt (HD4.out.2.1.below (HB1.out.trans (lower' hw19 HB1.out.size)) (Nat.le_refl _)) HD4.out.1.symm
              have HD9 := Lib.hid (And.intro (H8.out.2.kept hb9) hw19)
              clear ho2 hb9 hw19
              go_wp2_with go_in
              refine ⟨⟨k + 1, _, p', bs', bw', s + 1, M3, RowB.cut ⟨rA, rl, rc⟩ 500, by have := HX.out.2.2.2.2.2.2.2.1; omega, by omega, by simp, by simp, by have := HX.out.2.2.2.2.2.2.2.2.1; omega, ?_, HD4.out.2.2.2.1, rfl, HD9.out.1, ?_, by have := HX.out.2.2.1; omega, H7.out.1, H7.out.2.1, H7.out.2.2.1, HD9.out.2⟩, by simp [intOf]; have := HX.out.2.2.2.2.2.2.2.1; omega⟩
              · rw [HD4.out.2.2.2.2.1, HD4.out.1]
              · rw [HD4.out.2.2.2.2.2]; exact HL3.out
            · have hL3 := hl7
              rw [hL3.img] at hld
              have hnil := hL3.nil
              have HL3 := Lib.hid hL3
              clear hl7 hL3
              obtain ⟨lA, ll, lc⟩ := lr
              have hlok := HX.out.1
              by_cases hs0 : s = 0
              · subst hs0
                have hl0 : ll = [] := hnil rfl
                subst hl0
                rw [show imgX 0 (RowB.l ⟨lA, [], lc⟩) = none from rfl] at hld
                have HLD := Lib.hid hld
                clear hld hnil
                have hst : ∀ W : World, Below w8.heap.size w8 W → (convert 45 9 (RowB.v ⟨lA, [], lc⟩)).run Try.prog W = .ok (.string ⟨([] : List UInt8).toArray⟩) W := fun W hW => strAt (l := []) (n := 0) (B := 0) (by intro h; exact absurd rfl h) rfl
                have hst0 : ∀ W : World, (convert 45 9 (.slice none 0 0)).run Try.prog W = .ok (.string ⟨([] : List UInt8).toArray⟩) W := fun W => strAt (l := []) (n := 0) (B := 0) (Rd.emp _ _ _) rfl
                go_upto_region 29 with (first
                  | (go_at_call 37; (with_reducible refine HLD.out.mono ?_); rintro e w9 ⟨rfl, hb9⟩)
                  | go_in)
                have s1 := hst w9 hb9
                have s0 := hst0 w9
                have hw19 : Below w1.heap.size w1 w9 := H8.out.1.trans (lower' hb9 H8.out.1.size)
                have HD9 := Lib.hid (And.intro (H8.out.2.kept hb9) hw19)
                clear hb9 hw19 hst hst0
                go_wp2_with go_in
                exact ⟨⟨k + 1, _, p', bs', bw', 0, M3, ⟨lA, [], lc⟩, by have := HX.out.2.2.2.2.2.2.2.1; omega, by omega, by simp, by rfl, by omega, rfl, hlok, rfl, HD9.out.1, HL3.out, by have := HX.out.2.2.1; omega, H7.out.1, H7.out.2.1, H7.out.2.2.1, HD9.out.2⟩, by simp [intOf]; have := HX.out.2.2.2.2.2.2.2.1; omega⟩
              · rw [show imgX s (RowB.l ⟨lA, ll, lc⟩) = some (s, ll) from if_neg hs0] at hld
                have HLD := Lib.hid hld
                have hs0I : (0 : Int) < (s : Int) := by omega
                have hsne : ¬ (s : Int) = (s : Int) + 1 := by omega
                have hsb : ((s : Int) == (s : Int) + 1) = false := by rw [beq_eq_false_iff_ne]; omega
                clear hld hnil hs0
                go_upto_region 29 with (first
                  | (go_at_call 37; (with_reducible refine HLD.out.mono ?_); rintro e w9 ⟨A9, c9, rfl, hO9⟩)
                  | go_in)
                obtain ⟨A8, c8, e8, _, ho2, _, _, hb9⟩ := hO9
                cases e8
                have s1 := strAt (n := ll.length) (c := c9) ho2 rfl
                have hw19 : Below w1.heap.size w1 w9 := H8.out.1.trans (lower' hb9 H8.out.1.size)
                have s2 : (convert 45 9 (RowB.v ⟨lA, ll, lc⟩)).run Try.prog w9 = .ok (.string ⟨ll.toArray⟩) w9 := strAt (hlok.1.below (HB1.out.trans (lower' hw19 HB1.out.size)) (Nat.le_refl _)) rfl
                have HD9 := Lib.hid (And.intro (H8.out.2.kept hb9) hw19)
                clear ho2 hb9 hw19
                go_wp2_with go_in
                exact ⟨⟨k + 1, _, p', bs', bw', s, M3, ⟨lA, ll, lc⟩, by have := HX.out.2.2.2.2.2.2.2.1; omega, by omega, by simp, by rfl, by have := HX.out.2.2.2.2.2.2.2.2.1; omega, rfl, hlok, rfl, HD9.out.1, HL3.out, by have := HX.out.2.2.1; omega, H7.out.1, H7.out.2.1, H7.out.2.2.1, HD9.out.2⟩, by simp [intOf]; have := HX.out.2.2.2.2.2.2.2.1; omega⟩
    · have hX := Lib.hid hb
      have hend2 : ¬ (k : Int) < (rows.length : Int) ∨ ((k : Int) < (rows.length : Int) ∧ ¬ (k : Int) < 8) := by omega
      clear hDk hL hT hgo hlr hb
      rcases hend2 with h | ⟨h1, h2⟩
      all_goals
        go_wp2_with go_in
        go_ret
        exact ⟨rfl, HB1.out.trans (lower' hX.out HB1.out.size)⟩
end Go.Proofs.Ytnjljalihjkmcaa
