/- The law SpanWalks, walked (written by wip/gen/genspwalks.py). -/
import Derived.Test.YtmldiojlglpoiaaSpanMoreW
import Derived.Test.YtmldiojlglpoiaaSpWP
namespace Go.Proofs.Ytmldiojlglpoiaa
open Go.RowKit Go.Maps Go.Sort

theorem pairsC_lab {lab : Nm} (hn : isNm lab = true) {l : List Ed} (hl : l.length ≤ 40) : pairsC lab (prsL lab l) = 0 ∧ pairsR lab (prsL lab l) = spanL (prsL lab l) := pairsC_few hn (Nat.le_trans (prsL_len lab l) hl)
def ndsL (l : List Ed) : List Int := l.flatMap fun e => [e.f, e.t]
theorem ndsL_take {l : List Ed} {k : Nat} (h : k < l.length) : ndsL (l.take (k + 1)) = ndsL (l.take k) ++ [l[k].f, l[k].t] := by
  unfold ndsL
  rw [List.take_succ_eq_append_getElem h, List.flatMap_append]
  simp
theorem ndsL_len (l : List Ed) : (ndsL l).length = 2 * l.length := by
  unfold ndsL
  induction l with
  | nil => rfl
  | cons a l ih => rw [List.flatMap_cons, List.length_append, ih, List.length_cons]; simp; omega
/-- A way that is told, or none. -/
def WkPost (lab : Nm) (E : List Pr) (a b : Int) (W4 w : World) (e : Ending) (w' : World) : Prop := Below W4.heap.size W4 w' ∧ ∃ (u : TV) (r : List Int), e = .returned (.tuple #[.slice u.A u.l.length u.c, .int .i64 0]) ∧ u.l = a :: r ∧ r ≠ [] ∧ r.length ≤ 2001 ∧ WayTo (InE E) a r b ∧ u.Ok w' ∧ W4.heap.size ≤ w.heap.size
set_option maxRecDepth 100000 in
set_option maxHeartbeats 8000000 in
theorem spanWalks_walk (lab : Nm) (A : Option Addr) (l : List Ed) (c : Nat) (W : World) (he : EdsRaw W A c l) (hlm : lab.length ≤ maxLen) : Calls Try.prog 6 #[.string ⟨lab.toArray⟩, .slice A l.length c] W fun e w' => e = .returned (.bool true) ∧ Below W.heap.size W w' := by
  have HAW := Lib.hid awake13_any
  by_cases h20 : l.length ≤ 20
  · have hlI : ¬ (20 : Int) < (l.length : Int) := by omega
    by_cases h300 : lab.length ≤ 300
    · have hnI : ¬ (300 : Int) < (lab.length : Int) := by omega
      have HE := Lib.hid (And.intro he h20)
      cases hn : isNm lab with
      | false =>
        have HP := Lib.hid fun WW (hW : Below W.heap.size W WW) => (show Calls Try.prog 16 #[.string ⟨lab.toArray⟩, .slice A l.length c] WW fun e w' => ∃ (yA : Option Addr) (n yc : Nat), e = .returned (.tuple #[.slice yA n yc, .int .i64 1]) ∧ Below W.heap.size W w' from (Pairs_any lab A c l WW ((HE.out.1.es (by have := HE.out.2; omega)).below hW)).mono fun e w' h => by
          obtain ⟨x, h1, _, _, _, h5, _⟩ := h
          rw [(pairsC_no hn).1] at h1
          exact ⟨x.A, x.ts.length, x.c, h1, hW.trans (lower' h5 hW.size)⟩)
        have HR := Lib.hid fun WW (hW : Below W.heap.size W WW) => (show Calls Try.prog 23 #[.string ⟨lab.toArray⟩, .slice A l.length c] WW fun e w' => e = .returned (.tuple #[.slice none 0 0, .int .i64 1]) ∧ Below W.heap.size W w' from (Rings_any lab A c l WW ((HE.out.1.es (by have := HE.out.2; omega)).below hW)).mono fun e w' h => by
          rcases h with ⟨_, h2, h3⟩ | ⟨h1, _⟩
          · exact ⟨h2, hW.trans (lower' h3 hW.size)⟩
          · rw [hn] at h1; cases h1)
        clear he h20 h300 hn
        go_enter Try.func6, Try.ntmps6
        go_wp2_with (first
          | (go_at_call 15; (with_reducible refine (HAW.out _).mono ?_); rintro e w1 ⟨rfl, hb1⟩; have B1 := Lib.hid hb1; clear hb1 HAW)
          | (go_at_call 16; (with_reducible refine (HP.out _ B1.out).mono ?_); rintro e w2 ⟨yA, n, yc, rfl, b2⟩; have B2 := Lib.hid b2; clear b2 HP)
          | (go_at_call 23; (with_reducible refine (HR.out _ B2.out).mono ?_); rintro e w3 ⟨rfl, b3⟩; have B3 := Lib.hid b3; clear b3 HR))
        go_ret
        exact ⟨rfl, B3.out⟩
      | true =>
        obtain ⟨S, hS⟩ := clos_ex (prsL lab l)
        have HP := Lib.hid fun WW (hW : Below W.heap.size W WW) => (show Calls Try.prog 16 #[.string ⟨lab.toArray⟩, .slice A l.length c] WW fun e w' => ∃ y : LV, e = .returned (.tuple #[.slice y.A y.ts.length y.c, .int .i64 0]) ∧ y.Ok w' ∧ tus y.ts = spanL (prsL lab l) ∧ Below W.heap.size W w' from (Pairs_any lab A c l WW ((HE.out.1.es (by have := HE.out.2; omega)).below hW)).mono fun e w' h => by
          obtain ⟨x, h1, _, h3, h4, h5, _⟩ := h
          have hc := pairsC_lab hn (l := l) (by omega)
          rw [hc.1] at h1
          rw [hc.2] at h4
          exact ⟨x, h1, h3, h4, hW.trans (lower' h5 hW.size)⟩)
        have HR := Lib.hid fun WW (hW : Below W.heap.size W WW) => (show Calls Try.prog 23 #[.string ⟨lab.toArray⟩, .slice A l.length c] WW fun e w' => ∃ z : LV, e = .returned (.tuple #[.slice z.A z.ts.length z.c, .int .i64 0]) ∧ z.Ok w' ∧ tus z.ts = ringsR S ∧ Below WW.heap.size WW w' from (Rings_any lab A c l WW ((HE.out.1.es (by have := HE.out.2; omega)).below hW)).mono fun e w' h => by
          rcases h with ⟨h1, _⟩ | ⟨_, z, h3, h4, h5, h6⟩
          · rw [hn] at h1; cases h1
          · exact ⟨z, h3, h4, h5 S hS, h6⟩)
        have HN := Lib.hid (And.intro hn hS)
        have h20' := h20
        clear he h20 h300 hn hS
        go_enter Try.func6, Try.ntmps6
        go_upto_region 7 with (first
          | (go_at_call 15; (with_reducible refine (HAW.out _).mono ?_); rintro e w1 ⟨rfl, hb1⟩; have B1 := Lib.hid hb1; clear hb1 HAW)
          | (go_at_call 16; (with_reducible refine (HP.out _ B1.out).mono ?_); rintro e w2 ⟨y, rfl, y1, y2, b2⟩; have B2 := Lib.hid b2; have HY := Lib.hid (And.intro y1 y2); clear b2 y1 y2 HP)
          | (go_at_call 23; (with_reducible refine (HR.out _ B2.out).mono ?_); rintro e w3 ⟨z, rfl, z1, z2, b3⟩; have B3 := Lib.hid (And.intro b3 (B2.out.trans (lower' b3 B2.out.size))); have HZ := Lib.hid (And.intro z1 z2); clear b3 z1 z2 HR))
        go_wp2_with (fail)
        go_loopw [9, 66] (fun v9 v66 wr => ∃ (k : Nat) (u : TV), k ≤ l.length ∧ v66 = .int .i64 (k : Int) ∧ v9 = .slice u.A u.l.length u.c ∧ Hid (OwnI wr w3.heap.size u ∧ u.l = ndsL (l.take k) ∧ Below w3.heap.size w3 wr)) (fun _ v66 _ => l.length - (intOf v66).toNat)
        case atStart => exact ⟨0, ⟨none, [], 0⟩, by omega, rfl, rfl, Lib.hid ⟨World.ownsRow_nil _ _ _ _, rfl, Below.refl _ _⟩⟩
        case round =>
          obtain ⟨k, u, hk, rfl, rfl, hrel⟩ := hrel
          have hul : u.l.length ≤ 40 := by
            rw [hrel.out.2.1, ndsL_len, List.length_take]
            omega
          by_cases hlt : k < l.length
          · have hkI : (k : Int) < (l.length : Int) := by omega
            have hbw := B3.out.2.trans (lower' hrel.out.2.2 B3.out.2.size)
            obtain ⟨b, o, hA, _, c0, c1, c2⟩ := ((HE.out.1.es (by have := HE.out.2; omega)).below hbw).cell hlt
            have htk := ndsL_take hlt
            rw [hA]
            generalize l[k] = q at c0 c1 c2 htk
            have hg1 := heap_alloc_new wr (.cells #[.int .i64 q.f, .string ⟨q.lab.toArray⟩, .int .i64 q.t] 48)
            have hb1 := Below.alloc (Below.refl wr.heap.size wr) (Nat.le_refl _) (.cells #[.int .i64 q.f, .string ⟨q.lab.toArray⟩, .int .i64 q.t] 48)
            obtain ⟨d0, d1, d2⟩ := bx3 hg1
            have hu1 := hrel.out.1.below hb1
            have HRR := Lib.hid (And.intro hrel.out.2.1 (And.intro htk (And.intro hu1 (hrel.out.2.2.trans (lower' hb1 hrel.out.2.2.size)))))
            clear hb1 hg1 hu1 htk hrel hbw
            obtain ⟨u', w5, hrun, hul', hou, _, _, hb5⟩ := run_appN (wr.alloc (.cells #[.int .i64 q.f, .string ⟨q.lab.toArray⟩, .int .i64 q.t] 48)) w3.heap.size u [q.f, q.t] HRR.out.2.2.1 HRR.out.2.2.2.size (by simp; omega)
            have hrun : (Builtin.append_ #[31, 31] 31 #[.slice u.A u.l.length u.c, .slice (some ⟨(wr.alloc (.cells #[.int .i64 q.f, .string ⟨q.lab.toArray⟩, .int .i64 q.t] 48)).heap.size, 0, none⟩) 2 2]).run Try.prog ((wr.alloc (.cells #[.int .i64 q.f, .string ⟨q.lab.toArray⟩, .int .i64 q.t] 48)).alloc (.cells #[.int .i64 q.f, .int .i64 q.t] 3)) = .ok (.slice u'.A u'.l.length u'.c) w5 := hrun
            rw [alloc1_size] at hrun
            have HN1 := Lib.hid (And.intro hou (And.intro (show u'.l = ndsL (l.take (k + 1)) from by rw [hul', HRR.out.1, HRR.out.2.1]) (HRR.out.2.2.2.trans hb5)))
            clear hul' hou hb5
            go_wp2_with (at_builtin; refine wpL_appK _ rfl (.tmp 70) (.tmp 75) 31 rfl rfl _ _ _ _ rfl rfl hrun ?_)
            go_roundw
            case rel => exact ⟨k + 1, u', by omega, by go_num, rfl, HN1⟩
            case measure => simp [intOf]; omega
          · have hkI : ¬ (k : Int) < (l.length : Int) := by omega
            have hul2 := hrel.out.2.1
            rw [List.take_of_length_le (by omega)] at hul2
            have hbw := B3.out.2.trans (lower' hrel.out.2.2 B3.out.2.size)
            have hb23 := B3.out.1.trans (lower' hrel.out.2.2 B3.out.1.size)
            have HF := Lib.hid (And.intro (HY.out.1.below hb23) (And.intro (LV.Ok.below HZ.out.1 hrel.out.2.2) (And.intro ((HE.out.1.es (by have := HE.out.2; omega)).below hbw) (And.intro (hrel.out.1.ok (by omega)) (And.intro hbw (And.intro HY.out.2 (And.intro HZ.out.2 (And.intro HN.out.1 HN.out.2))))))))
            clear hul2 hbw hb23 hrel B1 B2 B3 HY HZ HE
            obtain ⟨W4, hW4⟩ : ∃ W4, W4 = wr := ⟨_, rfl⟩
            rw [← hW4] at HF ⊢
            clear hW4
            have HHAS := Lib.hid fun WW (hW : Below W4.heap.size W4 WW) (a b : Int) => (show Calls Try.prog 25 #[.slice y.A y.ts.length y.c, .slice (some ⟨WW.heap.size, 0, none⟩) 2 2] (WW.alloc (.cells #[.int .i64 a, .int .i64 b] 3)) fun e w' => e = .returned (.bool (hasL (spanL (prsL lab l)) [a, b])) ∧ Below WW.heap.size WW w' from by
              have hbA : Below WW.heap.size WW (WW.alloc (.cells #[.int .i64 a, .int .i64 b] 3)) := (Below.refl _ _).alloc (Nat.le_refl _) _
              have h := rhas_any y ⟨some ⟨WW.heap.size, 0, none⟩, [a, b], 2⟩ _ ((HF.out.1.below hW).below hbA) (tv_lit (l := [a, b]) (heap_alloc_new _ _) (by simp))
              rw [HF.out.2.2.2.2.2.1] at h
              refine h.mono fun e w' ⟨h1, n, h2⟩ => ⟨h1, ?_⟩
              rw [h2]
              exact Below.drewN' hbA n)
            have HWAY := Lib.hid fun WW (hW : Below W4.heap.size W4 WW) (a b : Int) => Way_any lab A c l a b WW (HF.out.2.2.1.below hW)
            go_wp2_with (fail)
            go_loopw [80] (fun v80 wr => ∃ k : Nat, k ≤ u.l.length ∧ v80 = .int .i64 (k : Int) ∧ Hid (Below W4.heap.size W4 wr)) (fun v80 _ => u.l.length - (intOf v80).toNat)
            case atStart => exact ⟨0, by omega, rfl, Lib.hid (Below.refl _ _)⟩
            case round =>
              obtain ⟨k, hk2, rfl, hrel⟩ := hrel
              rename World => wa
              by_cases hlt2 : k < u.l.length
              · have hkI2 : (k : Int) < (u.l.length : Int) := by omega
                obtain ⟨nb, no, hnA, _, n0⟩ := (HF.out.2.2.2.1.below hrel.out).cell hlt2
                rw [hnA]
                obtain ⟨a, ha⟩ : ∃ a, a = u.l[k] := ⟨_, rfl⟩
                rw [← ha] at n0
                have HBA := Lib.hid hrel.out
                have HNA := Lib.hid hnA
                clear ha hrel
                go_wp2_with (fail)
                go_loopw [14, 86] (fun v14 v86 wq => ∃ i : Nat, i ≤ z.ts.length ∧ v14 = .bool (anyB ((tus z.ts).take i) a) ∧ v86 = .int .i64 (i : Int) ∧ Hid (Below wa.heap.size wa wq)) (fun _ v86 _ => z.ts.length - (intOf v86).toNat)
                case atStart => exact ⟨0, by omega, rfl, rfl, Lib.hid (Below.refl _ _)⟩
                case round =>
                  obtain ⟨i, hi, rfl, rfl, hrel⟩ := hrel
                  rename World => wq
                  have hzs : z.ts.length ≤ 5000 := HF.out.2.1.sm
                  by_cases hi3 : i < z.ts.length
                  · have hiI : (i : Int) < (z.ts.length : Int) := by omega
                    have hz4 := fun WW (hW : Below wa.heap.size wa WW) => LV.Ok.below HF.out.2.1 (HBA.out.trans (lower' hW HBA.out.size))
                    obtain ⟨zb, zo, hzA, _, z0⟩ := Lst.cell (hz4 wq hrel.out) hi3
                    have htok := fun WW (hW : Below wa.heap.size wa WW) => Lst.at (hz4 WW hW) hi3
                    have hany := anyB_take (rows := tus z.ts) (k := i) (by rw [tus_len]; exact hi3) a
                    rw [tus_at z.ts i hi3] at hany
                    rw [hzA]
                    generalize z.ts[i] = t at z0 htok hany
                    have htl : t.l.length ≤ 5000 := (htok _ (Below.refl _ _)).sm
                    have HT := Lib.hid (And.intro htok (And.intro hany htl))
                    have HBq := Lib.hid hrel.out
                    clear hz4 htok hany hrel hzA
                    go_wp2_with (fail)
                    clear z0
                    go_loopw [14, 92] (fun v14 v92 wz => ∃ j : Nat, j ≤ t.l.length ∧ v14 = .bool (anyB ((tus z.ts).take i) a || decide (a ∈ t.l.take j)) ∧ v92 = .int .i64 (j : Int) ∧ Hid (Below wa.heap.size wa wz)) (fun _ v92 _ => t.l.length - (intOf v92).toNat)
                    case atStart => exact ⟨0, by omega, by simp, rfl, HBq⟩
                    case round =>
                      obtain ⟨j, hj, rfl, rfl, hrel⟩ := hrel
                      rename World => wz
                      by_cases hjl : j < t.l.length
                      · have hjI : (j : Int) < (t.l.length : Int) := by omega
                        obtain ⟨tb, tof, htA, _, t0⟩ := (HT.out.1 wz hrel.out).cell hjl
                        have HDM := Lib.hid (decMem_take hjl a)
                        rw [htA]
                        generalize t.l[j] = x at t0 HDM
                        have HBz := Lib.hid hrel.out
                        clear hrel
                        cases hB : (anyB ((tus z.ts).take i) a || decide (a ∈ t.l.take j)) with
                        | true =>
                          have HBt := Lib.hid hB
                          clear hB
                          go_wp2_with (fail)
                          go_roundw
                          case rel => exact ⟨j + 1, by omega, by rw [HDM.out, ← Bool.or_assoc, HBt.out]; rfl, by go_num, HBz⟩
                          case measure => simp [intOf]; omega
                        | false =>
                          have HBt := Lib.hid hB
                          clear hB
                          by_cases hx : x = a
                          · have hE : (x == a) = true := beq_iff_eq.2 hx
                            have HX := Lib.hid hx
                            clear hx
                            go_wp2_with (fail)
                            go_roundw
                            case rel => exact ⟨j + 1, by omega, by rw [HDM.out, ← Bool.or_assoc, HBt.out, decide_eq_true HX.out]; rfl, by go_num, HBz⟩
                            case measure => simp [intOf]; omega
                          · have hE : (x == a) = false := beq_eq_false_iff_ne.2 hx
                            have HX := Lib.hid hx
                            clear hx
                            go_wp2_with (fail)
                            go_roundw
                            case rel => exact ⟨j + 1, by omega, by rw [HDM.out, ← Bool.or_assoc, HBt.out, decide_eq_false HX.out]; rfl, by go_num, HBz⟩
                            case measure => simp [intOf]; omega
                      · have hjI : ¬ (j : Int) < (t.l.length : Int) := by omega
                        rw [List.take_of_length_le (show t.l.length ≤ j by omega)]
                        have HBz := Lib.hid hrel.out
                        clear hrel
                        go_wp2_with (fail)
                        go_roundw
                        case rel => exact ⟨i + 1, by omega, by rw [HT.out.2.1], by go_num, HBz⟩
                        case measure => simp [intOf]; omega
                  · have hiI : ¬ (i : Int) < (z.ts.length : Int) := by omega
                    rw [List.take_of_length_le (show (tus z.ts).length ≤ i by rw [tus_len]; omega), HF.out.2.2.2.2.2.2.1, anyB_ring HF.out.2.2.2.2.2.2.2.2]
                    have hbq : Below W4.heap.size W4 wq := HBA.out.trans (lower' hrel.out HBA.out.size)
                    have HH1 := Lib.hid (HHAS.out wq hbq a a)
                    have HBq := Lib.hid hbq
                    generalize hasL (spanL (prsL lab l)) [a, a] = R at HH1 ⊢
                    clear hbq hrel hzs
                    go_wp2_with (go_at_call 25; (with_reducible refine HH1.out.mono ?_); rintro e w8 ⟨rfl, b8⟩; have HBB4 := Lib.hid (HBq.out.trans (lower' b8 HBq.out.size)); clear b8)
                    go_loopw [113] (fun v113 wr => ∃ k5 : Nat, k5 ≤ u.l.length ∧ v113 = .int .i64 (k5 : Int) ∧ Hid (Below W4.heap.size W4 wr)) (fun v113 _ => u.l.length - (intOf v113).toNat)
                    case atStart => exact ⟨0, by omega, rfl, HBB4⟩
                    case round =>
                      obtain ⟨k5, hk5, rfl, hrel⟩ := hrel
                      rename World => wb
                      by_cases hlt5 : k5 < u.l.length
                      · have hkI5 : (k5 : Int) < (u.l.length : Int) := by omega
                        obtain ⟨nb', no', hnA', _, n1⟩ := (HF.out.2.2.2.1.below hrel.out).cell hlt5
                        rw [HNA.out] at hnA'
                        injection hnA' with hnA'
                        injection hnA' with e8 e9
                        subst e8 e9
                        obtain ⟨b, hb⟩ : ∃ b, b = u.l[k5] := ⟨_, rfl⟩
                        rw [← hb] at n1
                        have hway := HWAY.out wb hrel.out a b
                        have hhas := fun WW (hW : Below wb.heap.size wb WW) => HHAS.out WW (hrel.out.trans (lower' hW hrel.out.size)) a b
                        have HBb := Lib.hid hrel.out
                        clear hb hrel
                        by_cases hld : Lead (InE (prsL lab l)) a b
                        · have hht : hasL (spanL (prsL lab l)) [a, b] = true := (has_lead a b).2 hld
                          simp only [hht] at hhas
                          have HH := Lib.hid hhas
                          have HW := Lib.hid (show Calls Try.prog 20 #[.string ⟨lab.toArray⟩, .slice A l.length c, .int .i64 a, .int .i64 b] wb fun e w' => ∃ (v : TV) (r : List Int), e = .returned (.tuple #[.slice v.A (r.length + 1) v.c, .int .i64 0]) ∧ v.l = a :: r ∧ r.length ≤ 2001 ∧ 0 < r.length ∧ WayTo (InE (prsL lab l)) a r b ∧ v.Ok w' ∧ Below wb.heap.size wb w' from hway.mono fun e w' h => by
                            rcases h with ⟨h1, _⟩ | ⟨_, h2, _⟩ | ⟨_, v, r, h3, h4, h5, h6, h7, h8⟩
                            · rw [HF.out.2.2.2.2.2.2.2.1] at h1; cases h1
                            · exact absurd hld h2
                            · have hvl : v.l.length = r.length + 1 := by rw [h4]; rfl
                              rw [hvl] at h3
                              exact ⟨v, r, h3, h4, h5, List.length_pos_iff.2 h6.ne, h6.way, h7.ok (by omega), h8⟩)
                          clear hway hhas hht hld
                          go_upto_region 32 with (go_at_call 20; (with_reducible refine HW.out.mono ?_); rintro e w5 ⟨v, r, rfl, v1, v2, v3, v4, v5, b5⟩; have HV := Lib.hid (And.intro v1 (And.intro v4 v5)); have HRB := Lib.hid v2; have HB5 := Lib.hid b5; clear v1 v4 v5 b5 HW n1)
                          have hvl : v.l.length = r.length + 1 := by rw [HV.out.1]; rfl
                          obtain ⟨vb, vo, hvA, hvb, v0⟩ := HV.out.2.2.cell (k := 0) (by omega)
                          obtain ⟨vb', vo', hvA', _, vl⟩ := HV.out.2.2.cell (k := r.length) (by omega)
                          rw [hvA] at hvA'
                          injection hvA' with hvA'
                          injection hvA' with e8 e9
                          subst e8 e9
                          have hx0 : v.l[0]'(by omega) = a := by simp only [HV.out.1]; rfl
                          have hxl : v.l[r.length]'(by omega) = b := by simp only [HV.out.1]; exact way_last HV.out.2.1
                          rw [hx0, Nat.add_zero] at v0
                          rw [hxl] at vl
                          have HVC := Lib.hid fun WW (hW : Below w5.heap.size w5 WW) => (⟨(hW.cell (p := ⟨vb, vo, none⟩) hvb).trans v0, (hW.cell (p := ⟨vb, vo + r.length, none⟩) hvb).trans vl⟩ : WW.cell? ⟨vb, vo, none⟩ = some (.int .i64 a) ∧ WW.cell? ⟨vb, vo + r.length, none⟩ = some (.int .i64 b))
                          have hr2 : ¬ (r.length : Int) + 1 < 2 := by omega
                          have hrw : (r.length : Int) + 1 - 1 = (r.length : Int) := by omega
                          have HVA := Lib.hid hvA
                          rw [hvA]
                          clear hvl hx0 hxl v0 vl hvb hvA
                          go_upto_region 34 with (go_at_call 25; (with_reducible refine (HH.out _ HB5.out).mono ?_); rintro e w6 ⟨rfl, b6⟩; obtain ⟨v0, vl⟩ := HVC.out _ b6; have HB6 := Lib.hid b6; clear b6)
                          have H6 := Lib.hid (And.intro (HBb.out.trans (lower' (HB5.out.trans (lower' HB6.out HB5.out.size)) HBb.out.size)) (And.intro (HV.out.2.2.below HB6.out) (And.intro HV.out.1 HV.out.2.1)))
                          rw [← HVA.out]
                          clear v0 vl HV HB5 HB6 HVC hr2 hrw HH v2 v3
                          have hrb := HRB.out
                          go_wp2_with (fail)
                          clear hrb
                          go_loopw [23] (fun v23 w7 => ∃ i : Nat, i ≤ r.length ∧ v23 = .int .i64 (i : Int) ∧ Hid (Below w6.heap.size w6 w7)) (fun v23 _ => r.length + 1 - (intOf v23).toNat)
                          case atStart => exact ⟨0, by omega, rfl, Lib.hid (Below.refl _ _)⟩
                          case round =>
                            obtain ⟨i, hi, rfl, hrel⟩ := hrel
                            rename World => w7
                            by_cases hir : i < r.length
                            · have hirI : (i : Int) + 1 < (r.length : Int) + 1 := by omega
                              have hirJ : (i : Int) < (r.length : Int) + 1 := by omega
                              have hvl : v.l.length = r.length + 1 := by rw [H6.out.2.2.1]; rfl
                              have hv7 := H6.out.2.1.below hrel.out
                              obtain ⟨ub, uo, huA, hub, u0⟩ := hv7.cell (k := i) (by omega)
                              obtain ⟨ub', uo', huA', _, u1⟩ := hv7.cell (k := i + 1) (by omega)
                              rw [huA] at huA'
                              injection huA' with huA'
                              injection huA' with e8 e9
                              subst e8 e9
                              have hin := way_at H6.out.2.2.2 i hir
                              have hx1 : v.l[i]'(by omega) = (a :: r)[i]'(by simp; omega) := by simp only [H6.out.2.2.1]
                              have hx2 : v.l[i + 1]'(by omega) = (a :: r)[i + 1]'(by simp; omega) := by simp only [H6.out.2.2.1]
                              rw [hx1] at u0
                              rw [hx2] at u1
                              rw [huA]
                              generalize (a :: r)[i]'(by simp; omega) = x1 at u0 hin
                              generalize (a :: r)[i + 1]'(by simp; omega) = x2 at u1 hin
                              have HU := Lib.hid (And.intro (H6.out.1.trans (lower' hrel.out H6.out.1.size)) (And.intro (And.intro u0 u1) (And.intro hub (thereB_yes hin))))
                              have HR7 := Lib.hid hrel.out
                              have hrb0 := HRB.out
                              have hw1 : IntKind.i64.wrap ((i : Int) + 1) = (i : Int) + 1 := IntWalk.i64_in _ (by omega)
                              have g4 : (0 : Int) ≤ (i : Int) + 1 := by omega
                              have g5 : ((i : Int) + 1).toNat = i + 1 := by omega
                              clear hrb0
                              have HB7 := Lib.hid (Below.refl w7.heap.size w7)
                              have hrb := HRB.out
                              clear u0 u1 hub hin hx1 hx2 hv7 hvl hrel
                              go_wp2_with (fail)
                              go_loopw [24, 168] (fun v24 v168 wq => ∃ j : Nat, j ≤ l.length ∧ v24 = .bool (thereB (l.take j) x1 lab x2) ∧ v168 = .int .i64 (j : Int) ∧ Hid (Below w7.heap.size w7 wq)) (fun _ v168 _ => l.length - (intOf v168).toNat)
                              case atStart => exact ⟨0, by omega, rfl, rfl, Lib.hid HB7.out⟩
                              case round =>
                                obtain ⟨j, hj, rfl, rfl, hrel⟩ := hrel
                                rename World => wq
                                by_cases hjl : j < l.length
                                · have hjI : (j : Int) < (l.length : Int) := by omega
                                  have hb4 : Below W4.heap.size W4 wq := HU.out.1.trans (lower' hrel.out HU.out.1.size)
                                  obtain ⟨eb, eo, heA, _, e0, e1, e2⟩ := (HF.out.2.2.1.below hb4).cell hjl
                                  have HTK := Lib.hid (thereB_take hjl x1 lab x2)
                                  rw [heA]
                                  generalize l[j] = q at e0 e1 e2 HTK
                                  obtain ⟨qf, ql, qt⟩ := q
                                  dsimp only at e0 e1 e2
                                  have hbE : Below wq.heap.size wq (wq.alloc (.cells #[.int .i64 qf, .string ⟨ql.toArray⟩, .int .i64 qt] 48)) := (Below.refl _ _).alloc (Nat.le_refl _) _
                                  obtain ⟨d0, d1, d2⟩ := bx3 (heap_alloc_new wq (.cells #[.int .i64 qf, .string ⟨ql.toArray⟩, .int .i64 qt] 48))
                                  have hbQ := hrel.out.trans (lower' hbE hrel.out.size)
                                  have hu0 := (hbQ.cell (p := ⟨ub, uo + i, none⟩) HU.out.2.2.1).trans HU.out.2.1.1
                                  have hu1 := (hbQ.cell (p := ⟨ub, uo + (i + 1), none⟩) HU.out.2.2.1).trans HU.out.2.1.2
                                  have hu1' : (wq.alloc (.cells #[.int .i64 qf, .string ⟨ql.toArray⟩, .int .i64 qt] 48)).cell? ⟨ub, uo + i + 1, none⟩ = some (.int .i64 x2) := hu1
                                  have HBB := Lib.hid hbQ
                                  clear hb4 hbE hbQ hrel heA
                                  cases hB : thereB (l.take j) x1 lab x2 with
                                  | true =>
                                    rw [hB] at HTK
                                    go_upto_region 41 with (fail)
                                    go_quiet (fail)
                                    clear hB
                                    go_wp2_with (fail)
                                    go_roundw
                                    case rel => exact ⟨j + 1, by omega, by rw [HTK.out]; rfl, by go_num, Lib.hid (Below.drewN' HBB.out _)⟩
                                    case measure => simp [intOf]; omega
                                  | false =>
                                    rw [hB] at HTK
                                    by_cases h1 : qf = x1
                                    · by_cases h2 : ql = lab
                                      · by_cases h3 : qt = x2
                                        · have HS := Lib.hid (show sameE ⟨qf, ql, qt⟩ x1 lab x2 = true from by unfold sameE; rw [decide_eq_true h1, decide_eq_true h2, decide_eq_true h3]; rfl)
                                          have g1 := h1.symm; have g2 := h2.symm; have g3 := h3.symm; clear hB h1 h2 h3; subst g1 g2 g3
                                          go_upto_region 41 with (fail)
                                          go_quiet (fail)
                                          go_wp2_with (fail)
                                          go_roundw
                                          case rel => exact ⟨j + 1, by omega, by rw [HTK.out, HS.out]; rfl, by go_num, Lib.hid (Below.drewN' HBB.out _)⟩
                                          case measure => simp [intOf]; omega
                                        · have HS := Lib.hid (show sameE ⟨qf, ql, qt⟩ x1 lab x2 = false from by unfold sameE; rw [decide_eq_false h3, Bool.and_false])
                                          have g1 := h1.symm; have g2 := h2.symm; clear hB h1 h2; subst g1 g2
                                          go_upto_region 41 with (fail)
                                          go_quiet (fail)
                                          clear h3
                                          go_wp2_with (fail)
                                          go_roundw
                                          case rel => exact ⟨j + 1, by omega, by rw [HTK.out, HS.out]; rfl, by go_num, Lib.hid (Below.drewN' HBB.out _)⟩
                                          case measure => simp [intOf]; omega
                                      · have HS := Lib.hid (show sameE ⟨qf, ql, qt⟩ x1 lab x2 = false from by unfold sameE; rw [decide_eq_false h2, Bool.and_false, Bool.false_and])
                                        have g1 := h1.symm; clear hB h1; subst g1
                                        go_upto_region 41 with (fail)
                                        go_quiet (fail)
                                        clear h2
                                        go_wp2_with (fail)
                                        go_roundw
                                        case rel => exact ⟨j + 1, by omega, by rw [HTK.out, HS.out]; rfl, by go_num, Lib.hid (Below.drewN' HBB.out _)⟩
                                        case measure => simp [intOf]; omega
                                    · have HS := Lib.hid (show sameE ⟨qf, ql, qt⟩ x1 lab x2 = false from by unfold sameE; rw [decide_eq_false h1, Bool.false_and, Bool.false_and])
                                      go_upto_region 41 with (fail)
                                      go_quiet (fail)
                                      clear h1 hB
                                      go_wp2_with (fail)
                                      go_roundw
                                      case rel => exact ⟨j + 1, by omega, by rw [HTK.out, HS.out]; rfl, by go_num, Lib.hid (Below.drewN' HBB.out _)⟩
                                      case measure => simp [intOf]; omega
                                · obtain rfl : j = l.length := by omega
                                  have hjI : ¬ (l.length : Int) < (l.length : Int) := by omega
                                  rw [List.take_of_length_le (Nat.le_refl _), HU.out.2.2.2]
                                  have HB8 := Lib.hid hrel.out
                                  clear hrel
                                  go_wp2_with (fail)
                                  go_roundw
                                  case rel => exact ⟨i + 1, by omega, by go_num, Lib.hid (HR7.out.trans (lower' HB8.out HR7.out.size))⟩
                                  case measure => simp [intOf]; omega
                            · have hirI : ¬ (i : Int) + 1 < (r.length : Int) + 1 := by omega
                              have hrb := HRB.out
                              have HB6 := Lib.hid (H6.out.1.trans (lower' hrel.out H6.out.1.size))
                              clear hrel
                              go_wp2_with (fail)
                              go_roundw
                              case rel => exact ⟨k5 + 1, by omega, by go_num, HB6⟩
                              case measure => simp [intOf]; omega
                        · have hht : hasL (spanL (prsL lab l)) [a, b] = false := by
                            cases h : hasL (spanL (prsL lab l)) [a, b] with
                            | false => rfl
                            | true => exact absurd ((has_lead a b).1 h) hld
                          simp only [hht] at hhas
                          have HH := Lib.hid hhas
                          have HW := Lib.hid (show Calls Try.prog 20 #[.string ⟨lab.toArray⟩, .slice A l.length c, .int .i64 a, .int .i64 b] wb fun e w' => e = .returned (.tuple #[.slice none 0 0, .int .i64 4]) ∧ Below wb.heap.size wb w' from hway.mono fun e w' h => by
                            rcases h with ⟨h1, _⟩ | ⟨_, _, h3, h4⟩ | ⟨_, v, r, _, _, _, h6, _⟩
                            · rw [HF.out.2.2.2.2.2.2.2.1] at h1; cases h1
                            · exact ⟨h3, h4⟩
                            · exact absurd h6.lead hld)
                          clear hway hhas hht hld
                          go_wp2_with (first
                            | (go_at_call 20; (with_reducible refine HW.out.mono ?_); rintro e w5 ⟨rfl, b5⟩; have HB5 := Lib.hid b5; clear b5 HW n1)
                            | (go_at_call 25; (with_reducible refine (HH.out _ HB5.out).mono ?_); rintro e w6 ⟨rfl, b6⟩; have HB6 := Lib.hid (HBb.out.trans (lower' (HB5.out.trans (lower' b6 HB5.out.size)) HBb.out.size)); clear b6))
                          go_loopw [23] (fun v23 w7 => v23 = .int .i64 0 ∧ w7 = w6) (fun _ _ => 0)
                          case atStart => exact ⟨rfl, rfl⟩
                          case round =>
                            obtain ⟨rfl, hrel⟩ := hrel
                            have HW7 := Lib.hid hrel
                            clear hrel
                            go_wp2_with (fail)
                            go_roundw
                            case rel => exact ⟨k5 + 1, by omega, by go_num, by rw [HW7.out]; exact HB6⟩
                            case measure => simp [intOf]; omega
                      · have hkI5 : ¬ (k5 : Int) < (u.l.length : Int) := by omega
                        have HBk := Lib.hid hrel.out
                        clear hrel
                        go_wp2_with (fail)
                        go_roundw
                        case rel => exact ⟨k + 1, by omega, by go_num, HBk⟩
                        case measure => simp [intOf]; omega
              · have hkI2 : ¬ (k : Int) < (u.l.length : Int) := by omega
                have HB9 := Lib.hid (HF.out.2.2.2.2.1.trans (lower' hrel.out HF.out.2.2.2.2.1.size))
                clear hrel
                go_wp2_with (fail)
                go_ret
                exact ⟨rfl, HB9.out⟩
    · have hnI : (300 : Int) < (lab.length : Int) := by omega
      clear he h20 h300
      go_enter Try.func6, Try.ntmps6
      go_upto_region 2 with (go_at_call 15; (with_reducible refine (HAW.out _).mono ?_); rintro e w1 ⟨rfl, hb1⟩; have B1 := Lib.hid hb1; clear hb1)
      go_wp2_with (go_at_call 15; (with_reducible refine (HAW.out _).mono ?_); rintro e w2 ⟨rfl, hb2⟩; have B2 := Lib.hid (B1.out.trans (lower' hb2 B1.out.size)); clear hb2)
      go_ret
      exact ⟨rfl, B2.out⟩
  · have hlI : (20 : Int) < (l.length : Int) := by omega
    clear he h20
    go_enter Try.func6, Try.ntmps6
    go_upto_region 2 with (go_at_call 15; (with_reducible refine (HAW.out _).mono ?_); rintro e w1 ⟨rfl, hb1⟩; have B1 := Lib.hid hb1; clear hb1)
    go_wp2_with (go_at_call 15; (with_reducible refine (HAW.out _).mono ?_); rintro e w2 ⟨rfl, hb2⟩; have B2 := Lib.hid (B1.out.trans (lower' hb2 B1.out.size)); clear hb2)
    go_ret
    exact ⟨rfl, B2.out⟩
end Go.Proofs.Ytmldiojlglpoiaa
