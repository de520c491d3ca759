/- The document's Way. -/
import Derived.Test.YtgjjdmkoamjdpaaSpGL0
import Derived.Test.YtgjjdmkoamjdpaaSpGG
import Derived.Test.YtgjjdmkoamjdpaaJnI
import Derived.Test.YtgjjdmkoamjdpaaJnL
import Derived.Test.YtgjjdmkoamjdpaaJoBI
import Derived.Deep.CutRange
import Derived.Deep.CutBlock
import Derived.Deep.LoopGhost
namespace Go.Proofs.Ytgjjdmkoamjdpaa
open Go.RowKit Go.Maps Go.Sort

set_option maxRecDepth 100000 in
set_option maxHeartbeats 8000000 in
theorem rway_any (lab : Nm) (A : Option Addr) (c : Nat) (es : List Ed) (a b : Int) (w : World) (h : Es w A c es) (hl : es.length ≤ 20) (hlm : lab.length ≤ maxLen) : Calls Try.prog 6 #[.string ⟨lab.toArray⟩, .slice A es.length c, .int .i64 a, .int .i64 b] w (WyPost lab (prsL lab es) a b w) := by
  have hna := name_any lab w hlm
  have hsame : InE (edsP lab es) = InE (prsL lab es) := InE.same fun q => mem_edsP
  cases hn : isNm lab with
  | false =>
    rw [hn] at hna
    have HN := Lib.hid hna
    have HNM := Lib.hid hn
    clear hna hn h hl hlm hsame
    go_enter Try.func6, Try.ntmps6
    go_wp2_with (go_at_call 13; (with_reducible refine HN.out.mono ?_); rintro e w1 ⟨rfl, rfl⟩)
    go_ret2
    exact .inl ⟨HNM.out, rfl, Below.refl _ _⟩
  | true =>
    rw [hn] at hna
    have HN := Lib.hid hna
    have hg := redges_any lab A c es w h
    have hEl := Nat.le_trans (edsP_len lab es) hl
    unfold EgPost at hg
    obtain ⟨E, hE⟩ : ∃ E, E = edsP lab es := ⟨_, rfl⟩
    rw [← hE] at hg hEl hsame
    have HG := Lib.hid hg
    have HE := Lib.hid (And.intro hn hsame)
    clear hna hn h hl hlm hsame hE hg
    go_enter Try.func6, Try.ntmps6
    go_wp2_with (first
      | (go_at_call 13; (with_reducible refine HN.out.mono ?_); rintro e w1 ⟨rfl, rfl⟩)
      | (go_at_call 14; (with_reducible refine HG.out.mono ?_); rintro e w2 ⟨A2, c2, rfl, p2, b2⟩; have P2 := Lib.hid p2; have B2 := Lib.hid b2; clear p2 b2))
    clear HN HG
    go_loopg [11, 12] (lyM E.length [[a]] []) (fun gk v11 v12 wr => ∃ (d : Nat) (us : List TV) (D : TV) (Aw : Option Addr) (cw : Nat), v11 = .slice Aw us.length cw ∧ v12 = .slice D.A D.l.length D.c ∧ lyM E.length (tus us) D.l ≤ gk ∧ us.length ≤ 21 ∧ Hid (RtAt13 w2.heap.size w2 wr (.slice Aw us.length cw) us D ∧ LyOk E a b d (tus us) D.l))
    case atStart => exact ⟨0, [⟨some ⟨w2.heap.size, 0, none⟩, [a], 1⟩], ⟨none, [], 0⟩, _, _, rfl, rfl, Nat.le_refl _, by simp, Lib.hid ⟨way_start w2 a, LyOk.start E a b⟩⟩
    case round =>
      obtain ⟨d, us, D, Aw, cw, rfl, rfl, hgk, hus, hrel⟩ := hrel
      rename World => w0
      by_cases hw : us = []
      · subst hw
        have HF := Lib.hid (And.intro (hrel.out.2.none rfl) (B2.out.trans (lower' hrel.out.1.b B2.out.size)))
        clear hrel hgk
        go_wp2_with (fail)
        go_ret2
        exact .inr (.inl ⟨HE.out.1, by rw [← HE.out.2]; exact HF.out.1, rfl, HF.out.2⟩)
      · have hpos : 0 < us.length := List.length_pos_iff.2 hw
        have hpI : (0 : Int) < (us.length : Int) := by omega
        have hDl : D.l.length ≤ 20 := Nat.le_trans hrel.out.2.seenLen hEl
        have hd : d ≤ 20 := Nat.le_trans (hrel.out.2.dp (by intro e; apply hw; simpa [tus] using e)) hDl
        have HL := Lib.hid hrel.out
        have HP0 := Lib.hid (P2.out.below (show Below w2.heap.size w2 w0 from hrel.out.1.b))
        have HGK := Lib.hid (And.intro hgk hw)
        clear hrel hgk hw
        go_wp2_with (fail)
        go_loopw [13, 36] (fun v13 v36 wz => ∃ (i : Nat) (ns : List TV) (An : Option Addr) (cn : Nat), i ≤ us.length ∧ ns.length ≤ 20 ∧ v13 = .slice An ns.length cn ∧ v36 = .int .i64 (i : Int) ∧ Hid (NxAt w0 wz (.slice An ns.length cn) ns ∧ NextOk (candsL E D.l ((tus us).take i)) (tus ns))) (fun _ v36 _ => us.length - (intOf v36).toNat)
        case atStart => exact ⟨0, [], none, 0, by omega, by simp, rfl, rfl, Lib.hid ⟨NxAt.start w0, NextOk.start⟩⟩
        case round =>
          obtain ⟨i, ns, An, cn, hi, hns, rfl, rfl, hrel⟩ := hrel
          rename World => wz
          by_cases hlt : i < us.length
          · have hiI : (i : Int) < (us.length : Int) := by omega
            obtain ⟨m, hm⟩ : ∃ m, us[i].l.length = m + 1 := ⟨d, HL.out.2.len _ (mem_tus (List.getElem_mem hlt))⟩
            have hm20 : m ≤ 20 := by have := HL.out.2.len _ (mem_tus (List.getElem_mem hlt)); omega
            obtain ⟨g, tb, hA, hT, hg, htb, hcl⟩ := HL.out.1.o.last hlt hm (HL.out.1.u _ (List.getElem_mem hlt)).1 (by omega)
            have HT := Lib.hid hcl
            have HTE := Lib.hid (And.intro hT (And.intro hm (And.intro hg htb)))
            obtain ⟨q0, q1⟩ := hcl wz w0.heap.size hrel.out.1.b (Nat.le_refl _)
            obtain ⟨t, ht⟩ : ∃ t, t = us[i] := ⟨_, rfl⟩
            rw [← ht] at q0 q1 HT HTE
            have HTI := Lib.hid ht
            have hw1 : IntKind.i64.wrap ((m : Int) + 1 - 1) = (m : Int) := by rw [IntWalk.i64_in _ (by omega)]; omega
            have hw2 : (m : Int) + 1 - 1 = (m : Int) := by omega
            have hw3 : IntKind.i64.wrap (m : Int) = (m : Int) := IntWalk.i64_in _ (by omega)
            have HR := Lib.hid (And.intro hrel.out.1 hrel.out.2)
            have hEl20 := Lib.hid hEl
            rw [hA]
            obtain ⟨la, hla⟩ : ∃ la, la = endI t.l := ⟨_, rfl⟩
            rw [← hla] at q1
            clear hrel hcl hT hm hA ht hg htb
            go_upto_region 11 with (fail)
            go_quiet (fail)
            clear q0 q1
            go_wp2_with (fail)
            go_loopw [13, 53] (fun v13 v53 wq => ∃ (k : Nat) (ns : List TV) (An : Option Addr) (cn : Nat), k ≤ E.length ∧ ns.length ≤ 20 ∧ v13 = .slice An ns.length cn ∧ v53 = .int .i64 (k : Int) ∧ Hid (NxAt w0 wq (.slice An ns.length cn) ns ∧ NextOk (midC E D.l (tus us) i k) (tus ns))) (fun _ v53 _ => E.length - (intOf v53).toNat)
            case atStart => exact ⟨0, ns, An, cn, by omega, hns, rfl, rfl, Lib.hid ⟨HR.out.1.below (Below.drewN' (Below.refl _ _) _), by rw [midC_zero]; exact HR.out.2⟩⟩
            case round =>
              clear HR hns
              obtain ⟨k, ns, An, cn, hk, hns, rfl, rfl, hrel⟩ := hrel
              rename World => wq
              by_cases hkl : k < E.length
              · have hkI : (k : Int) < (E.length : Int) := by omega
                have hbq := hrel.out.1.b
                obtain ⟨eb, eo, hA2, heb, e0, e1⟩ := (HP0.out.below hbq).cell hkl
                have hti : (tus us)[i]'(by rw [tus_len]; exact hlt) = t.l := by rw [HTI.out]; simp [tus]
                have hno := @midC_no E D.l (tus us) i k (by rw [tus_len]; exact hlt) hkl
                have hyes := @midC_yes E D.l (tus us) i k (by rw [tus_len]; exact hlt) hkl
                rw [hti, ← hla] at hno hyes
                have hin := in13_any D E[k].2 wq ((HL.out.1.d.ok (by omega)).below hbq)
                rw [hA2]
                generalize E[k].1 = x1 at e0 hno hyes
                generalize E[k].2 = y at e1 hno hyes hin
                have HIN := Lib.hid hin
                have HR := Lib.hid (And.intro hrel.out.1 (And.intro hrel.out.2 (And.intro hno hyes)))
                have HEB := Lib.hid (And.intro (And.intro e0 e1) heb)
                clear hrel hno hyes hin hti heb
                by_cases hx : x1 = la
                · by_cases hy : y ∈ D.l
                  · have hin := HIN.out
                    rw [decide_eq_true hy] at hin
                    have HI := Lib.hid hin
                    clear hin HIN HT HTE
                    have hbe : (x1 == la) = true := beq_iff_eq.2 hx
                    go_wp2_with (go_at_call 15; (with_reducible refine HI.out.mono ?_); rintro e w6 ⟨rfl, rfl⟩)
                    go_roundw
                    case rel => exact ⟨k + 1, ns, An, cn, by omega, hns, rfl, by go_num, Lib.hid ⟨HR.out.1, by rw [HR.out.2.2.1 (fun h => h.2 hy)]; exact HR.out.2.1⟩⟩
                    case measure => simp [intOf]; omega
                  · have hin := HIN.out
                    rw [decide_eq_false hy] at hin
                    have HI := Lib.hid hin
                    have HR2 := Lib.hid (And.intro HR.out.1 (And.intro HR.out.2.1 (HR.out.2.2.2 hx hy)))
                    clear hin HIN HR hy
                    subst hx
                    go_upto_region 16 with (go_at_call 15; (with_reducible refine HI.out.mono ?_); rintro e w6 ⟨rfl, rfl⟩)
                    clear HI e0 e1
                    rename World => wq
                    have HTO := Lib.hid (And.intro ((((HL.out.1.u _ (List.getElem_mem hlt)).1.ok (by rw [← HTI.out, HTE.out.2.1]; omega)).below hbq)) (And.intro HTE.out.1 (And.intro HTE.out.2.1 hm20)))
                    rw [← HTI.out] at HTO
                    have KT := Lib.hid fun W' (h : Below wq.heap.size wq W') => (⟨(HT.out W' w0.heap.size (hbq.trans (lower' h hbq.size)) (Nat.le_refl _)).1, (h.cell (p := ⟨eb, eo + k * 2 + 1, none⟩) HEB.out.2).trans HEB.out.1.2⟩ : W'.cell? ⟨g, i, none⟩ = some (.slice (some ⟨tb, 0, none⟩) (m + 1) t.c) ∧ W'.cell? ⟨eb, eo + k * 2 + 1, none⟩ = some (.int .i64 y))
                    go_cut [17] from 72 to 84 (fun v17 w' => ∃ (zA : Option Addr) (zc : Nat), v17 = .slice zA (m + 1 + 1) zc ∧ Hid (OwnI w' wq.heap.size ⟨zA, t.l ++ [y], zc⟩ ∧ Below wq.heap.size wq w'))
                    case first =>
                      have hS0 := KT.out wq.drew (Below.refl _ _).drew
                      refine wp_region_M (fun j => decide (j < 13)) (fun w' => w'.cell? ⟨g, i, none⟩ = some (.slice (some ⟨tb, 0, none⟩) (m + 1) t.c) ∧ w'.cell? ⟨eb, eo + k * 2 + 1, none⟩ = some (.int .i64 y)) (by kernel_rfl) ?_
                      refine wpAnyM_take (i := 1) (v := ?_) rfl (by kernel_rfl) (by kernel_rfl) (by kernel_rfl) (by kernel_rfl) (fun _ _ _ h => h) (Or.inl ⟨by rfl, ?_⟩) hS0 ?_
                      rotate_left
                      · intro w hSw; (try dsimp only at hSw); go_simp; (try with_reducible rfl)
                      simp only [Act.put, List.getElem_toArray, List.getElem_cons_zero, List.getElem_cons_succ, List.setIfInBounds_toArray, List.set_cons_zero, List.set_cons_succ]
                      refine wpAnyM_take (i := 2) (v := ?_) rfl (by kernel_rfl) (by kernel_rfl) (by kernel_rfl) (by kernel_rfl) (fun _ _ _ h => h) (Or.inl ⟨by rfl, ?_⟩) hS0 ?_
                      rotate_left
                      · intro w hSw; (try dsimp only at hSw); go_simp; (try with_reducible rfl)
                      simp only [Act.put, List.getElem_toArray, List.getElem_cons_zero, List.getElem_cons_succ, List.setIfInBounds_toArray, List.set_cons_zero, List.set_cons_succ]
                      refine wpAnyM_take (i := 3) (v := ?_) rfl (by kernel_rfl) (by kernel_rfl) (by kernel_rfl) (by kernel_rfl) (fun _ _ _ h => h) (Or.inl ⟨by rfl, ?_⟩) hS0 ?_
                      rotate_left
                      · intro w hSw; (try dsimp only at hSw); go_simp; (try with_reducible rfl)
                      simp only [Act.put, List.getElem_toArray, List.getElem_cons_zero, List.getElem_cons_succ, List.setIfInBounds_toArray, List.set_cons_zero, List.set_cons_succ]
                      refine wpAnyM_take (i := 4) (v := ?_) rfl (by kernel_rfl) (by kernel_rfl) (by kernel_rfl) (by kernel_rfl) (fun _ _ _ h => h) (Or.inl ⟨by rfl, ?_⟩) hS0 ?_
                      rotate_left
                      · intro w hSw; (try dsimp only at hSw); go_simp; (try with_reducible rfl)
                      simp only [Act.put, List.getElem_toArray, List.getElem_cons_zero, List.getElem_cons_succ, List.setIfInBounds_toArray, List.set_cons_zero, List.set_cons_succ]
                      refine wpAnyM_take (i := 6) (v := ?_) rfl (by kernel_rfl) (by kernel_rfl) (by kernel_rfl) (by kernel_rfl) (fun _ _ _ h => h) (Or.inl ⟨by rfl, ?_⟩) hS0 ?_
                      rotate_left
                      · intro w hSw; (try dsimp only at hSw); go_simp; (try with_reducible rfl)
                      simp only [Act.put, List.getElem_toArray, List.getElem_cons_zero, List.getElem_cons_succ, List.setIfInBounds_toArray, List.set_cons_zero, List.set_cons_succ]
                      refine wpAnyM_take (i := 7) (v := ?_) rfl (by kernel_rfl) (by kernel_rfl) (by kernel_rfl) (by kernel_rfl) (fun _ _ _ h => h) (Or.inl ⟨by rfl, ?_⟩) hS0 ?_
                      rotate_left
                      · intro w hSw; (try dsimp only at hSw); go_simp; (try with_reducible rfl)
                      simp only [Act.put, List.getElem_toArray, List.getElem_cons_zero, List.getElem_cons_succ, List.setIfInBounds_toArray, List.set_cons_zero, List.set_cons_succ]
                      refine wpAnyM_take (i := 8) (v := ?_) rfl (by kernel_rfl) (by kernel_rfl) (by kernel_rfl) (by kernel_rfl) (fun _ _ _ h => h) (Or.inl ⟨by rfl, ?_⟩) hS0 ?_
                      rotate_left
                      · intro w hSw; (try dsimp only at hSw); go_simp; (try with_reducible rfl)
                      simp only [Act.put, List.getElem_toArray, List.getElem_cons_zero, List.getElem_cons_succ, List.setIfInBounds_toArray, List.set_cons_zero, List.set_cons_succ]
                      refine wpAnyM_take (i := 9) (v := ?_) rfl (by kernel_rfl) (by kernel_rfl) (by kernel_rfl) (by kernel_rfl) (fun _ _ _ h => h) (Or.inl ⟨by rfl, ?_⟩) hS0 ?_
                      rotate_left
                      · intro w hSw; (try dsimp only at hSw); go_simp; (try with_reducible rfl)
                      simp only [Act.put, List.getElem_toArray, List.getElem_cons_zero, List.getElem_cons_succ, List.setIfInBounds_toArray, List.set_cons_zero, List.set_cons_succ]
                      refine wpAnyM_take (i := 10) (v := ?_) rfl (by kernel_rfl) (by kernel_rfl) (by kernel_rfl) (by kernel_rfl) (fun _ _ _ h => h) (Or.inl ⟨by rfl, ?_⟩) hS0 ?_
                      rotate_left
                      · intro w hSw; (try dsimp only at hSw); go_simp; (try with_reducible rfl)
                      simp only [Act.put, List.getElem_toArray, List.getElem_cons_zero, List.getElem_cons_succ, List.setIfInBounds_toArray, List.set_cons_zero, List.set_cons_succ]
                      refine wpAnyM_two (i := 0) (j := 11) (by kernel_rfl) rfl rfl (fun K hK => ?_) (fun K hK => ?_)
                      · skip
                        go_simp
                        refine hK.out _ _ (fun _ => KT.out _ ((Below.refl _ _).alloc (Nat.le_refl _) _).drew) ?_
                        clear hK K
                        refine wpAnyM_two (i := 5) (j := 11) (by kernel_rfl) rfl rfl (fun K hK => ?_) (fun K hK => ?_)
                        · skip
                          obtain ⟨A5, c5, w5, A6, c6, w6, hrun5, hrun6, hown6, hb6, hb5⟩ := ordW1 HTO.out.1 HTO.out.2.1 HTO.out.2.2.1 HTO.out.2.2.2 y
                          refine step_appK _ (by rfl) (.tmp 72) (.tmp 76) 25 rfl rfl _ _ _ _ rfl rfl hrun5 ?_
                          refine hK.out _ _ (fun _ => KT.out _ hb5) ?_
                          clear hK K
                          refine wpAnyM_one (i := 11) (by kernel_rfl) rfl (fun K hK => ?_)
                          go_simp
                          refine hK.out _ _ (fun _ => KT.out _ (hb5.alloc hb5.size _)) ?_
                          clear hK K
                          refine wpAnyM_one (i := 12) (by kernel_rfl) rfl (fun K hK => ?_)
                          refine step_appK _ (by rfl) (.tmp 77) (.tmp 83) 25 rfl rfl _ _ _ _ rfl rfl hrun6 ?_
                          refine hK.out _ _ (fun _ => KT.out _ hb6) ?_
                          clear hK K
                          have HB6 := Lib.hid (And.intro hown6 hb6)
                          clear hrun5 hrun6 hown6 hb6 hb5
                          refine wpAnyM_one (i := 13) (by kernel_rfl) rfl (fun K hK => ?_)
                          go_simp
                          refine hK.out _ _ (fun h => absurd h (by decide)) ?_
                          clear hK K
                          refine wpAnyM_done (by kernel_rfl) ?_ _
                          go_wp2_with (fail)
                          go_meet
                          case rel => exact ⟨A6, c6, rfl, HB6⟩
                        · skip
                          go_simp
                          refine hK.out _ _ (fun _ => KT.out _ (((Below.refl _ _).alloc (Nat.le_refl _) _).alloc (by simp) _).drew) ?_
                          clear hK K
                          obtain ⟨A5, c5, w5, A6, c6, w6, hrun5, hrun6, hown6, hb6, hb5⟩ := ordW2 HTO.out.1 HTO.out.2.1 HTO.out.2.2.1 HTO.out.2.2.2 y
                          refine wpAnyM_one (i := 5) (by kernel_rfl) rfl (fun K hK => ?_)
                          refine step_appK _ (by rfl) (.tmp 72) (.tmp 76) 25 rfl rfl _ _ _ _ rfl rfl hrun5 ?_
                          refine hK.out _ _ (fun _ => KT.out _ hb5) ?_
                          clear hK K
                          refine wpAnyM_one (i := 12) (by kernel_rfl) rfl (fun K hK => ?_)
                          refine step_appK _ (by rfl) (.tmp 77) (.tmp 83) 25 rfl rfl _ _ _ _ rfl rfl hrun6 ?_
                          refine hK.out _ _ (fun _ => KT.out _ hb6) ?_
                          clear hK K
                          have HB6 := Lib.hid (And.intro hown6 hb6)
                          clear hrun5 hrun6 hown6 hb6 hb5
                          refine wpAnyM_one (i := 13) (by kernel_rfl) rfl (fun K hK => ?_)
                          go_simp
                          refine hK.out _ _ (fun h => absurd h (by decide)) ?_
                          clear hK K
                          refine wpAnyM_done (by kernel_rfl) ?_ _
                          go_wp2_with (fail)
                          go_meet
                          case rel => exact ⟨A6, c6, rfl, HB6⟩
                      · skip
                        go_simp
                        refine hK.out _ _ (fun _ => KT.out _ ((Below.refl _ _).alloc (Nat.le_refl _) _).drew) ?_
                        clear hK K
                        refine wpAnyM_one (i := 0) (by kernel_rfl) rfl (fun K hK => ?_)
                        go_simp
                        refine hK.out _ _ (fun _ => KT.out _ (((Below.refl _ _).alloc (Nat.le_refl _) _).alloc (by simp) _).drew) ?_
                        clear hK K
                        obtain ⟨A5, c5, w5, A6, c6, w6, hrun5, hrun6, hown6, hb6, hb5⟩ := ordW3 HTO.out.1 HTO.out.2.1 HTO.out.2.2.1 HTO.out.2.2.2 y
                        refine wpAnyM_one (i := 5) (by kernel_rfl) rfl (fun K hK => ?_)
                        refine step_appK _ (by rfl) (.tmp 72) (.tmp 76) 25 rfl rfl _ _ _ _ rfl rfl hrun5 ?_
                        refine hK.out _ _ (fun _ => KT.out _ hb5) ?_
                        clear hK K
                        refine wpAnyM_one (i := 12) (by kernel_rfl) rfl (fun K hK => ?_)
                        refine step_appK _ (by rfl) (.tmp 77) (.tmp 83) 25 rfl rfl _ _ _ _ rfl rfl hrun6 ?_
                        refine hK.out _ _ (fun _ => KT.out _ hb6) ?_
                        clear hK K
                        have HB6 := Lib.hid (And.intro hown6 hb6)
                        clear hrun5 hrun6 hown6 hb6 hb5
                        refine wpAnyM_one (i := 13) (by kernel_rfl) rfl (fun K hK => ?_)
                        go_simp
                        refine hK.out _ _ (fun h => absurd h (by decide)) ?_
                        clear hK K
                        refine wpAnyM_done (by kernel_rfl) ?_ _
                        go_wp2_with (fail)
                        go_meet
                        case rel => exact ⟨A6, c6, rfl, HB6⟩
                    case rest =>
                      obtain ⟨zA, zc, rfl, hz⟩ := hcut
                      rename World => wc
                      have HLN := Lib.hid (show ∀ w ∈ tus us, w.length = m + 1 from fun w hw => by have h1 := HL.out.2.len _ hw; have h2 := HL.out.2.len _ (mem_tus (List.getElem_mem hlt)); rw [← HTI.out, HTE.out.2.1] at h2; omega)
                      have hzl : (t.l ++ [y]).length = m + 1 + 1 := by rw [List.length_append, HTE.out.2.1]; rfl
                      have HZ := Lib.hid (And.intro (show OwnI wc w0.heap.size ⟨zA, t.l ++ [y], zc⟩ from own_mono hz.out.1 hbq.size) hzl)
                      have HNX := Lib.hid (show NxAt w0 wc (.slice An ns.length cn) ns ∧ NextOk (midC E D.l (tus us) i k) (tus ns) ∧ (∀ t ∈ ns, t.l.length = m + 1 + 1) ∧ wc.cell? ⟨eb, eo + k * 2 + 1, none⟩ = some (.int .i64 y) ∧ eb < wc.heap.size from
                        ⟨HR2.out.1.below hz.out.2, HR2.out.2.1, fun t' ht' => (mem_midC (L := m + 1) (by rw [tus_len]; exact hlt) HLN.out (HR2.out.2.1.sub _ (mem_tus ht'))).1, (hz.out.2.cell (p := ⟨eb, eo + k * 2 + 1, none⟩) HEB.out.2).trans HEB.out.1.2, Nat.lt_of_lt_of_le HEB.out.2 hz.out.2.size⟩)
                      clear hz hzl hbq HTO KT HT HEB
                      go_wp2_with (fail)
                      go_loopw [18, 87] (fun v18 v87 wj => ∃ (j : Nat) (x : Int), j ≤ ns.length ∧ v18 = .int .i64 x ∧ v87 = .int .i64 (j : Int) ∧ Hid (AtI ns y j x ∧ Below wc.heap.size wc wj)) (fun _ v87 _ => ns.length - (intOf v87).toNat)
                      case atStart => exact ⟨0, -1, by omega, rfl, rfl, Lib.hid ⟨AtI.start ns y, Below.refl _ _⟩⟩
                      case round =>
                        obtain ⟨j, x, hj, rfl, rfl, hrel⟩ := hrel
                        rename World => wj
                        by_cases hjl : j < ns.length
                        · have hjI : (j : Int) < (ns.length : Int) := by omega
                          obtain ⟨g2, tb2, hA3, _, hg2, htb2, hcl2⟩ := HNX.out.1.o.last (i := j) (m := m + 1) hjl (HNX.out.2.2.1 _ (List.getElem_mem hjl)) (HNX.out.1.m _ (List.getElem_mem hjl)) (by rw [HNX.out.2.2.1 _ (List.getElem_mem hjl)]; omega)
                          obtain ⟨q0, q1⟩ := hcl2 wj wc.heap.size hrel.out.2 (Nat.le_refl _)
                          have q2 := (hrel.out.2.cell (p := ⟨eb, eo + k * 2 + 1, none⟩) HNX.out.2.2.2.2).trans HNX.out.2.2.2.1
                          have HRL := Lib.hid hrel.out.2
                          have HAT := Lib.hid hrel.out.1
                          have hw4 : IntKind.i64.wrap ((m : Int) + 1 + 1 - 1) = (m : Int) + 1 := by rw [IntWalk.i64_in _ (by omega)]; omega
                          have hw5 : IntKind.i64.wrap ((m : Int) + 1) = (m : Int) + 1 := IntWalk.i64_in _ (by omega)
                          have hw6 : (0 : Int) ≤ (m : Int) + 1 := by omega
                          have hw7 : ((m : Int) + 1).toNat = m + 1 := by omega
                          rw [hA3]
                          by_cases he : endI ns[j].l = y
                          · have HH := Lib.hid (AtI.hit hjl he)
                            rw [he] at q1
                            clear hrel hcl2 hg2 htb2 hA3 he
                            go_upto_region 21 with (fail)
                            go_quiet (fail)
                            clear q0 q1 q2
                            go_wp2_with (fail)
                            go_roundw
                            case rel => exact ⟨j + 1, (j : Int), by omega, rfl, by go_num, Lib.hid ⟨HH.out, Below.drewN' HRL.out _⟩⟩
                            case measure => simp [intOf]; omega
                          · have HH := Lib.hid (AtI.miss hjl he HAT.out)
                            have hbe : (endI ns[j].l == y) = false := beq_false_of_ne he
                            generalize endI ns[j].l = en at q1 hbe he
                            clear hrel hcl2 hg2 htb2 hA3
                            go_upto_region 21 with (fail)
                            go_quiet (fail)
                            clear q0 q1 q2 hbe he
                            go_wp2_with (fail)
                            go_roundw
                            case rel => exact ⟨j + 1, x, by omega, rfl, by go_num, Lib.hid ⟨HH.out, Below.drewN' HRL.out _⟩⟩
                            case measure => simp [intOf]; omega
                        · obtain rfl : j = ns.length := by omega
                          have hjI : ¬ (ns.length : Int) < (ns.length : Int) := by omega
                          have hb4 := hrel.out.2
                          have hat := hrel.out.1
                          clear hrel
                          rcases hat with ⟨rfl, hnone⟩ | ⟨j0, hj0, rfl, he⟩
                          · rw [List.take_of_length_le (Nat.le_refl _)] at hnone
                            have HNO := Lib.hid (show NextOk (midC E D.l (tus us) i (k + 1)) (tus (ns ++ [(⟨zA, t.l ++ [y], zc⟩ : TV)])) from by
                              rw [HR2.out.2.2, tus_app]
                              refine HNX.out.2.1.new fun x hx => ?_
                              rw [endI_snoc]
                              obtain ⟨t', ht', rfl⟩ := List.mem_map.1 hx
                              exact hnone t' ht')
                            have hlen : ns.length + 1 ≤ 20 := by
                              have h1 := HNO.out.few fun c hc => (mem_midC (L := m + 1) (by rw [tus_len]; exact hlt) HLN.out hc).2
                              rw [tus_len, List.length_append] at h1
                              have := hEl20.out
                              simp at h1
                              omega
                            obtain ⟨A5, c5, w5, hrun, hnx⟩ := (HNX.out.1.below hb4).push (R := ⟨zA, t.l ++ [y], zc⟩) (HZ.out.1.below hb4) (by omega)
                            dsimp only at hrun
                            rw [HZ.out.2] at hrun
                            have HNF := Lib.hid hnx
                            clear hnone hnx hb4
                            go_wp2_with (at_builtin; refine wpL_appK _ rfl (.tmp 109) (.tmp 111) 38 rfl rfl _ _ _ _ rfl rfl hrun ?_)
                            go_roundw
                            case rel => exact ⟨k + 1, ns ++ [⟨zA, t.l ++ [y], zc⟩], A5, c5, by omega, by simp; omega, by simp, by go_num, Lib.hid ⟨by rw [List.length_append]; exact HNF.out, HNO.out⟩⟩
                            case measure => simp [intOf]; omega
                          · skip
                            have hj0I : ¬ (j0 : Int) < 0 := by omega
                            have hj0J : (j0 : Int) < (ns.length : Int) := by omega
                            obtain ⟨g2, cn2, hA3, hg2, hc3⟩ := ((HNX.out.1.below hb4).o).at hj0
                            injection hA3 with hA3 _ hcn
                            subst hcn
                            have hle := less13_any ⟨zA, t.l ++ [y], zc⟩ ns[j0] wj ((HZ.out.1.below hb4).ok (by dsimp only; rw [HZ.out.2]; omega)) (((HNX.out.1.below hb4).m _ (List.getElem_mem hj0)).ok (by rw [HNX.out.2.2.1 _ (List.getElem_mem hj0)]; omega)) (by dsimp only; rw [HZ.out.2, HNX.out.2.2.1 _ (List.getElem_mem hj0)])
                            dsimp only at hle
                            rw [HZ.out.2, HNX.out.2.2.1 _ (List.getElem_mem hj0)] at hle
                            rw [HNX.out.2.2.1 _ (List.getElem_mem hj0)] at hc3
                            have HJ := Lib.hid (And.intro hj0 he)
                            rw [hA3]
                            by_cases hcm : cmpI (t.l ++ [y]) ns[j0].l < 0
                            · rw [decide_eq_true hcm] at hle
                              have HLE := Lib.hid hle
                              have HNO := Lib.hid (show NextOk (midC E D.l (tus us) i (k + 1)) (tus (ns.set j0 (⟨zA, t.l ++ [y], zc⟩ : TV))) from by
                                rw [HR2.out.2.2, tus_set]
                                have hat : (tus ns)[j0]'(by rw [tus_len]; exact hj0) = ns[j0].l := by simp [tus]
                                exact HNX.out.2.1.turn (j := j0) (by rw [tus_len]; exact hj0) (by rw [hat, endI_snoc]; exact he) (by rw [hat]; exact hcm))
                              have HTU := Lib.hid fun W' (hb : Below wj.heap.size wj W') => ((HNX.out.1.below hb4).below hb).turn hj0 (R := ⟨zA, t.l ++ [y], zc⟩) ((HZ.out.1.below hb4).below hb)
                              have HA3 := Lib.hid hA3
                              clear hle hcm he hb4 hA3 hg2
                              go_upto_region 27 with (go_at_call 16; (with_reducible refine HLE.out.mono ?_); rintro e w8 ⟨rfl, b8⟩; obtain ⟨g3, c3, hv, k0, k1, k2⟩ := HTU.out w8 b8; injection hv with hv _ hcc; subst hcc; rw [HA3.out] at hv; injection hv with hv; injection hv with e8 _; subst e8; dsimp only at k2; rw [HZ.out.2] at k2; have HK2 := Lib.hid k2; clear k2 b8)
                              clear hc3
                              go_wp2_with (fail)
                              go_roundw
                              case rel => exact ⟨k + 1, ns.set j0 ⟨zA, t.l ++ [y], zc⟩, An, cn, by omega, by rw [List.length_set]; exact hns, by rw [List.length_set, HA3.out], by go_num, Lib.hid ⟨by rw [List.length_set]; exact HK2.out, HNO.out⟩⟩
                              case measure => simp [intOf]; omega
                            · rw [decide_eq_false hcm] at hle
                              have HLE := Lib.hid hle
                              have HNO := Lib.hid (show NextOk (midC E D.l (tus us) i (k + 1)) (tus ns) from by
                                rw [HR2.out.2.2]
                                have hat : (tus ns)[j0]'(by rw [tus_len]; exact hj0) = ns[j0].l := by simp [tus]
                                exact HNX.out.2.1.keep (mem_tus (List.getElem_mem hj0)) (by rw [he, endI_snoc]) hcm)
                              have HA3 := Lib.hid hA3
                              have HB4 := Lib.hid hb4
                              clear hle hcm he hb4 hA3 hg2
                              go_wp2_with (go_at_call 16; (with_reducible refine HLE.out.mono ?_); rintro e w8 ⟨rfl, b8⟩; have B8 := Lib.hid b8; clear b8)
                              go_roundw
                              case rel => exact ⟨k + 1, ns, An, cn, by omega, hns, by rw [HA3.out], by go_num, Lib.hid ⟨(HNX.out.1.below HB4.out).below B8.out, HNO.out⟩⟩
                              case measure => simp [intOf]; omega
                · have hbe : (x1 == la) = false := beq_false_of_ne hx
                  have hne : ¬ x1 = la := hx
                  have HK := Lib.hid (HR.out.2.2.1 (fun h => hne h.1))
                  clear HIN HT HTE hx
                  go_wp2_with (fail)
                  go_roundw
                  case rel => exact ⟨k + 1, ns, An, cn, by omega, hns, rfl, by go_num, Lib.hid ⟨HR.out.1, by rw [HK.out]; exact HR.out.2.1⟩⟩
                  case measure => simp [intOf]; omega
              · obtain rfl : k = E.length := by omega
                have hkI : ¬ (E.length : Int) < (E.length : Int) := by omega
                have HF := Lib.hid (show NxAt w0 wq (.slice An ns.length cn) ns ∧ NextOk (candsL E D.l ((tus us).take (i + 1))) (tus ns) from ⟨hrel.out.1, by have := hrel.out.2; rwa [midC_all (by rw [tus_len]; exact hlt)] at this⟩)
                clear hrel
                go_wp2_with (fail)
                go_roundw
                case rel => exact ⟨i + 1, ns, An, cn, by omega, hns, rfl, by go_num, HF⟩
                case measure => simp [intOf]; omega
          · obtain rfl : i = us.length := by omega
            have hiI : ¬ (us.length : Int) < (us.length : Int) := by omega
            have HN := Lib.hid (show NxAt w0 wz (.slice An ns.length cn) ns ∧ NextOk (candsL E D.l (tus us)) (tus ns) from ⟨hrel.out.1, by have := hrel.out.2; rwa [List.take_of_length_le (by rw [tus_len]; exact Nat.le_refl _)] at this⟩)
            clear hrel
            have HLN := Lib.hid (show (∀ t ∈ ns, t.l.length = d + 1 + 1) ∧ ∀ j, (h : j < ns.length) → ns[j].l ∈ tus ns from ⟨fun t ht => (mem_candsL' HL.out.2.len (HN.out.2.sub _ (mem_tus ht))).1, fun j h => mem_tus (List.getElem_mem h)⟩)
            go_wp2_with (fail)
            go_loopw [12, 127] (fun v12 v127 wr => ∃ (j : Nat) (D' : TV), j ≤ ns.length ∧ D'.l.length ≤ 20 + j ∧ v12 = .slice D'.A D'.l.length D'.c ∧ v127 = .int .i64 (j : Int) ∧ Hid (RtAt13 w2.heap.size w2 wr (.slice An ns.length cn) ns D' ∧ D'.l = D.l ++ ((tus ns).take j).map endI ∧ (∀ x ∈ (tus ns).take j, endI x ≠ b))) (fun _ v127 _ => ns.length - (intOf v127).toNat)
            case atStart => exact ⟨0, D, by omega, by omega, rfl, rfl, Lib.hid ⟨NxAt.ways HL.out.1 HN.out.1 HL.out.1.b.size, by simp, by simp⟩⟩
            case round =>
              obtain ⟨j, D', hj, hD', rfl, rfl, hrel⟩ := hrel
              rename World => wj
              by_cases hjl : j < ns.length
              · have hjI : (j : Int) < (ns.length : Int) := by omega
                obtain ⟨g2, tb2, hA3, hT3, hg2, htb2, hcl2⟩ := hrel.out.1.o.last (i := j) (m := d + 1) hjl (HLN.out.1 _ (List.getElem_mem hjl)) (hrel.out.1.u _ (List.getElem_mem hjl)).1 (by rw [HLN.out.1 _ (List.getElem_mem hjl)]; omega)
                obtain ⟨q0, q1⟩ := hcl2 wj wj.heap.size (Below.refl _ _) (Nat.le_refl _)
                have HQ := Lib.hid fun n => hcl2 (wj.drewN n) wj.heap.size (Below.drewN' (Below.refl _ _) n) (Nat.le_refl _)
                have hw4 : IntKind.i64.wrap ((d : Int) + 1 + 1 - 1) = (d : Int) + 1 := by rw [IntWalk.i64_in _ (by omega)]; omega
                have hw5 : IntKind.i64.wrap ((d : Int) + 1) = (d : Int) + 1 := IntWalk.i64_in _ (by omega)
                have hw6 : (0 : Int) ≤ (d : Int) + 1 := by omega
                have hw7 : ((d : Int) + 1).toNat = d + 1 := by omega
                have hat : (tus ns)[j]'(by rw [tus_len]; exact hjl) = ns[j].l := by simp [tus]
                have HTK := Lib.hid (show (tus ns).take (j + 1) = (tus ns).take j ++ [ns[j].l] from by rw [List.take_succ_eq_append_getElem (by rw [tus_len]; exact hjl), hat])
                have HA3 := Lib.hid hA3
                rw [hA3]
                by_cases hb : endI ns[j].l = b
                · have HF := Lib.hid (show ∃ r, ns[j].l = a :: r ∧ FirstWay (InE (prsL lab es)) a r b ∧ r.length ≤ 2001 from by
                    obtain ⟨r, h1, h2⟩ := HL.out.2.lay.first HN.out.2 (HLN.out.2 j hjl) hb
                    refine ⟨r, h1, HE.out.2 ▸ h2, ?_⟩
                    have := HLN.out.1 _ (List.getElem_mem hjl)
                    rw [h1] at this
                    simp at this
                    omega)
                  have HU := Lib.hid (show OwnI wj w2.heap.size ⟨some ⟨tb2, 0, none⟩, ns[j].l, ns[j].c⟩ ∧ ns[j].l.length = d + 1 + 1 ∧ Below w2.heap.size w2 wj from ⟨by rw [← hT3]; exact (hrel.out.1.u _ (List.getElem_mem hjl)).1, HLN.out.1 _ (List.getElem_mem hjl), hrel.out.1.b⟩)
                  rw [hb] at q1 HQ
                  generalize ns[j].c = cc at q0 HQ HU
                  generalize ns[j].l = ll at HF HU
                  clear hrel hcl2 hg2 htb2 hA3 hT3 HTK hat hb
                  go_upto_region 33 with (fail)
                  go_quiet (fail)
                  clear q0 q1
                  go_upto_region 35 with (fail)
                  rename Nat => nq
                  have q0 := (HQ.out nq).1
                  go_wp2_with (fail)
                  go_ret2
                  obtain ⟨r, h1, h2, h3⟩ := HF.out
                  exact .inr (.inr ⟨HE.out.1, ⟨some ⟨tb2, 0, none⟩, ll, cc⟩, r, by rw [HU.out.2.1]; rfl, h1, h3, h2, own_mono (HU.out.1.below (Below.drewN' (Below.refl _ _) _)) B2.out.size, Below.drewN' (B2.out.trans (lower' HU.out.2.2 B2.out.size)) _⟩)
                · have HH := Lib.hid (show ∀ x ∈ (tus ns).take (j + 1), endI x ≠ b from fun x hx => by
                    rw [HTK.out] at hx
                    rcases List.mem_append.1 hx with h | h
                    · exact hrel.out.2.2 x h
                    · rw [List.mem_singleton.1 h]; exact hb)
                  have HTK2 := Lib.hid (show ((tus ns).take (j + 1)).map endI = ((tus ns).take j).map endI ++ [endI ns[j].l] from by rw [HTK.out, List.map_append]; rfl)
                  have hbe : (endI ns[j].l == b) = false := beq_false_of_ne hb
                  have HSE := Lib.hid fun n => (hrel.out.1.below (Below.drewN' (Below.refl wj.heap.size wj) n) hrel.out.1.b.size).seen (endI ns[j].l) (by omega) (Nat.le_trans hrel.out.1.b.size (Below.drewN' (Below.refl wj.heap.size wj) n).size)
                  generalize endI ns[j].l = en at q1 hbe hb HSE HTK2
                  have HRD := Lib.hid hrel.out.2.1
                  clear hrel hcl2 hg2 htb2 hA3 hT3 HTK hat
                  go_upto_region 33 with (fail)
                  go_quiet (fail)
                  clear q0 q1
                  go_upto_region 36 with (fail)
                  clear hbe hb
                  rename Nat => nq
                  have hse := HSE.out nq
                  clear HSE HQ
                  generalize wj.drewN nq = wk at hse ⊢
                  obtain ⟨D2, wl, hrun, hdl, hrt, -⟩ := hse
                  have HF := Lib.hid (And.intro hrt (show D2.l = D.l ++ ((tus ns).take (j + 1)).map endI from by rw [hdl, HRD.out, HTK2.out, List.append_assoc]))
                  have hd2 : D2.l.length ≤ 20 + (j + 1) := by rw [hdl, List.length_append]; simp; omega
                  clear hdl hrt
                  go_wp2_with (at_builtin; refine wpL_appK _ rfl (.tmp 149) (.tmp 151) 25 rfl rfl _ _ _ _ rfl rfl hrun ?_)
                  go_roundw
                  case rel => exact ⟨j + 1, D2, by omega, hd2, rfl, by go_num, Lib.hid ⟨by rw [← HA3.out]; exact HF.out.1, HF.out.2, HH.out⟩⟩
                  case measure => simp [intOf]; omega
              · obtain rfl : j = ns.length := by omega
                have hjI : ¬ (ns.length : Int) < (ns.length : Int) := by omega
                have hall : (tus ns).take ns.length = tus ns := List.take_of_length_le (by rw [tus_len]; exact Nat.le_refl _)
                have hne : tus us ≠ [] := fun e => HGK.out.2 (by simpa [tus] using e)
                have hl' := HL.out.2.next HN.out.2 hne (fun x hx => hrel.out.2.2 x (by rw [hall]; exact hx))
                have hDe : D'.l = D.l ++ (tus ns).map endI := by rw [hrel.out.2.1, hall]
                have hsl : (D.l ++ (tus ns).map endI).length ≤ E.length := hl'.seenLen
                have hmz := lyM_next (ways := tus us) (N := tus ns) hne hsl
                have hg1 : lyM E.length (tus ns) (D.l ++ (tus ns).map endI) + 1 ≤ gk := Nat.le_trans hmz HGK.out.1
                rw [← hDe] at hl' hg1
                have HF := Lib.hid (And.intro hrel.out.1 hl')
                obtain ⟨mz, hmzz⟩ : ∃ mz, mz = lyM E.length (tus ns) D'.l := ⟨_, rfl⟩
                rw [← hmzz] at hg1
                have HM := Lib.hid hmzz
                clear hrel hall hl' hDe hsl hmz hne hmzz
                go_wp2_with (fail)
                go_roundg mz
                case rel => exact ⟨d + 1, ns, D', An, cn, rfl, rfl, by rw [HM.out]; exact Nat.le_refl _, by omega, Lib.hid HF.out⟩
                case measure => omega
end Go.Proofs.Ytgjjdmkoamjdpaa
