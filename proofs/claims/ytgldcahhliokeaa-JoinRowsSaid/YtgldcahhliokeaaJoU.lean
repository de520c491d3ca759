/- join.with: the walk. -/
import Derived.Test.YtgldcahhliokeaaJoS
namespace Go.Proofs.Ytgldcahhliokeaa
open Go.RowKit Go.Maps

abbrev stO (s : Stp) : Obj := .cells #[.string ⟨s.lab.toArray⟩, .int .i64 (s.fr : Int), .int .i64 (s.to : Int), .int .i64 (s.kn : Int)] 99
set_option maxRecDepth 100000 in
set_option maxHeartbeats 8000000 in
theorem with_any (s : Stp) (x : LV) (A : Option Addr) (c : Nat) (es : List Ed) (w : World) (hx : x.Ok w) (he : Eds w A c es) (h1 : s.fr ≤ s.kn) (h2 : s.to ≤ max s.kn (s.fr + 1)) (hkn : s.kn ≤ 40) (hl : ∀ r ∈ tus x.ts, r.length = s.kn) (hI : ∀ r ∈ tus x.ts, ∀ v ∈ r, I64 v) :
    Calls Try.prog 58 #[.slice x.A x.ts.length x.c, stV s, .slice A es.length c] w (WoL w ((withL s (tus x.ts) es).take 3001)) := by
  have hb0 : Below w.heap.size w ((w.alloc (.cells #[.string ⟨s.lab.toArray⟩, .int .i64 (s.fr : Int), .int .i64 (s.to : Int), .int .i64 (s.kn : Int)] 99)).alloc (.map #[] 0)) := ((Below.refl _ _).alloc (Nat.le_refl _) _).alloc (by simp) _
  have hW := two_new w (.cells #[.string ⟨s.lab.toArray⟩, .int .i64 (s.fr : Int), .int .i64 (s.to : Int), .int .i64 (s.kn : Int)] 99) (.map #[] 0)
  have hf := fitting_any s A c es _ (he.below hb0)
  have hmm := @run_makeMap Try.prog
  have hxs := hx.sm
  have hfs : (fitL s es).length ≤ 200 := Nat.le_trans (fitL_len s es) he.sm
  have HA := Lib.hid (And.intro hx (And.intro he (And.intro hl hI)))
  have HS := Lib.hid (And.intro h1 (And.intro h2 hkn))
  have H0 := Lib.hid (And.intro hb0 hW)
  have HF := Lib.hid hf
  clear hx he h1 h2 hkn hl hI hb0 hW hf
  go_enter Try.func58, Try.ntmps58
  go_wp2_with (go_at_call 79; (with_reducible refine HF.out.mono ?_); rintro e w1 ⟨fA, fc, rfl, f1, b1⟩)
  clear hmm HF
  have hg1 := (b1.block _ (heap_lt H0.out.2.1)).trans H0.out.2.1
  have hm1 := (b1.block _ (heap_lt H0.out.2.2)).trans H0.out.2.2
  have hG1 : Grps w1 w1.heap.size (w.heap.size + 1) s [] := by
    have h := (Grps.made (w.alloc (stO s)) w1.heap.size s).kept (w' := w1) b1
    rw [alloc1_size] at h
    exact h
  have H1 := Lib.hid (And.intro f1 (And.intro hg1 (And.intro hm1 (And.intro hG1 (H0.out.1.trans (lower' b1 H0.out.1.size))))))
  clear f1 b1 hg1 hm1 hG1
  go_loopw [21] (fun i wr => ∃ k : Nat, k ≤ (fitL s es).length ∧ i = .int .i64 (k : Int) ∧ Hid (Grps wr w1.heap.size (w.heap.size + 1) s ((fitL s es).take k) ∧ Keep w1.heap.size (w.heap.size + 1) w1 wr)) (fun i _ => (fitL s es).length - (intOf i).toNat)
  case atStart => exact ⟨0, by omega, rfl, Lib.hid ⟨H1.out.2.2.2.1, Keep.refl _ _ _⟩⟩
  case round =>
    obtain ⟨k, hk, rfl, hrel⟩ := hrel
    have hE := H1.out.1.keep (Nat.le_refl _) ⟨_, _, H1.out.2.2.1⟩ hrel.out.2
    have hgs := (hrel.out.2.block w.heap.size (by have := heap_lt H1.out.2.1; omega) (by omega)).trans H1.out.2.1
    by_cases hlt : k < (fitL s es).length
    · obtain ⟨b, o, hA, _, c0, c1⟩ := hE.cell hlt
      have hlI : (k : Int) < ((fitL s es).length : Int) := by omega
      have hei := fit_i64 HA.out.2.1.ok _ (List.getElem_mem hlt)
      have htk : (fitL s es).take (k + 1) = (fitL s es).take k ++ [(fitL s es)[k]] := List.take_succ_eq_append_getElem hlt
      have hfl : ((fitL s es).take k).length ≤ 200 := by
        have h3 := fitL_len s es
        have h4 := HA.out.2.1.sm
        rw [List.length_take]; omega
      rw [hA]
      generalize (fitL s es)[k] = y at c0 c1 hei htk
      obtain ⟨yf, yt⟩ := y
      dsimp only at c0 c1 hei
      have hB1 := Below.alloc (Below.refl wr.heap.size wr) (Nat.le_refl _) (.cells #[.int .i64 yf, .int .i64 yt] 120)
      have hgs1 := (hB1.block _ (heap_lt hgs)).trans hgs
      have d0 := cell_of_row _ _ 0 _ _ _ hgs1; have d1 := cell_of_row _ _ 1 _ _ _ hgs1; have d2 := cell_of_row _ _ 2 _ _ _ hgs1; have d3 := cell_of_row _ _ 3 _ _ _ hgs1
      have hT := told_any s (yf, yt) (wr.alloc (.cells #[.int .i64 yf, .int .i64 yt] 120))
      obtain ⟨⟨k1, k2⟩, hkk⟩ : ∃ q, q = toldS s (yf, yt) := ⟨_, rfl⟩
      rw [← hkk] at hT
      unfold enV at hT
      dsimp only at hT
      have HT := Lib.hid hT
      have HK := Lib.hid hkk
      clear hT hkk
      have HG := Lib.hid (And.intro (hrel.out.1.kept hB1) (And.intro (hrel.out.2.trans (Keep.of_below hB1 hrel.out.2.size)) (And.intro (heap_alloc_new wr (.cells #[.int .i64 yf, .int .i64 yt] 120)) (And.intro hei (And.intro htk hfl)))))
      clear hE hgs hei htk hfl hB1 hgs1 hrel
      go_upto_region 6 with (go_at_call 80; (with_reducible refine HT.out.mono ?_); rintro e w2 ⟨rfl, b2⟩)
      have hq0 := (b2.block _ (heap_lt HG.out.2.2.1)).trans HG.out.2.2.1
      have hB2 := Below.alloc (Below.refl w2.heap.size w2) (Nat.le_refl _) (.cells #[.int .i64 k1, .int .i64 k2] 120)
      have hq1 := (hB2.block _ (heap_lt hq0)).trans hq0
      have hq2 := heap_alloc_new w2 (.cells #[.int .i64 k1, .int .i64 k2] 120)
      have x0 := cell_of_row _ _ 0 _ _ _ hq1; have x1 := cell_of_row _ _ 1 _ _ _ hq1
      have y0 := cell_of_row _ _ 0 _ _ _ hq2; have y1 := cell_of_row _ _ 1 _ _ _ hq2
      have hG3 := (HG.out.1.kept b2).kept hB2
      have hz2 := Nat.le_trans HG.out.2.1.size (Nat.le_trans b2.size hB2.size)
      have hK3 := (HG.out.2.1.trans (Keep.of_below b2 HG.out.2.1.size)).trans (Keep.of_below hB2 (Nat.le_trans HG.out.2.1.size b2.size))
      have hki := told_i64 (s := s) (e := (yf, yt)) HG.out.2.2.2.1.1 HG.out.2.2.2.1.2
      obtain ⟨v0, st, w3, r1, v5, w5, r2, w6, r3, hG6, hK6⟩ := hG3.put (yf, yt) hki.1 hki.2 (by have := HG.out.2.2.2.2.2; omega) hz2
      rw [← HK.out] at r1
      unfold enV at r1
      dsimp only at r1
      rw [alloc1_size] at r2
      have H6 := Lib.hid (And.intro hG6 (hK3.trans hK6))
      clear hq0 hB2 hq1 hq2 hG3 hz2 hK3 hki hG6 hK6 b2 c0 c1 d0 d1 d2 d3
      go_wp2_with (at_builtin; refine wpL_appK _ rfl (.tmp 30) (.tmp 32) 117 rfl rfl _ _ _ _ rfl rfl r2 ?_)
      go_roundw
      case rel => exact ⟨k + 1, by omega, by go_num, Lib.hid (by rw [HG.out.2.2.2.2.1]; exact H6.out)⟩
      case measure => simp [intOf]; omega
    · have g0 : ¬ (k : Int) < ((fitL s es).length : Int) := by omega
      have hG := hrel.out.1
      rw [List.take_of_length_le (by omega)] at hG
      have hB := H1.out.2.2.2.2.trans (hrel.out.2.below H1.out.2.2.2.2.size (by omega))
      have HG := Lib.hid (And.intro hG (And.intro hgs hB))
      clear hE hgs hG hB hrel hk
      generalize wr = wg at HG ⊢
      go_wp2_with (fail)
      clear g0
      go_loopw [11, 39] (fun out i wr => ∃ (k : Nat) (us : List TV), k ≤ x.ts.length ∧ i = .int .i64 (k : Int) ∧ Hid (RowsAt wr wg.heap.size out us ∧ tus us = withL s ((tus x.ts).take k) es ∧ us.length ≤ 3000 ∧ Below wg.heap.size wg wr)) (fun _ i _ => x.ts.length - (intOf i).toNat)
      case atStart => exact ⟨0, [], by omega, rfl, Lib.hid ⟨RowsAt.nil _ _, rfl, by simp, Below.refl _ _⟩⟩
      case round =>
        obtain ⟨k, us, hk, rfl, hrel⟩ := hrel
        by_cases hlt : k < x.ts.length
        · obtain ⟨b, o, hA, hbl, c0⟩ := (HA.out.1.below HG.out.2.2).cell hlt
          have c0 := (hrel.out.2.2.2.cell (p := ⟨b, o + k, none⟩) hbl).trans c0
          have hlI : (k : Int) < (x.ts.length : Int) := by omega
          have hok : x.ts[k].Ok wg := (HA.out.1.at hlt).below HG.out.2.2
          have htl : k < (tus x.ts).length := by rw [tus_len]; exact hlt
          have hat : (tus x.ts)[k] = x.ts[k].l := tus_at x.ts k hlt
          have hul := HA.out.2.2.1 _ (List.getElem_mem htl)
          have hui := HA.out.2.2.2 _ (List.getElem_mem htl)
          have hw1 := withL_at (s := s) (es := es) htl
          have hw2 := withL_take (s := s) (es := es) htl
          rw [hat] at hul hui hw1 hw2
          rw [hA]
          generalize x.ts[k] = r at c0 hok hul hui hw1 hw2
          have hkey := tells_i64 (s := s) hui
          obtain ⟨fA, fc, hlook⟩ := HG.out.1.look2 hkey.1 hkey.2
          obtain ⟨⟨k1, k2⟩, hkk⟩ : ∃ q, q = tellsS s r.l := ⟨_, rfl⟩
          have hT := tells_any s r wr (hok.below hrel.out.2.2.2) hul
          rw [← hkk] at hT hlook
          have hgr : foundL s es (tellsS s r.l) = grp s (fitL s es) (k1, k2) := by rw [← hkk]; rfl
          rw [hgr] at hw1 hw2
          unfold enV at hT hlook
          dsimp only at hT hlook
          have hgl : (grp s (fitL s es) (k1, k2)).length ≤ 200 := Nat.le_trans (grp_len _ _ _) hfs
          generalize grp s (fitL s es) (k1, k2) = G at hlook hw1 hw2 hgl
          have HT := Lib.hid hT
          have HR := Lib.hid hrel.out
          have HX := Lib.hid (And.intro hok (And.intro hul (And.intro hw1 hw2)))
          have HLK := Lib.hid hlook
          have hgs := (HR.out.2.2.2.block _ (heap_lt HG.out.2.1)).trans HG.out.2.1
          have d0 := cell_of_row _ _ 0 _ _ _ hgs; have d1 := cell_of_row _ _ 1 _ _ _ hgs; have d2 := cell_of_row _ _ 2 _ _ _ hgs; have d3 := cell_of_row _ _ 3 _ _ _ hgs
          clear hok hul hui hw1 hw2 hkey hlook hT hgr hkk hat htl hrel hbl hgs
          go_wp2_with (go_at_call 81; (with_reducible refine HT.out.mono ?_); rintro e w2 ⟨rfl, b2⟩; have HB2 := Lib.hid (HR.out.2.2.2.trans (lower' b2 HR.out.2.2.2.size)); have hlk := (HLK.out _ HB2.out).1; have HR2 := Lib.hid (HR.out.1.kept b2); clear b2)
          go_loopw [11, 49] (fun out j wr => ∃ (m : Nat) (vs : List TV), m ≤ G.length ∧ j = .int .i64 (m : Int) ∧ Hid (RowsAt wr wg.heap.size out vs ∧ tus vs = tus us ++ (G.take m).map (withS s r.l) ∧ vs.length ≤ 3000 ∧ Below wg.heap.size wg wr)) (fun _ j _ => G.length - (intOf j).toNat)
          case atStart => exact ⟨0, us, by omega, rfl, Lib.hid ⟨HR2.out, by simp, HR.out.2.2.1, HB2.out⟩⟩
          case round =>
            obtain ⟨m, vs, hm, rfl, hrel⟩ := hrel
            by_cases hmt : m < G.length
            · obtain ⟨b', o', hA', _, e0, e1⟩ := (HLK.out _ hrel.out.2.2.2).2.cell hmt
              have hmI : (m : Int) < (G.length : Int) := by omega
              have htm : G.take (m + 1) = G.take m ++ [G[m]] := List.take_succ_eq_append_getElem hmt
              have hG0 := List.take_append_drop (m + 1) G
              rw [hA']
              generalize G[m] = y at e0 e1 htm
              obtain ⟨yf, yt⟩ := y
              dsimp only at e0 e1
              have hB1 := Below.alloc (Below.refl wr.heap.size wr) (Nat.le_refl _) (.cells #[.int .i64 yf, .int .i64 yt] 120)
              have hBg := hrel.out.2.2.2.trans (lower' hB1 hrel.out.2.2.2.size)
              have hgs := (hBg.block _ (heap_lt HG.out.2.1)).trans HG.out.2.1
              have d0 := cell_of_row _ _ 0 _ _ _ hgs; have d1 := cell_of_row _ _ 1 _ _ _ hgs; have d2 := cell_of_row _ _ 2 _ _ _ hgs; have d3 := cell_of_row _ _ 3 _ _ _ hgs
              have hWT := withT_any s r (yf, yt) _ (HX.out.1.below hBg) (by have := HX.out.2.1; have := HS.out.2.2; omega)
              unfold enV at hWT
              dsimp only at hWT
              have HWT := Lib.hid hWT
              have hul := withS_len (s := s) (row := r.l) (yf, yt) HX.out.2.1 HS.out.1 HS.out.2.1
              have hnx : s.next ≤ 100 := by have := HS.out.1; have := HS.out.2.1; have := HS.out.2.2; unfold Stp.next; omega
              have HV := Lib.hid (And.intro (hrel.out.1.kept hB1) (And.intro hBg (And.intro hrel.out.2.1 (And.intro htm (And.intro (hul ▸ hnx) hG0)))))
              have hvl := hrel.out.2.2.1
              clear hB1 hBg hgs hWT hul hnx htm hG0 hrel
              go_upto_region 16 with (first
                | (go_at_call 82; (with_reducible refine HWT.out.mono ?_); rintro e w3 ⟨u, rfl, o3, l3, b3⟩; have B3 := Lib.hid (HV.out.2.1.trans (lower' b3 HV.out.2.1.size)); have L3 := Lib.hid l3; obtain ⟨A5, c5, w5, hrun, h5, b5⟩ := (HV.out.1.kept b3).push (own_mono o3 HV.out.2.1.size) (by rw [l3]; exact HV.out.2.2.2.2.1) (by omega) B3.out.size; have H5 := Lib.hid (And.intro h5 (B3.out.trans b5)); clear o3 l3 b3 h5 b5)
                | (at_builtin; refine wpL_appK _ rfl (.tmp 53) (.tmp 58) 30 rfl rfl _ _ _ _ rfl rfl hrun ?_))
              have htv : tus (vs ++ [u]) = tus us ++ (G.take (m + 1)).map (withS s r.l) := by
                rw [tus_app, HV.out.2.2.1, HV.out.2.2.2.1, List.map_append, ← List.append_assoc]
                show _ ++ [u.l] = _
                rw [L3.out]
                rfl
              have HTV := Lib.hid htv
              clear htv
              by_cases hbig : vs.length = 3000
              · have hbI : (3000 : Int) < (vs.length : Int) + 1 := by omega
                have hfin : tus (vs ++ [u]) = (withL s (tus x.ts) es).take 3001 := by
                  have h9 : (tus (vs ++ [u])).length = 3001 := by rw [tus_len, List.length_append, hbig]; rfl
                  rw [HX.out.2.2.1, ← HR.out.2.1, ← HV.out.2.2.2.2.2, List.map_append, ← List.append_assoc, ← HTV.out, List.append_assoc, List.take_append_of_le_length (by omega), List.take_of_length_le (by omega)]
                have hok5 := H5.out.1.ok (by rw [List.length_append, hbig]; simp)
                have HFin := Lib.hid (And.intro hfin hok5)
                clear hfin hok5 hbig hvl
                go_wp2_with (fail)
                go_ret
                exact ⟨⟨A5, vs ++ [u], c5⟩, by rw [← HFin.out.2.1]; rfl, HFin.out.2.2, HFin.out.1, HG.out.2.2.trans (lower' H5.out.2 HG.out.2.2.size)⟩
              · have hbI : ¬ (3000 : Int) < (vs.length : Int) + 1 := by omega
                have hvl' : (vs ++ [u]).length ≤ 3000 := by rw [List.length_append]; simp; omega
                have HVL := Lib.hid hvl'
                have h5 := H5.out.1
                have HFin := Lib.hid h5
                clear hvl' hbig h5 hrun
                go_wp2_with (fail)
                go_roundw
                case rel => exact ⟨m + 1, vs ++ [u], by omega, by go_num, Lib.hid ⟨HFin.out, HTV.out, HVL.out, H5.out.2⟩⟩
                case measure => simp [intOf]; omega
            · have hmI : ¬ (m : Int) < (G.length : Int) := by omega
              have hv := hrel.out.2.1
              rw [List.take_of_length_le (by omega), HR.out.2.1, ← HX.out.2.2.2] at hv
              have HN := Lib.hid (And.intro hrel.out.1 (And.intro hv (And.intro hrel.out.2.2.1 hrel.out.2.2.2)))
              clear hv hrel
              go_wp2_with (fail)
              go_roundw
              case rel => exact ⟨k + 1, vs, by omega, by go_num, HN⟩
              case measure => simp [intOf]; omega
        · have hlI : ¬ (k : Int) < (x.ts.length : Int) := by omega
          obtain ⟨A5, c5, e5, _, _, _⟩ := own_shape hrel.out.1.row
          have h5 := hrel.out.1
          rw [e5] at h5
          have hok5 := h5.ok (by have := hrel.out.2.2.1; omega)
          have hv := hrel.out.2.1
          rw [List.take_of_length_le (by rw [tus_len]; omega)] at hv
          have hl3 : (withL s (tus x.ts) es).length ≤ 3000 := by rw [← hv, tus_len]; exact hrel.out.2.2.1
          have HN := Lib.hid (And.intro hok5.2 (And.intro (show tus us = (withL s (tus x.ts) es).take 3001 from by rw [hv, List.take_of_length_le (by omega)]) hrel.out.2.2.2))
          rw [e5]
          clear e5 h5 hok5 hv hl3 hrel
          go_wp2_with (fail)
          go_ret
          exact ⟨⟨A5, us, c5⟩, rfl, HN.out.1, HN.out.2.1, HG.out.2.2.trans (lower' HN.out.2.2 HG.out.2.2.size)⟩
end Go.Proofs.Ytgldcahhliokeaa
