/- WordsMoved: the walk. -/
import Derived.Test.YtfgojbfdjbochaaDoorWdN
namespace Go.Proofs.YtfgojbfdjbochaaDoor
open Go.RowKit Go.Maps

set_option maxRecDepth 100000 in
set_option maxHeartbeats 4000000 in
theorem wordsMoved_walk (s : ByteArray) (A1 : Option Addr) (l1 : List UInt8) (c1 : Nat) (w : World) (hs : s.size ≤ 140737488355328) (ha : Rd w w.heap.size A1 (u8s l1)) (hb : l1.length ≤ c1) (hc : c1 ≤ 140737488351232) (hT : Tabs w) :
    Calls Tryd.prog 6 #[.string s, .slice A1 l1.length c1] w fun e w' => e = .returned (.bool true) ∧ Below w.heap.size w w' := by
  by_cases hlen : 1024 < s.size
  · have hlen' : (1024 : Int) < (s.size : Int) := by omega
    have HT := Lib.hid hT
    clear hT hlen hs ha hb hc
    go_enter Tryd.func6, Tryd.ntmps6
    go_wp2_with fail
    refine (awake_any _ HT.out).mono ?_
    rintro e w1 ⟨rfl, hb1⟩
    have HT1 := Lib.hid (HT.out.below hb1)
    go_wp2_with fail
    refine (awake_any _ HT1.out).mono ?_
    rintro e w2 ⟨rfl, hb2⟩
    go_wp2
    go_ret
    exact ⟨rfl, hb1.trans (hb2.mono hb1.size)⟩
  · obtain ⟨l, hl⟩ : ∃ l, l = s.data.toList := ⟨_, rfl⟩
    have hsl : s = ⟨l.toArray⟩ := by rw [hl]
    clear hl
    subst hsl
    have hll : l.length ≤ 1024 := by
      have : (⟨l.toArray⟩ : ByteArray).size = l.length := List.size_toArray
      omega
    have hlI : ¬ (1024 : Int) < (l.length : Int) := by omega
    have HT := Lib.hid hT
    obtain ⟨ks, hks⟩ : ∃ ks, ks = (l1.take 20).map (fun b => b.toNat % 8) := ⟨_, rfl⟩
    have hkl : ks.length = min 20 l1.length := by rw [hks]; simp
    have hk8 : ∀ k ∈ ks, k < 8 := by
      intro k hk
      rw [hks, List.mem_map] at hk
      obtain ⟨b, _, rfl⟩ := hk
      omega
    have hat : ∀ k (h : k < ks.length) (h2 : k < l1.length), ks[k] = l1[k].toNat % 8 := by
      intro k h h2
      simp only [hks, List.getElem_map, List.getElem_take]
    have HA := Lib.hid (And.intro ha (And.intro hk8 (And.intro hat (And.intro hkl hll))))
    clear hT hlen hs ha hc hks hk8 hat hkl
    have hcI : (l1.length : Int) ≤ (c1 : Int) := by omega
    go_enter Tryd.func6, Tryd.ntmps6
    go_upto_region 3 with (go_at_call 8; (with_reducible refine (awake_any _ HT.out).mono ?_); rintro e w1 ⟨rfl, hb1⟩)
    have HT1 := Lib.hid (HT.out.below hb1)
    have HR1 := Lib.hid (And.intro (HA.out.1.below hb1 (Nat.le_refl _)) hb1)
    clear hb1 HT
    go_upto_block 0 with (fail)
    go_cut [5] from 6 to 46 (fun fv w' => fv = .string ⟨(gapsB ks).toArray⟩ ∧ Below w1.heap.size w1 w')
    case first =>
      go_wp2_with (fail)
      go_loopw [5, 6] (fun fv iv wr => ∃ i : Nat, i ≤ ks.length ∧ iv = .int .i64 (i : Int) ∧ fv = .string ⟨(gapsB (ks.take i)).toArray⟩ ∧ Below w1.heap.size w1 wr) (fun _ iv _ => ks.length - (intOf iv).toNat)
      case atStart => exact ⟨0, by omega, rfl, rfl, Below.refl _ _⟩
      case round =>
        obtain ⟨i, hi, rfl, rfl, hbl⟩ := hrel
        have hkl := HA.out.2.2.2.1
        by_cases hin : i < ks.length
        · have hiI : (i : Int) < (l1.length : Int) := by omega
          have hi20 : (i : Int) < 20 := by omega
          obtain ⟨ab, ao, rfl, hab, hcell⟩ := u8s_cell HR1.out.1 (k := i) (by omega)
          have hgt := gapsB_take ks i hin
          have hgl := gapsB_len (ks.take i)
          have hgl2 : (gapsB (ks.take i)).length ≤ 120 := by rw [List.length_take] at hgl; omega
          rw [HA.out.2.2.1 i hin (by omega)] at hgt
          generalize l1[i]'(by omega) = b at hcell hgt
          have hix := fun W => idxGb b W
          have hGl := gapB_len (b.toNat % 8)
          obtain ⟨G, hG⟩ : ∃ G, G = gapB (b.toNat % 8) := ⟨_, rfl⟩
          obtain ⟨F, hF⟩ : ∃ F, F = gapsB (ks.take i) := ⟨_, rfl⟩
          rw [← hG] at hix hGl hgt
          rw [← hF] at hgt hgl2 ⊢
          have hcat : ¬ (9223372036854775807 < F.length + G.length) := by omega
          have hb256 : (b.toNat : Int) < 256 := by have := UInt8.toNat_lt b; omega
          have hcs : ∀ W, Below w1.heap.size w1 W → W.cell? ⟨ab, ao + i, none⟩ = some (.int .u8 (b.toNat : Int)) := fun W h => (h.cell (p := ⟨ab, ao + i, none⟩) (Nat.lt_of_lt_of_le hab HR1.out.2.size)).trans hcell
          have hcr := hcs _ hbl.drew
          have HCS := Lib.hid hcs
          have HX := Lib.hid (And.intro hgt (And.intro hin hbl))
          clear hgt hin hbl hG hF hgl hgl2 hcell hcs hkl hi hab
          go_upto_region 7 with (fail)
          go_region_held3 (fun W => W.cell? ⟨ab, ao + i, none⟩ = some (.int .u8 (b.toNat : Int)))
            (first
              | assumption
              | exact HCS.out _ HX.out.2.2.drew)
            ((go_at_call 15; (with_reducible refine (gaps_any _).mono ?_); rintro e w3 ⟨rfl, hb3⟩; have hcr3 := HCS.out w3 (HX.out.2.2.drew.trans (hb3.mono HX.out.2.2.size))))
          all_goals
            go_wp2_with (fail)
            refine ⟨⟨i + 1, HX.out.2.1, by simp, ?_, HX.out.2.2.drew.trans (hb3.mono HX.out.2.2.size)⟩, by simp [intOf]; have := HX.out.2.1; omega⟩
            rw [HX.out.1, ← app_lists]
        · obtain rfl : i = ks.length := by omega
          have HB := Lib.hid hbl
          rw [List.take_length]
          by_cases h20 : l1.length ≤ 20
          · have hiI : ¬ (ks.length : Int) < (l1.length : Int) := by omega
            clear hi hin h20 hbl hkl
            go_wp2_with (fail)
            go_meet
            case rel => exact ⟨rfl, HB.out⟩
          · have hiI : (ks.length : Int) < (l1.length : Int) := by omega
            have hiJ : (ks.length : Int) = 20 := by omega
            clear hi hin h20 hbl hkl
            go_wp2_with (fail)
            go_meet
            case rel => exact ⟨rfl, HB.out⟩
    case rest =>
      obtain ⟨rfl, hbl⟩ := hcut
      have hFl := gapsB_len ks
      have hF2 : (gapsB ks).length ≤ 120 := by have := HA.out.2.2.2.1; omega
      have hsp := fun W (h : Tabs W) => split_any ⟨l.toArray⟩ W (by show l.toArray.size ≤ _; rw [List.size_toArray]; have := HA.out.2.2.2.2; omega) h
      have hd : (⟨l.toArray⟩ : ByteArray).data.toList = l := by simp
      rw [hd] at hsp
      have hsp2 : ∀ W, Tabs W → Calls Tryd.prog 9 #[.string (⟨(gapsB ks).toArray⟩ ++ ⟨l.toArray⟩)] W fun e w' => SplitPost W (splitW (gapsB ks ++ l)) e w' := fun W h => by
        rw [app_lists]
        have := split_any ⟨(gapsB ks ++ l).toArray⟩ W (by show (gapsB ks ++ l).toArray.size ≤ _; rw [List.size_toArray, List.length_append]; have := HA.out.2.2.2.2; omega) h
        have hd2 : (⟨(gapsB ks ++ l).toArray⟩ : ByteArray).data.toList = gapsB ks ++ l := by simp
        rw [hd2] at this
        exact this
      have hen := fun W (h : Tabs W) => end_any ⟨(gapsB ks).toArray⟩ W (by show (gapsB ks).toArray.size ≤ _; rw [List.size_toArray]; omega) h
      have hd3 : (⟨(gapsB ks).toArray⟩ : ByteArray).data.toList = gapsB ks := by simp
      rw [hd3] at hen
      have hmv := fun hl => moved ks HA.out.2.1 l hl _ rfl
      have hpl := plc_le (rns (gapsB ks)) (1, 1) (by simp)
      have hpp := plc_pos (rns (gapsB ks)) (1, 1) (by simp)
      have hrl := rns_len _ (gapsB ks) (Nat.le_refl _)
      obtain ⟨P, hP⟩ : ∃ P, P = plc (1, 1) (rns (gapsB ks)) := ⟨_, rfl⟩
      rw [← hP] at hen hmv hpl hpp
      have hP2 : P.1 + P.2 ≤ 200 := by simp only at hpl; omega
      obtain ⟨F, hF⟩ : ∃ F, F = gapsB ks := ⟨_, rfl⟩
      rw [← hF] at hsp2 hen hF2 hmv ⊢
      have hcat : ¬ (9223372036854775807 < F.length + l.length) := by omega
      have HEN := Lib.hid hen
      have HT2 := Lib.hid (HT1.out.below hbl)
      have HBL := Lib.hid (HR1.out.2.trans (hbl.mono HR1.out.2.size))
      have HPP := Lib.hid (And.intro hpp hP2)
      clear hFl hd hd3 hP hF hen hbl hpl hpp hrl HR1 HT1 hP2
      by_cases hbig : 1024 < F.length + l.length
      · have hbI : (1024 : Int) < (F.length : Int) + (l.length : Int) := by omega
        have hX : splitW (F ++ l) = ([], 0, 0, 3) := if_pos (by rw [List.length_append]; omega)
        rw [hX] at hsp2
        have HSP := Lib.hid hsp
        have HSP2 := Lib.hid hsp2
        clear hX hsp hsp2 hmv hbig HEN
        obtain ⟨X, hX⟩ : ∃ X, X = splitW l := ⟨_, rfl⟩
        rw [← hX] at HSP
        clear hX
        go_upto_region 9 with (go_at_call 9; (with_reducible refine (HSP.out _ HT2.out).mono ?_); rintro e w3 ⟨A3, c3, rfl, -, hb3⟩)
        have HT3 := Lib.hid (HT2.out.below hb3)
        go_upto_region 10 with (go_at_call 9; (with_reducible refine (HSP2.out _ HT3.out).mono ?_); rintro e w4 ⟨A4, c4, rfl, -, hb4⟩)
        go_wp2_with (fail)
        go_ret
        exact ⟨rfl, HBL.out.trans ((hb3.trans (hb4.mono hb3.size)).mono HBL.out.size)⟩
      · have hbI : ¬ (1024 : Int) < (F.length : Int) + (l.length : Int) := by omega
        obtain ⟨m1, m2, m3⟩ := hmv (by rw [List.length_append]; omega)
        have hcd := split_code l
        have hln := split_len l
        obtain ⟨⟨ws, a, b, code⟩, hX⟩ : ∃ X, X = splitW l := ⟨_, rfl⟩
        obtain ⟨⟨ws2, a2, b2, code2⟩, hX2⟩ : ∃ X, X = splitW (F ++ l) := ⟨_, rfl⟩
        rw [← hX] at hsp hcd hln
        rw [← hX] at m1 m2 m3
        rw [← hX2] at hsp2 m1 m2 m3
        simp only at m1 m2 m3 hcd hln
        subst m2 m1
        have HSP := Lib.hid hsp
        have HSP2 := Lib.hid hsp2
        have HLN := Lib.hid hln
        clear hsp hsp2 hX hX2 hmv hbig hln
        rcases hcd with ⟨rfl, hab⟩ | ⟨h0, rfl, -⟩
        · clear m3
          go_upto_region 9 with (go_at_call 9; (with_reducible refine (HSP.out _ HT2.out).mono ?_); rintro e w3 ⟨A3, c3, rfl, hown3, hb3⟩)
          have HT3 := Lib.hid (HT2.out.below hb3)
          go_upto_region 10 with (go_at_call 9; (with_reducible refine (HSP2.out _ HT3.out).mono ?_); rintro e w4 ⟨A4, c4, rfl, hown4, hb4⟩)
          have HT4 := Lib.hid (HT3.out.below hb4)
          go_upto_region 13 with (go_at_call 13; (with_reducible refine (HEN.out _ HT4.out).mono ?_); rintro e w5 ⟨rfl, hb5⟩)
          have hB5 := HBL.out.trans ((hb3.trans ((hb4.trans (hb5.mono hb4.size)).mono hb3.size)).mono HBL.out.size)
          have HO := Lib.hid (And.intro (own_below (own_below hown3 hb4 (Nat.le_refl _)) hb5 (Nat.le_refl _)) (And.intro (own_below hown4 hb5 (Nat.le_refl _)) hB5))
          clear hown3 hown4 hb3 hb4 hb5 hB5 HSP HSP2 HEN
          have hmp : (ws.map (shW P)).length = ws.length := by simp
          obtain ⟨M, hM⟩ : ∃ M, M = ws.map (shW P) := ⟨_, rfl⟩
          rw [← hM] at HO hmp
          try rw [← hM]
          have HM := Lib.hid (And.intro hM hmp)
          clear hM
          have hnI : (ws.length : Int) ≤ 1024 := by have := HLN.out.1; omega
          go_wp2_with (fail)
          go_loopw [107] (fun kv wr => ∃ k : Nat, k ≤ ws.length ∧ kv = .int .i64 (k : Int) ∧ Below w5.heap.size w5 wr) (fun kv _ => ws.length - (intOf kv).toNat)
          case atStart => exact ⟨0, by omega, rfl, Below.refl _ _⟩
          case round =>
            obtain ⟨k, hk, rfl, hbl⟩ := hrel
            by_cases hkn : k < ws.length
            · have hkI : (k : Int) < (ws.length : Int) := by omega
              obtain ⟨g, rfl, hg1, hg2, hc1, hc2, x0, x1, x2, x3⟩ := own_word (own_below HO.out.1 hbl (Nat.le_refl _)) (List.getElem?_eq_getElem hkn)
              have hkM : M[k]? = some (shW P ws[k]) := by rw [HM.out.1, List.getElem?_map, List.getElem?_eq_getElem hkn]; rfl
              obtain ⟨g4, rfl, hg41, hg42, hc41, hc42, y0, y1, y2, y3⟩ := own_word (own_below HO.out.2.1 hbl (Nat.le_refl _)) hkM
              have hsm := HLN.out.2 ws[k] (List.getElem_mem hkn)
              have hmp := HM.out.2
              rw [hmp] at hc41
              generalize ws[k] = x at x0 x1 x2 x3 y0 y1 y2 y3 hsm hkM
              obtain ⟨nm, tx, ln, co⟩ := x
              simp only [shW, shP] at y0 y1 y2 y3
              simp only at x0 x1 x2 x3 hsm
              have hp1 := HPP.out.1
              have hp2 := HPP.out.2
              have ea : (((ln + P.1 - 1 : Nat)) : Int) = (ln : Int) + (P.1 : Int) - 1 := by omega
              rw [ea] at y2
              have HX := Lib.hid (And.intro hkn hbl)
              have b1 : (ln : Int) ≤ 2000 := by omega
              have b2 : (P.1 : Int) ≤ 200 := by omega
              have b3 : (co : Int) ≤ 2000 := by omega
              have b4 : (P.2 : Int) ≤ 200 := by omega
              have b5 : (1 : Int) ≤ (P.1 : Int) := by omega
              have b6 : (1 : Int) ≤ (P.2 : Int) := by omega
              have bnm : (nm != nm) = false := by simp
              have bk : (k : Int) ≤ 1024 := by omega
              by_cases hl1 : ln = 1
              · rw [if_pos hl1] at y3
                have eb : (((co + P.2 - 1 : Nat)) : Int) = (co : Int) + ((P.2 : Int) - 1) := by omega
                rw [eb] at y3
                have hlb : ((ln : Int) == 1) = true := beq_iff_eq.2 (by omega)
                clear hl1 hkn hbl hkM hmp hp1 hp2 ea eb hsm hk hnI
                go_upto_region 18 with (fail)
                go_quiet (fail)
                go_upto_region 21 with (fail)
                go_quiet (fail)
                go_wp2_with (fail)
                exact ⟨⟨k + 1, HX.out.1, by simp, below_draws HX.out.2 _⟩, by simp [intOf]; have := HX.out.1; omega⟩
              · rw [if_neg hl1] at y3
                have hlb : ((ln : Int) == 1) = false := by rw [beq_eq_false_iff_ne]; omega
                clear hl1 hkn hbl hkM hmp hp1 hp2 ea hsm hk hnI
                go_upto_region 18 with (fail)
                go_quiet (fail)
                go_upto_region 21 with (fail)
                go_quiet (fail)
                go_wp2_with (fail)
                exact ⟨⟨k + 1, HX.out.1, by simp, below_draws HX.out.2 _⟩, by simp [intOf]; have := HX.out.1; omega⟩
            · obtain rfl : k = ws.length := by omega
              have HB := Lib.hid hbl
              clear hk hkn hbl
              go_wp2_with (fail)
              go_ret
              exact ⟨rfl, HO.out.2.2.trans (HB.out.mono HO.out.2.2.size)⟩
        · have hge := m3 h0
          have hcb : ((code2 : Int) == 0) = false := by rw [beq_eq_false_iff_ne]; omega
          have hcn : ((code2 : Int) != 0) = true := by rw [bne_iff_ne]; omega
          clear m3 h0
          go_upto_region 9 with (go_at_call 9; (with_reducible refine (HSP.out _ HT2.out).mono ?_); rintro e w3 ⟨A3, c3, rfl, hown3, hb3⟩)
          have HT3 := Lib.hid (HT2.out.below hb3)
          go_upto_region 10 with (go_at_call 9; (with_reducible refine (HSP2.out _ HT3.out).mono ?_); rintro e w4 ⟨A4, c4, rfl, hown4, hb4⟩)
          have HT4 := Lib.hid (HT3.out.below hb4)
          go_upto_region 13 with (go_at_call 13; (with_reducible refine (HEN.out _ HT4.out).mono ?_); rintro e w5 ⟨rfl, hb5⟩)
          have hB5 := HBL.out.trans ((hb3.trans ((hb4.trans (hb5.mono hb4.size)).mono hb3.size)).mono HBL.out.size)
          have HB5 := Lib.hid hB5
          clear hown3 hown4 hb3 hb4 hb5 hB5 HSP HSP2 HEN
          rcases hge with h1 | ⟨h1, h2⟩
          · have i1 : ¬ ((a2 : Int) < (P.1 : Int)) := by omega
            have i2 : ((a2 : Int) == (P.1 : Int)) = false := by rw [beq_eq_false_iff_ne]; omega
            clear h1
            go_wp2_with (fail)
            go_loopw [107] (fun kv wr => kv = .int .i64 0 ∧ wr = w5) (fun _ _ => 0)
            case atStart => exact ⟨rfl, rfl⟩
            case round =>
              obtain ⟨rfl, rfl⟩ := hrel
              go_wp2_with (fail)
              go_ret
              exact ⟨rfl, HB5.out⟩
          · have i1 : ¬ ((a2 : Int) < (P.1 : Int)) := by omega
            have i2 : ((a2 : Int) == (P.1 : Int)) = true := beq_iff_eq.2 (by omega)
            have i3 : ¬ ((b2 : Int) < (P.2 : Int)) := by omega
            clear h1 h2
            go_wp2_with (fail)
            go_loopw [107] (fun kv wr => kv = .int .i64 0 ∧ wr = w5) (fun _ _ => 0)
            case atStart => exact ⟨rfl, rfl⟩
            case round =>
              obtain ⟨rfl, rfl⟩ := hrel
              go_wp2_with (fail)
              go_ret
              exact ⟨rfl, HB5.out⟩
end Go.Proofs.YtfgojbfdjbochaaDoor
