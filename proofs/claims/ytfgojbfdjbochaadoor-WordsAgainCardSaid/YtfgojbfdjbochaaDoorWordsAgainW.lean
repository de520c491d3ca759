/- WordsAgain: the walk. -/
import Derived.Test.YtfgojbfdjbochaaDoorWdM
namespace Go.Proofs.YtfgojbfdjbochaaDoor
open Go.RowKit Go.Maps

set_option maxRecDepth 100000 in
set_option maxHeartbeats 4000000 in
theorem wordsAgain_walk (s : ByteArray) (w : World) (hs : s.size ≤ 140737488355328) (hT : Tabs w) :
    Calls Tryd.prog 7 #[.string s] w fun e w' => e = .returned (.bool true) ∧ Below w.heap.size w w' := by
  by_cases hlen : 1024 < s.size
  · have hlen' : (1024 : Int) < (s.size : Int) := by omega
    have HT := Lib.hid hT
    clear hT hlen hs
    go_enter Tryd.func7, Tryd.ntmps7
    go_wp2_with fail
    refine (awake_any _ HT.out).mono ?_
    rintro e w1 ⟨rfl, hb1⟩
    have HT1 := Lib.hid (HT.out.below hb1)
    go_wp2_with fail
    refine (awake_any _ HT1.out).mono ?_
    rintro e w2 ⟨rfl, hb2⟩
    go_wp2
    go_ret
    exact ⟨rfl, hb1.trans (hb2.mono hb1.size)⟩
  · have hlen' : ¬ (1024 : Int) < (s.size : Int) := by omega
    have HT := Lib.hid hT
    have hsp := fun W (h : Tabs W) => split_any s W hs h
    have hc := split_code s.data.toList
    have hwf := split_wf s.data.toList
    have hsl := (split_len s.data.toList).1
    obtain ⟨⟨ws, a, b, code⟩, hX⟩ : ∃ X, X = splitW s.data.toList := ⟨_, rfl⟩
    rw [← hX] at hsp hc hwf hsl
    simp only at hc hwf hsl
    have HSP := Lib.hid hsp
    have HW := Lib.hid (And.intro hwf hsl)
    clear hT hlen hs hsp hX hwf hsl
    rcases hc with ⟨rfl, h2⟩ | ⟨h0, rfl, -⟩
    · obtain ⟨rfl, rfl⟩ : a = 0 ∧ b = 0 := by simpa using h2
      clear h2
      go_enter Tryd.func7, Tryd.ntmps7
      go_upto_region 3 with (go_at_call 8; (with_reducible refine (awake_any _ HT.out).mono ?_); rintro e w1 ⟨rfl, hb1⟩)
      have HT1 := Lib.hid (HT.out.below hb1)
      go_upto_region 4 with (go_at_call 9; (with_reducible refine (HSP.out _ HT1.out).mono ?_); rintro e w2 ⟨A, c, rfl, hown, hb2⟩)
      have hB2 := hb1.trans (hb2.mono hb1.size)
      have HO := Lib.hid (And.intro hown (And.intro hB2 (HT1.out.below hb2)))
      clear hown hb1 hb2 hB2 HT1 HT
      have hnI : (ws.length : Int) ≤ 1024 := by have := HW.out.2; omega
      go_upto_region 7 with (fail)
      go_wp2_with (fail)
      go_loopw [7, 38] (fun tv kv wr => ∃ k : Nat, k ≤ ws.length ∧ kv = .int .i64 (k : Int) ∧ tv = .string ⟨(againT (ws.take k)).toArray⟩ ∧ Below w2.heap.size w2 wr) (fun _ kv _ => ws.length - (intOf kv).toNat)
      case atStart => exact ⟨0, by omega, rfl, rfl, Below.refl _ _⟩
      case round =>
        obtain ⟨k, hk, rfl, rfl, hbl⟩ := hrel
        by_cases hkn : k < ws.length
        · have hkI : (k : Int) < (ws.length : Int) := by omega
          obtain ⟨g, rfl, hg1, hg2, hc1, hc2, c0, c1, c2, c3⟩ := own_word (own_below HO.out.1 hbl (Nat.le_refl _)) (List.getElem?_eq_getElem hkn)
          have htk := againT_take ws k hkn
          have hal := againT_len (ws.take k) (fun x hx => (wf_short (HW.out.1 x (List.mem_of_mem_take hx))).2)
          have hxl := (wf_short (HW.out.1 ws[k] (List.getElem_mem hkn))).2
          have hal2 : (againT (ws.take k)).length ≤ 20000 := by rw [List.length_take] at hal; have := HW.out.2; omega
          have e0 := heap_alloc_new wr (.cells #[.bool ws[k].nm, .string ⟨ws[k].tx.toArray⟩, .int .i64 (ws[k].ln : Int), .int .i64 (ws[k].co : Int)] 46)
          have e1 := cell_of_row _ _ 1 _ _ _ e0
          have hb2 : Below w2.heap.size w2 (wr.alloc (.cells #[.bool ws[k].nm, .string ⟨ws[k].tx.toArray⟩, .int .i64 (ws[k].ln : Int), .int .i64 (ws[k].co : Int)] 46)) := hbl.alloc hbl.size _
          generalize ws[k] = x at c0 c1 c2 c3 htk hxl e0 e1 hb2
          obtain ⟨T, hTT⟩ : ∃ T, T = againT (ws.take k) := ⟨_, rfl⟩
          rw [← hTT] at htk hal2 ⊢
          have HX := Lib.hid (And.intro htk (And.intro hkn hb2))
          have hs1 : ¬ (9223372036854775807 < x.tx.length + 1) := by omega
          have hs2 : ¬ (9223372036854775807 < T.length + (x.tx.length + 1)) := by omega
          clear htk hkn hb2 hbl e0 hTT hal
          go_wp2_with (fail)
          refine ⟨⟨k + 1, HX.out.2.1, by simp, ?_, HX.out.2.2⟩, by simp [intOf]; have := HX.out.2.1; omega⟩
          rw [HX.out.1]
          rw [← app_lists, ← app_lists]
        · obtain rfl : k = ws.length := by omega
          rw [List.take_length]
          have hal := againT_len ws (fun x hx => (wf_short (HW.out.1 x hx)).2)
          have hagl : (againT ws).length ≤ 20000 := by have := HW.out.2; omega
          have hsp2 := fun W (h : Tabs W) => split_any ⟨(againT ws).toArray⟩ W (by show (againT ws).toArray.size ≤ _; rw [List.size_toArray]; omega) h
          have hd : (⟨(againT ws).toArray⟩ : ByteArray).data.toList = againT ws := by simp
          rw [hd, again ws HW.out.1] at hsp2
          have HT3 := Lib.hid (HO.out.2.2.below hbl)
          obtain ⟨T, hTT⟩ : ∃ T, T = againT ws := ⟨_, rfl⟩
          have hTl : T.length = (againT ws).length := by rw [hTT]
          rw [← hTT] at hsp2 hagl ⊢
          have HTT := Lib.hid hTT
          have HBL := Lib.hid hbl
          clear hd hal hk hkn hbl hTT hTl
          by_cases hl : 1024 < T.length
          · have hlI : (1024 : Int) < (T.length : Int) := by omega
            rw [if_pos hl] at hsp2
            have HSP2 := Lib.hid (hsp2 _ HT3.out)
            clear hsp2 hl
            go_wp2_with (go_at_call 9; (with_reducible refine HSP2.out.mono ?_); rintro e w4 ⟨A4, c4, rfl, -, hb4⟩)
            go_ret
            exact ⟨rfl, HO.out.2.1.trans ((HBL.out.trans (hb4.mono HBL.out.size)).mono HO.out.2.1.size)⟩
          · have hlI : ¬ (1024 : Int) < (T.length : Int) := by omega
            rw [if_neg hl] at hsp2
            have HSP2 := Lib.hid (hsp2 _ HT3.out)
            have hrl := relab_len ws 1
            obtain ⟨M, hM⟩ : ∃ M, M = relab 1 ws := ⟨_, rfl⟩
            rw [← hM] at HSP2 hrl
            have HM := Lib.hid hM
            clear hsp2 hl hM
            go_upto_region 13 with (go_at_call 9; (with_reducible refine HSP2.out.mono ?_); rintro e w4 ⟨A4, c4, rfl, hown4, hb4⟩)
            have HO4 := Lib.hid (And.intro hown4 (And.intro hb4 (own_below (own_below HO.out.1 HBL.out (Nat.le_refl _)) hb4 (Nat.le_refl _))))
            clear hown4 hb4 HSP2 HSP
            try simp only [hrl]
            have HRL := Lib.hid hrl
            clear hrl
            go_wp2_with (fail)
            go_loopw [14, 71] (fun cv kv wr => ∃ k : Nat, k ≤ ws.length ∧ kv = .int .i64 (k : Int) ∧ cv = .int .i64 ((1 + (againT (ws.take k)).length : Nat) : Int) ∧ Below w4.heap.size w4 wr) (fun _ kv _ => ws.length - (intOf kv).toNat)
            case atStart => exact ⟨0, by omega, rfl, rfl, Below.refl _ _⟩
            case round =>
              obtain ⟨k, hk, rfl, rfl, hbl⟩ := hrel
              by_cases hkn : k < ws.length
              · have hkI : (k : Int) < (ws.length : Int) := by omega
                obtain ⟨g, rfl, hg1, hg2, hc1, hc2, c0, c1, c2, c3⟩ := own_word (own_below HO4.out.2.2 hbl (Nat.le_refl _)) (List.getElem?_eq_getElem hkn)
                have hkM : M[k]? = some ⟨ws[k].nm, ws[k].tx, 1, 1 + (againT (ws.take k)).length⟩ := by rw [HM.out]; exact relab_at ws 1 k hkn
                obtain ⟨g4, rfl, hg41, hg42, hc41, hc42, d0, d1, d2, d3⟩ := own_word (own_below HO4.out.1 hbl (Nat.le_refl _)) hkM
                rw [HRL.out] at hc41
                have htk := againT_take ws k hkn
                have hxl := (wf_short (HW.out.1 ws[k] (List.getElem_mem hkn))).2
                have hal := againT_len (ws.take k) (fun x hx => (wf_short (HW.out.1 x (List.mem_of_mem_take hx))).2)
                have hal2 : (againT (ws.take k)).length ≤ 20000 := by rw [List.length_take] at hal; have := HW.out.2; omega
                generalize ws[k] = x at c0 c1 c2 c3 htk hxl d0 d1 d2 d3 hkM
                simp only at d0 d1 d2 d3
                obtain ⟨N, hN⟩ : ∃ N, N = 1 + (againT (ws.take k)).length := ⟨_, rfl⟩
                have hnx : 1 + (againT (ws.take (k + 1))).length = N + (x.tx.length + 1) := by rw [htk, hN]; simp; omega
                have hNb : (N : Int) ≤ 30000 := by omega
                have hxI : (x.tx.length : Int) ≤ 16 := by omega
                rw [← hN] at d3 ⊢
                have HX := Lib.hid (And.intro hnx (And.intro hkn hbl))
                clear htk hkn hbl hal hal2 hnx hN hkM hk
                go_upto_region 21 with (fail)
                go_quiet (fail)
                go_wp2_with (fail)
                refine ⟨⟨k + 1, HX.out.2.1, by simp, ?_, below_draws HX.out.2.2 _⟩, by simp [intOf]; have := HX.out.2.1; omega⟩
                rw [HX.out.1]
                simp
              · obtain rfl : k = ws.length := by omega
                clear hk hkn
                have HB := Lib.hid hbl
                clear hbl
                go_wp2_with (fail)
                go_ret
                exact ⟨rfl, HO.out.2.1.trans ((HBL.out.trans ((HO4.out.2.1.trans (HB.out.mono HO4.out.2.1.size)).mono HBL.out.size)).mono HO.out.2.1.size)⟩
    · have hcb : ((code : Int) != 0) = true := by rw [bne_iff_ne]; omega
      clear h0
      go_enter Tryd.func7, Tryd.ntmps7
      go_upto_region 3 with (go_at_call 8; (with_reducible refine (awake_any _ HT.out).mono ?_); rintro e w1 ⟨rfl, hb1⟩)
      have HT1 := Lib.hid (HT.out.below hb1)
      go_upto_region 4 with (go_at_call 9; (with_reducible refine (HSP.out _ HT1.out).mono ?_); rintro e w2 ⟨A, c, rfl, hown, hb2⟩)
      try simp only [List.length_nil]
      clear hown
      go_wp2_with (fail)
      go_ret
      exact ⟨rfl, hb1.trans (hb2.mono hb1.size)⟩
end Go.Proofs.YtfgojbfdjbochaaDoor
