/- The document's Set. -/
import Derived.Test.YtpfkkmfhafejfaaTupM
namespace Go.Proofs.Ytpfkkmfhafejfaa
open Go.RowKit Go.Maps

theorem setS_yes {s : List Tu} {t : Tu} (h : hasL s t = true) : setS s t = s := by unfold setS; rw [if_pos h]
theorem setS_no {s : List Tu} {t : Tu} (h : hasL s t = false) : setS s t = insS t s := by unfold setS; rw [if_neg (by rw [h]; simp)]
set_option maxRecDepth 100000 in
set_option maxHeartbeats 4000000 in
/-- The document's Set. -/
theorem rset_any (x : LV) (w : World) (hx : x.Ok w) : Calls Try.prog 14 #[.slice x.A x.ts.length x.c] w (SePost w x.ts) := by
  have hs := hx.sm
  have HA := Lib.hid hx
  clear hx
  go_enter Try.func14, Try.ntmps14
  go_wp2_with (fail)
  go_loopw [3, 10] (fun out i wr => ∃ (k : Nat) (Ao : Option Addr) (co : Nat) (O : List TV), k ≤ x.ts.length ∧ O.length ≤ k ∧ i = .int .i64 k ∧ out = .slice Ao O.length co ∧ Hid (OwnT wr w.heap.size (.slice Ao O.length co) O ∧ Lst wr Ao co O ∧ tus O = setL ((tus x.ts).take k) ∧ (∀ t ∈ O, t ∈ x.ts) ∧ Below w.heap.size w wr)) (fun _ i _ => x.ts.length - (intOf i).toNat)
  case atStart => exact ⟨0, none, 0, [], by omega, by simp, rfl, rfl, Lib.hid ⟨World.ownsRow_nil w _ _ _, Lst.nil _ _ _, rfl, fun _ ht => (nomatch ht), Below.refl _ _⟩⟩
  case round =>
    obtain ⟨k, Ao, co, O, hk, hOk, rfl, rfl, HO⟩ := hrel
    by_cases hlt : k < x.ts.length
    · obtain ⟨xb, xo, hxa, hxl, hxc⟩ := HA.out.cell hlt
      have KC := Lib.hid fun W (h : Below w.heap.size w W) => (h.cell (p := ⟨xb, xo + k, none⟩) hxl).trans hxc
      have KO := Lib.hid fun W (h : Below w.heap.size w W) => (HA.out.at hlt).below h
      have hcall := rhas_any ⟨Ao, O, co⟩ x.ts[k] wr HO.out.2.1 (KO.out wr HO.out.2.2.2.2)
      have htk := setL_take (l := tus x.ts) (k := k) (by rw [tus_len]; exact hlt)
      rw [tus_at x.ts k hlt, ← HO.out.2.2.1] at htk
      have hxm : x.ts[k] ∈ x.ts := List.getElem_mem hlt
      have c1 := KC.out wr HO.out.2.2.2.2
      have g0 : (k : Int) < (x.ts.length : Int) := by omega
      dsimp only at hcall
      rw [hxa]
      clear hxc
      generalize x.ts[k] = y at *
      obtain ⟨m, hm⟩ : ∃ m, m = O.length := ⟨_, rfl⟩
      rw [← hm] at hcall hOk ⊢
      have HM := Lib.hid hm
      clear hm
      cases hh : hasL (tus O) y.l with
      | true =>
        rw [hh] at hcall
        rw [setS_yes hh] at htk
        have HC := Lib.hid hcall
        have HT := Lib.hid htk
        clear hcall htk hh hxm
        go_wp2_with (go_at_call 18; (with_reducible refine HC.out.mono ?_); rintro e w' ⟨rfl, n', rfl⟩)
        go_roundw
        case rel => exact ⟨k + 1, Ao, co, O, by omega, by rw [← HM.out]; omega, by go_num, by rw [HM.out], Lib.hid ⟨HO.out.1, HO.out.2.1.drewN _, HT.out.symm, HO.out.2.2.2.1, below_draws HO.out.2.2.2.2 _⟩⟩
        case measure => simp [intOf]; omega
      | false =>
        rw [hh] at hcall
        rw [setS_no hh] at htk
        have HC := Lib.hid hcall
        have HT := Lib.hid (And.intro htk hxm)
        clear hcall htk hh hxm
        go_upto_region 6 with (go_at_call 18; (with_reducible refine HC.out.mono ?_); rintro e w6 ⟨rfl, hn6⟩; have B6 := Lib.hid (HO.out.2.2.2.2.trans (lower (below_drawn hn6) HO.out.2.2.2.2.size)); have O6 := Lib.hid (And.intro (HO.out.1.drawn hn6) (HO.out.2.1.below (below_drawn hn6))); clear hn6)
        clear HC c1
        go_upto_block 2 with (fail)
        go_cut [5, 6, 7] from 21 to 52 (fun next done _ w' => ∃ (b : Bool) (N : List TV), done = .bool b ∧ Hid (OwnT w' w6.heap.size next N ∧ InsAt O N y m b ∧ (∀ t ∈ N, t ∈ x.ts) ∧ Below w6.heap.size w6 w'))
        case first =>
          go_wp2_with (fail)
          go_loopw [5, 6, 21] (fun next done j wr => ∃ (b : Bool) (J : Nat) (N : List TV), J ≤ m ∧ N.length ≤ J + 1 ∧ done = .bool b ∧ j = .int .i64 J ∧ Hid (OwnT wr w6.heap.size next N ∧ InsAt O N y J b ∧ (∀ t ∈ N, t ∈ x.ts) ∧ Below w6.heap.size w6 wr)) (fun _ _ j _ => m - (intOf j).toNat)
          case atStart => exact ⟨false, 0, [], by omega, by simp, rfl, rfl, Lib.hid ⟨World.ownsRow_nil w6 _ _ _, .inl ⟨rfl, rfl, fun _ h => (nomatch h)⟩, fun _ h => (nomatch h), Below.refl _ _⟩⟩
          case round =>
            obtain ⟨b, J, N, hJ, hNl, rfl, rfl, HI⟩ := hrel
            by_cases hltj : J < m
            · have hJO : J < O.length := by rw [← HM.out]; exact hltj
              obtain ⟨ob, oo, hoa, hol, hoc⟩ := O6.out.2.cell hJO
              have KP := Lib.hid fun W (h : Below w6.heap.size w6 W) => (h.cell (p := ⟨ob, oo + J, none⟩) hol).trans hoc
              have hpok : O[J].Ok wr := (O6.out.2.at hJO).below HI.out.2.2.2
              have hpm : O[J] ∈ x.ts := HO.out.2.2.2.1 _ (List.getElem_mem hJO)
              have hbw : Below w.heap.size w wr := B6.out.trans (lower HI.out.2.2.2 B6.out.size)
              have hcmp := fun n => rcmp_any y O[J] (wr.drewN n) ((KO.out wr hbw).drewN n) (hpok.drewN n)
              have q1 := KC.out wr hbw
              have q2 := KP.out wr HI.out.2.2.2
              have g1 : (J : Int) < (m : Int) := by omega
              have g2 : (0 : Int) ≤ (J : Int) := by omega
              have g3 : (k : Int) < (x.ts.length : Int) := by omega
              have g4 : (0 : Int) ≤ (k : Int) := by omega
              have HW := Lib.hid hbw
              have hon := fun h : InsAt O N y J true => h.on hJO
              have hsk := fun (h : InsAt O N y J false) => h.skip hJO
              have hhe := fun (h : InsAt O N y J false) => h.here hJO
              rw [hoa]
              clear hoc hpok hbw
              generalize O[J] = p at *
              cases b with
              | true =>
                have HON := Lib.hid (And.intro (hon HI.out.2.1) hpm)
                clear hon hsk hhe hcmp hpm
                go_wp2_with (fail)
                go_quiet (fail)
                go_wp2_with (at_builtin; refine wpList_app1 (wr.drewN nq) rfl (.tmp 45) (.tmp 50) rfl w6.heap.size _ N (by rfl) (show OwnT (wr.drewN nq) w6.heap.size _ N from HI.out.1) p (by rfl) (by omega) HI.out.2.2.2.size ?_; intro v5 w5 o5 b5)
                go_roundw
                case rel =>
                  refine ⟨true, J + 1, N ++ [p], by omega, by rw [List.length_append]; simp; omega, rfl, by go_num, Lib.hid ⟨o5, HON.out.1, fun t ht => ?_, HI.out.2.2.2.trans ((below_draws (Below.refl _ _) nq).trans b5)⟩⟩
                  rcases List.mem_append.1 ht with ht | ht
                  · exact HI.out.2.2.1 t ht
                  · rw [List.mem_singleton.1 ht]; exact HON.out.2
                case measure => simp [intOf]; omega
              | false =>
                obtain ⟨K, hK⟩ : ∃ K, K = cmpI y.l p.l := ⟨_, rfl⟩
                rw [← hK] at hcmp hsk hhe
                have HC := Lib.hid hcmp
                clear hcmp hK hon
                by_cases hneg : K < 0
                · have HHE := Lib.hid (And.intro (hhe HI.out.2.1 hneg) hpm)
                  clear hsk hhe hpm
                  go_wp2_with (fail)
                  go_quiet ((go_at_call 21; with_reducible exact Calls.quiet_of (HC.out _)))
                  go_wp2_with (first
                    | (at_builtin; refine wpList_app1 (wr.drewN nq) rfl (.tmp 38) (.tmp 43) rfl w6.heap.size _ N (by rfl) (show OwnT (wr.drewN nq) w6.heap.size _ N from HI.out.1) y (by rfl) (by omega) HI.out.2.2.2.size ?_; intro v5 w5 o5 b5; have D5 := Lib.hid (HI.out.2.2.2.trans ((below_draws (Below.refl _ _) nq).trans b5)); have O5 := Lib.hid o5; have q5 := KP.out w5 D5.out; clear o5 b5)
                    | (at_builtin; refine wpList_app1 w5 rfl (.tmp 45) (.tmp 50) rfl w6.heap.size _ (N ++ [y]) (by rfl) O5.out p (by rfl) (by rw [List.length_append]; simp; omega) D5.out.size ?_; intro v8 w8 o8 b8))
                  go_roundw
                  case rel =>
                    refine ⟨true, J + 1, N ++ [y] ++ [p], by omega, by have := HHE.out.1.len; omega, rfl, by go_num, Lib.hid ⟨o8, HHE.out.1, fun t ht => ?_, D5.out.trans b8⟩⟩
                    rcases List.mem_append.1 ht with ht | ht
                    · rcases List.mem_append.1 ht with ht | ht
                      · exact HI.out.2.2.1 t ht
                      · rw [List.mem_singleton.1 ht]; exact HT.out.2
                    · rw [List.mem_singleton.1 ht]; exact HHE.out.2
                  case measure => simp [intOf]; omega
                · have HSK := Lib.hid (And.intro (hsk HI.out.2.1 hneg) hpm)
                  clear hsk hhe hpm
                  go_wp2_with (fail)
                  go_quiet ((go_at_call 21; with_reducible exact Calls.quiet_of (HC.out _)))
                  go_wp2_with (at_builtin; refine wpList_app1 (wr.drewN nq) rfl (.tmp 45) (.tmp 50) rfl w6.heap.size _ N (by rfl) (show OwnT (wr.drewN nq) w6.heap.size _ N from HI.out.1) p (by rfl) (by omega) HI.out.2.2.2.size ?_; intro v5 w5 o5 b5)
                  go_roundw
                  case rel =>
                    refine ⟨false, J + 1, N ++ [p], by omega, by rw [List.length_append]; simp; omega, rfl, by go_num, Lib.hid ⟨o5, HSK.out.1, fun t ht => ?_, HI.out.2.2.2.trans ((below_draws (Below.refl _ _) nq).trans b5)⟩⟩
                    rcases List.mem_append.1 ht with ht | ht
                    · exact HI.out.2.2.1 t ht
                    · rw [List.mem_singleton.1 ht]; exact HSK.out.2
                  case measure => simp [intOf]; omega
            · have g0 : ¬ (J : Int) < (m : Int) := by omega
              obtain rfl : J = m := by omega
              go_wp2_with (fail)
              go_meet
              case rel => exact ⟨b, N, rfl, HI⟩
        case rest =>
          obtain ⟨b, N, rfl, HI⟩ := hcut
          have hbw : Below w.heap.size w wc := B6.out.trans (lower HI.out.2.2.2 B6.out.size)
          have q1 := KC.out wc hbw
          have hNl := HI.out.2.1.len
          have g3 : (k : Int) < (x.ts.length : Int) := by omega
          have HW := Lib.hid hbw
          clear hbw
          cases b with
          | true =>
            have hN : tus N = insS y.l (tus O) := HI.out.2.1.endT (by rw [← HM.out]; exact Nat.le_refl _)
            have hnl : N.length ≤ k + 1 := by omega
            have HN := Lib.hid hN
            have hsh := HI.out.1.shape
            obtain ⟨A, c, hv, hcap, hrd⟩ := hsh
            clear hN
            rw [hv]
            have HI2 : Hid (OwnT wc w6.heap.size (.slice A N.length c) N ∧ N.length ≤ c ∧ Rd wc wc.heap.size A (vals N)) := by rw [← hv]; exact Lib.hid ⟨HI.out.1, hcap, hrd⟩
            clear hv hcap hrd
            obtain ⟨n9, hn9⟩ : ∃ n, n = N.length := ⟨_, rfl⟩
            rw [← hn9]
            have H9 := Lib.hid hn9
            clear hn9
            go_wp2_with (fail)
            go_roundw
            case rel => exact ⟨k + 1, A, c, N, by omega, hnl, by go_num, by rw [H9.out], Lib.hid ⟨own_mono HI2.out.1 B6.out.size, ⟨HI2.out.2.2, fun t ht => (HA.out.ok t (HI.out.2.2.1 t ht)).below HW.out, HI2.out.2.1, by omega⟩, by rw [HN.out, HT.out.1], HI.out.2.2.1, HW.out⟩⟩
            case measure => simp [intOf]; omega
          | false =>
            have hN : tus (N ++ [y]) = insS y.l (tus O) := HI.out.2.1.endF (by rw [← HM.out]; exact Nat.le_refl _)
            have hnl : (N ++ [y]).length ≤ k + 1 := by
              have h1 := congrArg List.length hN
              rw [tus_len, insS_len, tus_len, ← HM.out] at h1
              omega
            have HN := Lib.hid hN
            have HNL := Lib.hid hnl
            clear hN hnl
            go_wp2_with (at_builtin; refine wpList_app1 wc rfl (.tmp 55) (.tmp 60) rfl w6.heap.size _ N (by rfl) HI.out.1 y (by rfl) (by omega) HI.out.2.2.2.size ?_; intro v5 w5 o5 b5; have O5 := Lib.hid o5; obtain ⟨A, c, rfl, hcap, hrd⟩ := o5.shape; obtain ⟨n9, hn9⟩ : ∃ n, n = (N ++ [y]).length := ⟨_, rfl⟩; rw [← hn9] at O5 hcap ⊢; have H9 := Lib.hid hn9; clear o5 hn9)
            go_roundw
            case rel =>
              have hb5 : Below w.heap.size w w5 := HW.out.trans (lower b5 B6.out.size)
              have hmem : ∀ t ∈ N ++ [y], t ∈ x.ts := fun t ht => by
                rcases List.mem_append.1 ht with ht | ht
                · exact HI.out.2.2.1 t ht
                · rw [List.mem_singleton.1 ht]; exact HT.out.2
              exact ⟨k + 1, A, c, N ++ [y], by omega, HNL.out, by go_num, by rw [H9.out], Lib.hid ⟨own_mono (show OwnT w5 w6.heap.size (.slice A (N ++ [y]).length c) (N ++ [y]) by have h := O5.out; rw [H9.out] at h; exact h) B6.out.size, ⟨hrd, fun t ht => (HA.out.ok t (hmem t ht)).below hb5, by rw [← H9.out]; exact hcap, by have := HNL.out; omega⟩, by rw [HN.out, HT.out.1], hmem, hb5⟩⟩
            case measure => simp [intOf]; omega
    · have g0 : ¬ (k : Int) < (x.ts.length : Int) := by omega
      go_wp2_with (fail)
      go_ret
      refine ⟨_, O, rfl, HO.out.1, ?_, HO.out.2.2.2⟩
      rw [HO.out.2.2.1, List.take_of_length_le (by rw [tus_len]; omega)]
theorem rset_l (x : LV) (w : World) (hx : x.Ok w) : Calls Try.prog 14 #[.slice x.A x.ts.length x.c] w (WoL w (setL (tus x.ts))) := by
  refine (rset_any x w hx).mono ?_
  rintro e w' ⟨v, O, rfl, h1, h2, h3, h4⟩
  have hl : O.length ≤ 1000 := by
    have e1 := congrArg List.length h2
    have e2 := setL_len (tus x.ts)
    have e3 := hx.sm
    rw [tus_len] at e1 e2
    omega
  obtain ⟨A, c, rfl, hL⟩ := h1.lst (fun t ht => ((hx.ok t (h3 t ht)).below h4)) hl
  exact ⟨⟨A, O, c⟩, rfl, hL, h2, h4⟩
set_option maxRecDepth 100000 in
set_option maxHeartbeats 2000000 in
/-- both. -/
theorem rboth_l (a b : LV) (w : World) (ha : a.Ok w) (hb : b.Ok w) (hs : a.ts.length + b.ts.length ≤ 1000) :
    Calls Try.prog 44 #[.slice a.A a.ts.length a.c, .slice b.A b.ts.length b.c] w (WoL w (setL (tus a.ts ++ tus b.ts))) := by
  have h0 : OwnT (w.alloc (.cells #[] 24)) w.heap.size (.slice (some ⟨w.heap.size, 0, none⟩) 0 0) [] := own_lit0 w (Nat.le_refl _)
  have hb1 : Below w.heap.size w (w.alloc (.cells #[] 24)) := (Below.refl _ _).alloc (Nat.le_refl _) _
  obtain ⟨na, hna⟩ : ∃ n, n = a.ts.length := ⟨_, rfl⟩
  obtain ⟨nb, hnb⟩ : ∃ n, n = b.ts.length := ⟨_, rfl⟩
  obtain ⟨W1, hW1⟩ : ∃ W1, W1 = w.alloc (.cells #[] 24) := ⟨_, rfl⟩
  rw [← hW1] at h0 hb1
  obtain ⟨v2, w2, hr2, ho2, hb2⟩ := run_appT W1 w.heap.size _ [] h0 W1.heap.size a.A a.c a.ts na hna (ha.below hb1).rd (by simp; omega) hb1.size
  rw [List.nil_append] at ho2
  obtain ⟨v3, w3, hr3, ho3, hb3⟩ := run_appT w2 w.heap.size v2 a.ts ho2 w2.heap.size b.A b.c b.ts nb hnb (hb.below (hb1.trans hb2)).rd (by omega) (Nat.le_trans hb1.size hb2.size)
  have hb4 := (hb1.trans hb2).trans hb3
  obtain ⟨A, c, rfl, hL⟩ := ho3.lst (fun t ht => by
    rcases List.mem_append.1 ht with h | h
    · exact (ha.ok t h).below hb4
    · exact (hb.ok t h).below hb4) (by rw [List.length_append]; exact hs)
  have hset := rset_l ⟨A, a.ts ++ b.ts, c⟩ w3 hL
  rw [tus_app] at hset
  obtain ⟨n3, hn3⟩ : ∃ n, n = (a.ts ++ b.ts).length := ⟨_, rfl⟩
  dsimp only at hset
  rw [← hn3] at hset hr3
  rw [← hna, ← hnb]
  rw [hW1] at hr2
  have HS := Lib.hid hset
  have HB := Lib.hid hb4
  clear ha hb hs h0 hb1 hna hnb hW1 ho2 hb2 ho3 hb3 hb4 hL hset hn3
  go_enter Try.func44, Try.ntmps44
  go_wp2_with (first
    | (at_builtin; refine wpL_appK _ rfl (.tmp 5) (.tmp 6) 22 rfl rfl _ _ _ _ rfl rfl hr2 ?_)
    | (at_builtin; refine wpL_appK _ rfl (.tmp 7) (.tmp 8) 22 rfl rfl _ _ _ _ rfl rfl hr3 ?_)
    | (go_at_call 14; (with_reducible refine HS.out.mono ?_); rintro e w4 ⟨x4, rfl, o4, e4, b4⟩; have E4 := Lib.hid (And.intro o4 (And.intro e4 b4)); clear o4 e4 b4))
  go_ret
  exact ⟨x4, rfl, E4.out.1, E4.out.2.1, HB.out.trans (lower E4.out.2.2 HB.out.size)⟩
end Go.Proofs.Ytpfkkmfhafejfaa
