/- The document's Split (rhizomeref08). -/
import Derived.Test.YtfgojbfdjbochaaDoorWdQ
import Derived.Deep.CutBlock
namespace Go.Proofs.YtfgojbfdjbochaaDoor
open Go.RowKit Go.Maps

theorem take_drop' {rs : List Nat} {i : Nat} (h : i < rs.length) : rs.drop i = rs[i] :: rs.drop (i + 1) := take_drop h
/-- What the document's Split answers. -/
def SplitPostR (w : World) (x : List Wd × Nat × Nat × Nat) (e : Ending) (w' : World) : Prop :=
  ∃ A c, e = .returned (.tuple #[.slice A x.1.length c, .int .i64 (x.2.1 : Int), .int .i64 (x.2.2.1 : Int), .int .i64 (x.2.2.2 : Int)]) ∧ w'.ownsRow w.heap.size 56 4 (.slice A x.1.length c) x.1.length (wdsV x.1) ∧ Below w.heap.size w w'
theorem splitNoneR (w w' : World) (a b c : Nat) (h : Below w.heap.size w w') : SplitPostR w ([], a, b, c) (.returned (.tuple #[.slice none 0 0, .int .i64 (a : Int), .int .i64 (b : Int), .int .i64 (c : Int)])) w' :=
  ⟨none, 0, rfl, World.ownsRow_nil _ _ _ _, h⟩
theorem resSplitR (w : World) (tmps : Array Value) : (results Tryd.f10 tmps).run Tryd.prog w = .ok (.tuple #[tmps.getD 2 undef, tmps.getD 3 undef, tmps.getD 4 undef, tmps.getD 5 undef]) w := by
  simp [results, Tryd.results10, go_sem]

set_option maxRecDepth 100000 in
set_option maxHeartbeats 4000000 in
theorem refSplit_bad (s : ByteArray) (w : World) (hs : s.size ≤ 100000) (h : 1024 < s.size ∨ Lib.validD s.data.toList = false) :
    Calls Tryd.prog 10 #[.string s] w fun e w' => SplitPostR w (splitW s.data.toList) e w' := by
  have hl : s.data.toList.length = s.size := Array.length_toList
  by_cases h1 : 1024 < s.size
  · have hX : splitW s.data.toList = ([], 0, 0, 3) := if_pos (by omega)
    rw [hX]
    have hI : (1024 : Int) < (s.size : Int) := by omega
    clear h hX h1 hl
    go_enter Tryd.func10, Tryd.ntmps10
    go_wp2_with (fail)
    refine bodyPost_ret (resSplitR _ _) rfl (splitNoneR w w 0 0 3 (Below.refl _ _))
  · have hv : Lib.validD s.data.toList = false := h.resolve_left h1
    have hX : splitW s.data.toList = ([], (plc (1, 1) (rns s.data.toList)).1, (plc (1, 1) (rns s.data.toList)).2, 7) := (if_neg (by omega)).trans (if_pos hv)
    rw [hX]
    have hI : ¬ (1024 : Int) < (s.size : Int) := by omega
    have hrn := refRunes_any s w hs
    unfold RunesPost at hrn
    rw [hv] at hrn
    clear h hX h1 hl hv
    obtain ⟨X, hXX⟩ : ∃ X, X = plc (1, 1) (rns s.data.toList) := ⟨_, rfl⟩
    rw [← hXX] at hrn ⊢
    have HR := Lib.hid hrn
    clear hXX hrn
    go_enter Tryd.func10, Tryd.ntmps10
    go_upto_region 4 with (go_at_call 14; (with_reducible refine HR.out.mono ?_); rintro e w1 ⟨A, c, rfl, -, hb1⟩)
    have g0 := heap_alloc_new w1 (.cells #[.int .i64 0, .int .i64 (X.1 : Int), .int .i64 (X.2 : Int)] 37)
    have c1 := cell_of_row _ _ 1 _ _ _ g0
    have c2 := cell_of_row _ _ 2 _ _ _ g0
    have hB := Lib.hid (hb1.alloc (o := .cells #[.int .i64 0, .int .i64 (X.1 : Int), .int .i64 (X.2 : Int)] 37) (by have := hb1.size; omega))
    clear g0 hb1
    go_wp2_with (fail)
    go_quiet (fail)
    go_wp2_with (fail)
    refine bodyPost_ret (resSplitR _ _) rfl (splitNoneR w _ X.1 X.2 7 (below_draws hB.out _))

set_option maxRecDepth 100000 in
set_option maxHeartbeats 8000000 in
theorem refSplit_ok (s : ByteArray) (w : World) (h1 : s.size ≤ 1024) (hv : Lib.validD s.data.toList = true) :
    Calls Tryd.prog 10 #[.string s] w fun e w' => SplitPostR w (splitW s.data.toList) e w' := by
  have hl : s.data.toList.length = s.size := Array.length_toList
  have hX : splitW s.data.toList = endW (mach spl0 (rns s.data.toList)) := (if_neg (by omega)).trans (if_neg (by rw [hv]; simp))
  rw [hX]
  obtain ⟨X, hXX⟩ : ∃ X, X = mach spl0 (rns s.data.toList) := ⟨_, rfl⟩
  rw [← hXX]
  have hI : ¬ (1024 : Int) < (s.size : Int) := by omega
  have hrn := refRunes_any s w (by omega)
  unfold RunesPost at hrn
  rw [hv, rpl_len] at hrn
  have hlen := rns_len _ s.data.toList (Nat.le_refl _)
  have hrr := rns_le _ s.data.toList (Nat.le_refl _)
  obtain ⟨rs, hrs⟩ : ∃ rs, rs = rns s.data.toList := ⟨_, rfl⟩
  rw [← hrs] at hrn hlen hrr hXX
  obtain ⟨PE, hPE⟩ : ∃ PE, PE = plc (1, 1) rs := ⟨_, rfl⟩
  rw [← hPE] at hrn
  obtain ⟨Q, hQ⟩ : ∃ Q : Ending → World → Prop, Q = fun e w' => SplitPostR w (endW X) e w' := ⟨_, rfl⟩
  rw [← hQ]
  have HQ := Lib.hid hQ
  have HR := Lib.hid hrn
  have HX := Lib.hid (And.intro hXX (And.intro (show rs.length ≤ 1024 by omega) hrr))
  clear hX hl hv hXX hrn hlen hrr hrs h1 hPE hQ
  go_enter Tryd.func10, Tryd.ntmps10
  go_upto_region 4 with (go_at_call 14; (with_reducible refine HR.out.mono ?_); rintro e w1 ⟨AR, cR, rfl, hown1, hb1⟩)
  have hbA : Below w.heap.size w (w1.alloc (.cells #[.int .i64 0, .int .i64 (PE.1 : Int), .int .i64 (PE.2 : Int)] 37)) := hb1.alloc (by have := hb1.size; omega) _
  have hoA := World.ownsRow.alloc hown1 (.cells #[.int .i64 0, .int .i64 (PE.1 : Int), .int .i64 (PE.2 : Int)] 37)
  clear hown1 hb1 HR
  generalize w1.alloc (.cells #[.int .i64 0, .int .i64 (PE.1 : Int), .int .i64 (PE.2 : Int)] 37) = W at hbA hoA ⊢
  have HW := Lib.hid (And.intro hoA hbA)
  clear hoA hbA
  have hnI : (rs.length : Int) ≤ 1024 := by have := HX.out.2.1; omega
  go_wp2_with (fail)
  go_loopw [9, 10] (fun ov iv wr => ∃ (i : Nat) (O : List Wd) (Ao : Option Addr) (co : Nat), iv = .int .i64 (i : Int) ∧ ov = .slice Ao O.length co ∧ wr.ownsRow W.heap.size 56 4 (.slice Ao O.length co) O.length (wdsV O) ∧ Below W.heap.size W wr ∧ i ≤ rs.length + 1 ∧ O.length ≤ i ∧ mach ⟨O, 0, plc (1, 1) (rs.take i)⟩ (rs.drop i) = X)
    (fun _ iv _ => rs.length + 1 - (intOf iv).toNat)
  case atStart => exact ⟨0, [], none, 0, rfl, rfl, World.ownsRow_nil _ _ _ _, Below.refl _ _, by omega, by simp, HX.out.1.symm⟩
  case round =>
    obtain ⟨i, O, Ao, co, rfl, rfl, hown, hbl, hi, hOl, hm⟩ := hrel
    by_cases hin : i < rs.length
    · have hinI : (i : Int) < (rs.length : Int) := by omega
      have hi1024 : (i : Int) ≤ 1024 := by omega
      obtain ⟨g, rfl, hgW, hc1, hc2, r0, r1, r2⟩ := own_rune HW.out.1 (rpl_at rs (1, 1) i hin) (rpl_len _ _)
      replace r0 := (hbl.cell (p := ⟨g, i * 3, none⟩) hgW).trans r0
      replace r1 := (hbl.cell (p := ⟨g, i * 3 + 1, none⟩) hgW).trans r1
      replace r2 := (hbl.cell (p := ⟨g, i * 3 + 2, none⟩) hgW).trans r2
      have hg : g < wr.heap.size := Nat.lt_of_lt_of_le hgW hbl.size
      have hpt := plc_take hin
      rw [take_drop hin] at hm
      have hr11 := HX.out.2.2 rs[i] (List.getElem_mem hin)
      obtain ⟨p, hp⟩ : ∃ p, p = plc (1, 1) (rs.take i) := ⟨_, rfl⟩
      rw [← hp] at hm hpt r1 r2
      have hri : rs[i]? = some rs[i] := List.getElem?_eq_getElem hin
      generalize rs[i] = r at hm hpt r0 hr11 hri
      simp only at r0 r1 r2
      have hbw : W.heap.size ≤ wr.heap.size := hbl.size
      have HM := Lib.hid (And.intro hm (And.intro hpt (And.intro hown (And.intro hbl (And.intro hOl (And.intro hri hin))))))
      have HP := Lib.hid hp
      have HG := Lib.hid (And.intro hg (And.intro hbw hgW))
      have hrI : (r : Int) ≤ 1114111 := by omega
      have hc1I : (rs.length : Int) ≤ (cR : Int) := by omega
      -- the next round, with nothing appended
      have hnext : ∀ wz j, Below W.heap.size W wz → wz.ownsRow W.heap.size 56 4 (.slice Ao O.length co) O.length (wdsV O) → i ≤ j → j ≤ rs.length → mach ⟨O, 0, plc (1, 1) (rs.take (j + 1))⟩ (rs.drop (j + 1)) = X →
          (∃ (i' : Nat) (O' : List Wd) (Ao' : Option Addr) (co' : Nat), (Value.int .i64 ((j : Int) + 1)) = .int .i64 (i' : Int) ∧ (Value.slice Ao O.length co) = .slice Ao' O'.length co' ∧ wz.ownsRow W.heap.size 56 4 (.slice Ao' O'.length co') O'.length (wdsV O') ∧ Below W.heap.size W wz ∧ i' ≤ rs.length + 1 ∧ O'.length ≤ i' ∧ mach ⟨O', 0, plc (1, 1) (rs.take i')⟩ (rs.drop i') = X) ∧ rs.length + 1 - (intOf (.int .i64 ((j : Int) + 1))).toNat < rs.length + 1 - (intOf (.int .i64 (i : Int))).toNat := by
        intro wz j h1 h2 h3 h4 h5
        exact ⟨⟨j + 1, O, Ao, co, by simp, rfl, h2, h1, by omega, by omega, h5⟩, by simp [intOf]; omega⟩
      have HNX := Lib.hid hnext
      clear hm hpt hown hbl hOl hri hin hr11 hi hp hnext hg hbw hgW
      go_upto_region 11 with (fail)
      by_cases h35 : r = 35
      · have hb35 : ((r : Int) == 35) = true := beq_iff_eq.2 (by omega)
        subst h35
        clear hb35
        clear r0 r1 r2
        go_wp2_with (fail)
        go_loopw [10] (fun jv wz => wz = wr ∧ ∃ j : Nat, jv = .int .i64 (j : Int) ∧ i ≤ j ∧ j ≤ rs.length ∧ mach ⟨O, 2, plc (1, 1) (rs.take j)⟩ (rs.drop j) = X) (fun jv _ => rs.length - (intOf jv).toNat)
        case atStart =>
          refine ⟨rfl, i, rfl, Nat.le_refl _, Nat.le_of_lt HM.out.2.2.2.2.2.2, ?_⟩
          have h1 := HM.out.1
          have h2 := (List.getElem?_eq_some_iff.1 HM.out.2.2.2.2.2.1)
          obtain ⟨h3, h4⟩ := h2
          rw [rem_begin] at h1
          rw [take_drop h3, h4, ← HP.out]
          exact h1
        case round =>
          obtain ⟨rfl, j, rfl, hij, hjn, hmj⟩ := hrel
          by_cases hj : j < rs.length
          · have hjI : (j : Int) < (rs.length : Int) := by omega
            obtain ⟨g', e, hg', _, _, q0, q1, q2⟩ := own_rune (own_below HW.out.1 HM.out.2.2.2.1 (Nat.le_refl _)) (rpl_at rs (1, 1) j hj) (rpl_len _ _)
            injection e with e
            injection e with e
            subst e
            rw [take_drop hj] at hmj
            have hpt := plc_take hj
            generalize rs[j] = x at hmj hpt q0
            simp only at q0
            by_cases hx : x = 10
            · have hxb : ((x : Int) != 10) = false := by rw [bne_eq_false_iff_eq]; omega
              rw [hx, rem_end, ← hx, ← hpt] at hmj
              have HJ := Lib.hid (HNX.out _ j HM.out.2.2.2.1 HM.out.2.2.1 hij hjn hmj)
              clear hij hjn hmj hpt hj q1 q2 hx
              go_wp2_with (fail)
              exact HJ.out
            · have hxb : ((x : Int) != 10) = true := by rw [bne_iff_ne]; omega
              rw [rem_on hx, ← hpt] at hmj
              have HJ := Lib.hid (And.intro hij (And.intro hj hmj))
              clear hij hjn hmj hpt hx q1 q2 hj
              go_wp2_with (fail)
              exact ⟨⟨trivial, j + 1, by simp, by have := HJ.out.1; omega, HJ.out.2.1, HJ.out.2.2⟩, by simp [intOf]; have := HJ.out.2.1; omega⟩
          · have hjI : ¬ (j : Int) < (rs.length : Int) := by omega
            have hjJ : (j : Int) ≤ 1024 := by omega
            have hd : mach ⟨O, 0, plc (1, 1) (rs.take (j + 1))⟩ (rs.drop (j + 1)) = X := by
              rw [List.drop_eq_nil_of_le (by omega)] at hmj ⊢
              exact hmj
            have HJ := Lib.hid (HNX.out _ j HM.out.2.2.2.1 HM.out.2.2.1 hij hjn hd)
            clear hij hjn hmj hj hd
            go_wp2_with (fail)
            exact HJ.out
      · have hb35 : ((r : Int) == 35) = false := by rw [beq_eq_false_iff_ne]; omega
        by_cases hlet : isLet r
        · have hll := fun V => refLetter_any r V
          simp only [decide_eq_true hlet] at hll
          have HLL := Lib.hid hll
          clear hll
          have hlr := hlet
          go_upto_block 5 with (go_at_call 19; (with_reducible refine (HLL.out _).mono ?_); rintro e w' ⟨rfl, rfl⟩)
          go_cut [12, 13] from 61 to 84 (fun tv kv w' => Below wr.heap.size wr w' ∧ ∃ (k : Nat) (t : List UInt8), tv = .string ⟨t.toArray⟩ ∧ kv = .int .i64 (k : Int) ∧ i < k ∧ k ≤ rs.length ∧ t.length = k - i ∧ ((t.length ≤ 16 ∧ mach ⟨O ++ [⟨true, t, p.1, p.2⟩], 0, plc (1, 1) (rs.take k)⟩ (rs.drop k) = X) ∨ (16 < t.length ∧ X = .error p)))
          case first =>
            clear r0 r1 r2
            have HLR := Lib.hid (And.intro hlr h35)
            clear hlr hlet h35 HLL HNX hb35
            go_wp2_with (fail)
            go_loopw [12, 13] (fun tv kv wz => Below wr.heap.size wr wz ∧ ∃ (k : Nat) (t : List UInt8), tv = .string ⟨t.toArray⟩ ∧ kv = .int .i64 (k : Int) ∧ i ≤ k ∧ k ≤ rs.length ∧ t.length = k - i ∧ NameInv X O p t (plc (1, 1) (rs.take k)) (rs.drop k)) (fun _ kv _ => rs.length - (intOf kv).toNat)
            case atStart =>
              obtain ⟨h3, h4⟩ := List.getElem?_eq_some_iff.1 HM.out.2.2.2.2.2.1
              refine ⟨Below.refl _ _, i, [], rfl, rfl, Nat.le_refl _, Nat.le_of_lt h3, by simp, .inl ⟨rfl, HP.out.symm, ?_⟩⟩
              rw [take_drop h3, h4]
              exact HM.out.1
            case round =>
              obtain ⟨hbz, k, t, rfl, rfl, hik, hkn, htl, hinv⟩ := hrel
              have hk1024 : (k : Int) ≤ 1024 := by omega
              by_cases hk : k < rs.length
              · have hkI : (k : Int) < (rs.length : Int) := by omega
                obtain ⟨g', e, hg', _, _, q0, q1, q2⟩ := own_rune (own_below (own_below HW.out.1 HM.out.2.2.2.1 (Nat.le_refl _)) hbz (Nat.le_refl _)) (rpl_at rs (1, 1) k hk) (rpl_len _ _)
                injection e with e
                injection e with e
                subst e
                have hdk := take_drop hk
                rw [hdk] at hinv
                have hpt := plc_take hk
                have hxr : k = i → rs[k] = r := fun h => by
                  subst h
                  exact (List.getElem?_eq_some_iff.1 HM.out.2.2.2.2.2.1).2
                generalize rs[k] = x at hinv hpt q0 hxr hdk
                simp only at q0
                have hlx := fun V => refLetter_any x V
                by_cases hx : isLet x
                · simp only [decide_eq_true hx] at hlx
                  have HLX := Lib.hid hlx
                  have hst := hinv.step hx
                  rw [← hpt] at hst
                  have hx1 : (97 : Int) ≤ (x : Int) := by unfold isLet at hx; omega
                  have hx2 : (x : Int) ≤ 122 := by unfold isLet at hx; omega
                  have hstr := one_str wr (UInt8.ofNat x)
                  have hxb : (((UInt8.ofNat x).toNat : Nat) : Int) = (x : Int) := by rw [UInt8.toNat_ofNat']; omega
                  rw [hxb] at hstr
                  have htb : t.length ≤ 1024 := by omega
                  have hcat : ¬ (9223372036854775807 < t.length + 1) := by omega
                  have HJ := Lib.hid (And.intro hbz (And.intro hik (And.intro hk (And.intro htl hst))))
                  clear hbz hik hkn hk htl hst hinv hpt hxr hx hlx hxb q1 q2 htb hdk
                  go_wp2_with (go_at_call 19; (with_reducible refine (HLX.out _).mono ?_); rintro e w' ⟨rfl, rfl⟩)
                  refine ⟨⟨HJ.out.1.alloc HJ.out.1.size _, k + 1, t ++ [UInt8.ofNat x], ?_, by simp, by have := HJ.out.2.1; omega, HJ.out.2.2.1, by have := HJ.out.2.1; have := HJ.out.2.2.2.1; simp; omega, HJ.out.2.2.2.2⟩, by simp [intOf]; have := HJ.out.2.2.1; omega⟩
                  rw [← app_lists]
                · simp only [decide_eq_false hx] at hlx
                  have HLX := Lib.hid hlx
                  have hki : i < k := by
                    rcases Nat.lt_or_ge i k with h | h
                    · exact h
                    · exact absurd (by rw [hxr (by omega)]; exact HLR.out.1) hx
                  have hfin := hinv.fin (by omega) (fun r' u he => by cases he; exact hx)
                  rw [← hdk] at hfin
                  have HJ := Lib.hid (And.intro hbz (And.intro hki (And.intro hk (And.intro htl hfin))))
                  clear hbz hik hkn hk htl hfin hinv hpt hxr hx hlx hki q1 q2 hdk
                  go_wp2_with (go_at_call 19; (with_reducible refine (HLX.out _).mono ?_); rintro e w' ⟨rfl, rfl⟩)
                  go_meet
                  case rel => exact ⟨HJ.out.1, k, t, rfl, rfl, HJ.out.2.1, Nat.le_of_lt HJ.out.2.2.1, HJ.out.2.2.2.1, HJ.out.2.2.2.2⟩
              · have hkI : ¬ (k : Int) < (rs.length : Int) := by omega
                have hin := HM.out.2.2.2.2.2.2
                have hfin := hinv.fin (by omega) (fun r' u he => by rw [List.drop_eq_nil_of_le (by omega)] at he; cases he)
                have HJ := Lib.hid (And.intro hbz (And.intro hik (And.intro hkn (And.intro htl (And.intro hfin (show i < k by omega))))))
                clear hbz hik hkn hk htl hfin hinv hin
                go_wp2_with (fail)
                go_meet
                case rel => exact ⟨HJ.out.1, k, t, rfl, rfl, HJ.out.2.2.2.2.2, HJ.out.2.2.1, HJ.out.2.2.2.1, HJ.out.2.2.2.2.1⟩
          case rest =>
            obtain ⟨hbz, k, t, rfl, rfl, hik, hkn, htl, hfin⟩ := hcut
            have hk1024 : (k : Int) ≤ 1024 := by omega
            have hk1 : (1 : Int) ≤ (k : Int) := by omega
            have s1 := (hbz.cell (p := ⟨g, i * 3 + 1, none⟩) HG.out.1).trans r1
            have s2 := (hbz.cell (p := ⟨g, i * 3 + 2, none⟩) HG.out.1).trans r2
            have hbW := HM.out.2.2.2.1.trans (hbz.mono HG.out.2.1)
            rcases hfin with ⟨h16, hm⟩ | ⟨h16, hE⟩
            · have htI : ¬ (16 : Int) < (t.length : Int) := by omega
              obtain ⟨A', c', w3, hrun, hown3, hb3⟩ := app_wordR (W := wc.drew) (own_below HM.out.2.2.1 hbz.drew (Nat.le_refl _)) ⟨true, t, p.1, p.2⟩ (by have h := hbW.size; exact h) (by have := HM.out.2.2.2.2.1; omega)
              simp only at hrun
              replace hrun : (Builtin.append_ #[27, 27] 27 #[.slice Ao O.length co, .slice (some ⟨wc.heap.size, 0, none⟩) 1 1]).run Tryd.prog (wc.alloc (.cells #[.bool true, .string ⟨t.toArray⟩, .int .i64 (p.1 : Int), .int .i64 (p.2 : Int)] 56)).drew = .ok (.slice A' (O.length + 1) c') w3 := hrun
              have hAl : Below wc.heap.size wc (wc.alloc (.cells #[.bool true, .string ⟨t.toArray⟩, .int .i64 (p.1 : Int), .int .i64 (p.2 : Int)] 56)) := (Below.refl _ _).alloc (Nat.le_refl _) _
              have hgc : g < wc.heap.size := Nat.lt_of_lt_of_le HG.out.1 hbz.size
              have u1 := (hAl.cell (p := ⟨g, i * 3 + 1, none⟩) hgc).trans s1
              have u2 := (hAl.cell (p := ⟨g, i * 3 + 2, none⟩) hgc).trans s2
              have HJ := Lib.hid (And.intro hown3 (And.intro (show Below W.heap.size W w3 from hbW.drew.trans hb3) (And.intro hik (And.intro hkn (And.intro hm (show O.length ≤ i from HM.out.2.2.2.2.1))))))
              clear hown3 hb3 hbW hbz hik hkn htl hm h16 hAl hgc h35 hlet hlr r0 r1 r2 HLL HNX
              go_upto_region 22 with (fail)
              go_region_law (first
                  | (refine step_appK _ (by rfl) (.tmp 98) (.tmp 111) 27 rfl rfl _ _ _ _ rfl rfl hrun ?_))
              all_goals
                go_wp2_with (fail)
                exact ⟨⟨k, O ++ [⟨true, t, p.1, p.2⟩], A', c', by simp, by simp, HJ.out.1, HJ.out.2.1, by have := HJ.out.2.2.2.1; omega, by have := HJ.out.2.2.1; have := HJ.out.2.2.2.2.2; simp; omega, HJ.out.2.2.2.2.1⟩, by simp [intOf]; have := HJ.out.2.2.1; have := HJ.out.2.2.2.1; omega⟩
            · have htI : (16 : Int) < (t.length : Int) := by omega
              have HE := Lib.hid hE
              have HB := Lib.hid (HW.out.2.trans (hbW.mono HW.out.2.size))
              clear hbW hbz hik hkn htl hE h16 h35 hlet hlr r0 r1 r2 HLL HNX
              go_upto_region 21 with (fail)
              go_quiet (fail)
              go_wp2_with (fail)
              rw [HQ.out, HE.out]
              exact bodyPost_ret (resSplitR _ _) rfl (splitNoneR w _ p.1 p.2 80 (below_draws HB.out _))
        · have hll := fun V => refLetter_any r V
          simp only [decide_eq_false hlet] at hll
          have HLL := Lib.hid hll
          clear hll
          have hsn := fun V => refSign_any r V
          by_cases hsg : sgn r = []
          · rw [hsg] at hsn
            have HSN := Lib.hid hsn
            clear hsn
            by_cases hbk : isBlk r
            · have hmb : mach ⟨O, 0, plc (1, 1) (rs.take (i + 1))⟩ (rs.drop (i + 1)) = X := by
                rw [HM.out.2.1, ← HM.out.1]
                exact (mach_ok _ (tk_blank (s := ⟨O, 0, p⟩) (by simp) hbk)).symm
              have HJ := Lib.hid (fun wz h1 h2 => HNX.out wz i h1 h2 (Nat.le_refl _) (Nat.le_of_lt HM.out.2.2.2.2.2.2) hmb)
              clear hmb h35 hlet hsg HNX
              unfold isBlk at hbk
              rcases hbk with hv | hv | hv | hv | hv | hv
              · have k0 : ((r : Int) != 9) = false := by rw [bne_eq_false_iff_eq]; omega
                clear hv
                go_wp2_with (first
                  | (go_at_call 19; (with_reducible refine (HLL.out _).mono ?_); rintro e w' ⟨rfl, rfl⟩)
                  | (go_at_call 20; (with_reducible refine (HSN.out _).mono ?_); rintro e w' ⟨rfl, hbs⟩))
                exact HJ.out _ (HM.out.2.2.2.1.trans (hbs.mono HG.out.2.1)) (own_below HM.out.2.2.1 hbs (Nat.le_refl _))
              · have k0 : ((r : Int) != 9) = true := by rw [bne_iff_ne]; omega
                have k1 : ((r : Int) != 10) = false := by rw [bne_eq_false_iff_eq]; omega
                clear hv
                go_wp2_with (first
                  | (go_at_call 19; (with_reducible refine (HLL.out _).mono ?_); rintro e w' ⟨rfl, rfl⟩)
                  | (go_at_call 20; (with_reducible refine (HSN.out _).mono ?_); rintro e w' ⟨rfl, hbs⟩))
                exact HJ.out _ (HM.out.2.2.2.1.trans (hbs.mono HG.out.2.1)) (own_below HM.out.2.2.1 hbs (Nat.le_refl _))
              · have k0 : ((r : Int) != 9) = true := by rw [bne_iff_ne]; omega
                have k1 : ((r : Int) != 10) = true := by rw [bne_iff_ne]; omega
                have k2 : ((r : Int) != 13) = false := by rw [bne_eq_false_iff_eq]; omega
                clear hv
                go_wp2_with (first
                  | (go_at_call 19; (with_reducible refine (HLL.out _).mono ?_); rintro e w' ⟨rfl, rfl⟩)
                  | (go_at_call 20; (with_reducible refine (HSN.out _).mono ?_); rintro e w' ⟨rfl, hbs⟩))
                exact HJ.out _ (HM.out.2.2.2.1.trans (hbs.mono HG.out.2.1)) (own_below HM.out.2.2.1 hbs (Nat.le_refl _))
              · have k0 : ((r : Int) != 9) = true := by rw [bne_iff_ne]; omega
                have k1 : ((r : Int) != 10) = true := by rw [bne_iff_ne]; omega
                have k2 : ((r : Int) != 13) = true := by rw [bne_iff_ne]; omega
                have k3 : ((r : Int) != 32) = false := by rw [bne_eq_false_iff_eq]; omega
                clear hv
                go_wp2_with (first
                  | (go_at_call 19; (with_reducible refine (HLL.out _).mono ?_); rintro e w' ⟨rfl, rfl⟩)
                  | (go_at_call 20; (with_reducible refine (HSN.out _).mono ?_); rintro e w' ⟨rfl, hbs⟩))
                exact HJ.out _ (HM.out.2.2.2.1.trans (hbs.mono HG.out.2.1)) (own_below HM.out.2.2.1 hbs (Nat.le_refl _))
              · have k0 : ((r : Int) != 9) = true := by rw [bne_iff_ne]; omega
                have k1 : ((r : Int) != 10) = true := by rw [bne_iff_ne]; omega
                have k2 : ((r : Int) != 13) = true := by rw [bne_iff_ne]; omega
                have k3 : ((r : Int) != 32) = true := by rw [bne_iff_ne]; omega
                have k4 : ((r : Int) != 160) = false := by rw [bne_eq_false_iff_eq]; omega
                clear hv
                go_wp2_with (first
                  | (go_at_call 19; (with_reducible refine (HLL.out _).mono ?_); rintro e w' ⟨rfl, rfl⟩)
                  | (go_at_call 20; (with_reducible refine (HSN.out _).mono ?_); rintro e w' ⟨rfl, hbs⟩))
                exact HJ.out _ (HM.out.2.2.2.1.trans (hbs.mono HG.out.2.1)) (own_below HM.out.2.2.1 hbs (Nat.le_refl _))
              · have k0 : ((r : Int) != 9) = true := by rw [bne_iff_ne]; omega
                have k1 : ((r : Int) != 10) = true := by rw [bne_iff_ne]; omega
                have k2 : ((r : Int) != 13) = true := by rw [bne_iff_ne]; omega
                have k3 : ((r : Int) != 32) = true := by rw [bne_iff_ne]; omega
                have k4 : ((r : Int) != 160) = true := by rw [bne_iff_ne]; omega
                have k5 : ((r : Int) != 12288) = false := by rw [bne_eq_false_iff_eq]; omega
                clear hv
                go_wp2_with (first
                  | (go_at_call 19; (with_reducible refine (HLL.out _).mono ?_); rintro e w' ⟨rfl, rfl⟩)
                  | (go_at_call 20; (with_reducible refine (HSN.out _).mono ?_); rintro e w' ⟨rfl, hbs⟩))
                exact HJ.out _ (HM.out.2.2.2.1.trans (hbs.mono HG.out.2.1)) (own_below HM.out.2.2.1 hbs (Nat.le_refl _))
            · have hmb : X = .error p := by
                rw [← HM.out.1]
                refine mach_bad _ ?_
                unfold tk
                simp only
                rw [if_neg (by simp), if_neg hlet, if_neg h35, if_neg hbk, if_pos hsg]
              have HE := Lib.hid hmb
              unfold isBlk at hbk
              simp only [not_or] at hbk
              have k1 : ((r : Int) != 9) = true := by rw [bne_iff_ne]; omega
              have k2 : ((r : Int) != 10) = true := by rw [bne_iff_ne]; omega
              have k3 : ((r : Int) != 13) = true := by rw [bne_iff_ne]; omega
              have k4 : ((r : Int) != 32) = true := by rw [bne_iff_ne]; omega
              have k5 : ((r : Int) != 160) = true := by rw [bne_iff_ne]; omega
              have k6 : ((r : Int) != 12288) = true := by rw [bne_iff_ne]; omega
              clear hmb hbk h35 hlet hsg HNX
              go_upto_region 27 with (first
                | (go_at_call 19; (with_reducible refine (HLL.out _).mono ?_); rintro e w' ⟨rfl, rfl⟩)
                | (go_at_call 20; (with_reducible refine (HSN.out _).mono ?_); rintro e w' ⟨rfl, hbs⟩))
              have s1 := (hbs.cell (p := ⟨g, i * 3 + 1, none⟩) HG.out.1).trans r1
              have s2 := (hbs.cell (p := ⟨g, i * 3 + 2, none⟩) HG.out.1).trans r2
              go_quiet (fail)
              go_wp2_with (fail)
              rw [HQ.out, HE.out]
              exact bodyPost_ret (resSplitR _ _) rfl (splitNoneR w _ p.1 p.2 80 (below_draws (HW.out.2.trans ((HM.out.2.2.2.1.trans (hbs.mono HG.out.2.1)).mono HW.out.2.size)) _))
          · have hbe : (sgn r != ([] : List UInt8)) = true := by rw [bne_iff_ne]; exact hsg
            have hmb : mach ⟨O ++ [⟨false, sgn r, p.1, p.2⟩], 0, plc (1, 1) (rs.take (i + 1))⟩ (rs.drop (i + 1)) = X := by
              rw [HM.out.2.1, ← HM.out.1]
              refine (mach_ok _ ?_).symm
              have hbk : ¬ isBlk r := fun h => hsg (by unfold isBlk at h; unfold sgn; rw [if_neg (by omega), if_neg (by omega), if_neg (by omega), if_neg (by omega), if_neg (by omega)])
              unfold tk
              simp only
              rw [if_neg (by simp), if_neg hlet, if_neg h35, if_neg hbk, if_neg hsg]
            obtain ⟨S, hS⟩ : ∃ S, S = sgn r := ⟨_, rfl⟩
            have hbe2 : (sgn r == ([] : List UInt8)) = false := beq_bytes hsg
            have hbe3 : ¬ sgn r = [] := hsg
            rw [← hS] at hsn hbe hbe2 hbe3 hmb
            have HSN := Lib.hid hsn
            have HMB := Lib.hid hmb
            clear hsn hmb h35 hlet hsg hS HNX
            go_upto_region 25 with (first
              | (go_at_call 19; (with_reducible refine (HLL.out _).mono ?_); rintro e w' ⟨rfl, rfl⟩)
              | (go_at_call 20; (with_reducible refine (HSN.out _).mono ?_); rintro e w2 ⟨rfl, hbs⟩))
            have s1 := (hbs.cell (p := ⟨g, i * 3 + 1, none⟩) HG.out.1).trans r1
            have s2 := (hbs.cell (p := ⟨g, i * 3 + 2, none⟩) HG.out.1).trans r2
            have HB2 := Lib.hid (And.intro (own_below HM.out.2.2.1 hbs (Nat.le_refl _)) (HM.out.2.2.2.1.trans (hbs.mono HG.out.2.1)))
            have hks : ∀ V, Below W.heap.size w2 V → V.cell? ⟨g, i * 3 + 1, none⟩ = some (.int .i64 (p.1 : Int)) ∧ V.cell? ⟨g, i * 3 + 2, none⟩ = some (.int .i64 (p.2 : Int)) := fun V h => ⟨(h.cell (p := ⟨g, i * 3 + 1, none⟩) HG.out.2.2).trans s1, (h.cell (p := ⟨g, i * 3 + 2, none⟩) HG.out.2.2).trans s2⟩
            have KS := Lib.hid hks
            obtain ⟨sa, sb⟩ := hks w2.drew (Below.refl _ _).drew
            clear hks r0 r1 r2 hbs
            go_region_held3 (fun V => V.cell? ⟨g, i * 3 + 1, none⟩ = some (.int .i64 (p.1 : Int)) ∧ V.cell? ⟨g, i * 3 + 2, none⟩ = some (.int .i64 (p.2 : Int)))
              (first
                | assumption
                | exact ⟨sa, sb⟩
                | exact KS.out _ (Below.refl _ _).drew
                | exact KS.out _ HV.out
                | exact KS.out _ (HV.out.alloc (Nat.le_trans HB2.out.2.size HV.out.size) _)
                | exact KS.out _ HV4.out)
              (first
                | (go_at_call 20; (with_reducible refine (HSN.out _).mono ?_); rintro e w3 ⟨rfl, hb3⟩; have HV0 := Lib.hid ((Below.refl _ w2).drew.trans hb3); have HV := Lib.hid (HV0.out.mono HB2.out.2.size); have hapw := app_wordR (W := w3) (own_below HB2.out.1 HV0.out (Nat.le_refl _)) ⟨false, S, p.1, p.2⟩ (Nat.le_trans HB2.out.2.size HV0.out.size) (by have h1 := HM.out.2.2.2.2.1; have h2 := HM.out.2.2.2.2.2.2; have h3 := HX.out.2.1; omega); obtain ⟨A', c', w4, hrun, hown4, hb4⟩ := hapw; simp only at hrun; have HV4 := Lib.hid (HV.out.trans hb4); have HO4 := Lib.hid hown4; clear hown4 hb4 hb3)
                | (refine step_appK _ (by rfl) (.tmp 119) (.tmp 133) 27 rfl rfl _ _ _ _ rfl rfl hrun ?_))
            all_goals
              go_wp2_with (fail)
              exact ⟨⟨i + 1, O ++ [⟨false, S, p.1, p.2⟩], A', c', by simp, by simp, HO4.out, HB2.out.2.trans HV4.out, by have := HM.out.2.2.2.2.2.2; omega, by have := HM.out.2.2.2.2.1; simp; omega, HMB.out⟩, by simp [intOf]; have := HM.out.2.2.2.2.2.2; omega⟩
    · obtain ⟨hXO, hOx⟩ : mach ⟨O, 0, plc (1, 1) (rs.take i)⟩ [] = X ∧ rs.length ≤ i := ⟨by rw [List.drop_eq_nil_of_le (by omega)] at hm; exact hm, by omega⟩
      have hiI : ¬ (i : Int) < (rs.length : Int) := by omega
      have hE : X = .ok O := hXO.symm
      have HE := Lib.hid hE
      have HB := Lib.hid (And.intro hown hbl)
      clear hXO hOx hE hown hbl hi hOl hm hin
      go_wp2_with (fail)
      rw [HQ.out, HE.out]
      exact bodyPost_ret (resSplitR _ _) rfl ⟨Ao, co, rfl, own_mono HB.out.1 HW.out.2.size, HW.out.2.trans (HB.out.2.mono HW.out.2.size)⟩
end Go.Proofs.YtfgojbfdjbochaaDoor
