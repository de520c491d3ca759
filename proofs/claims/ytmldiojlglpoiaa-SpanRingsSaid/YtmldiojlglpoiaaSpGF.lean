/- The document's Rings. -/
import Derived.Test.YtmldiojlglpoiaaJnM
import Derived.Test.YtmldiojlglpoiaaOrdM
namespace Go.Proofs.Ytmldiojlglpoiaa
open Go.RowKit Go.Maps Go.Sort

theorem ClosOk.same' {E F S : List Pr} (h : ClosOk E S) (he : ∀ q, q ∈ E ↔ q ∈ F) : ClosOk F S :=
  ⟨h.nodup, fun a b => (h.mem a b).trans ⟨fun g => g.mono fun _ _ k => (he _).1 k, fun g => g.mono fun _ _ k => (he _).2 k⟩⟩
/-- What the document's Rings answers. -/
def RrPost13 (w : World) (lab : Nm) (E : List Pr) (e : Ending) (w' : World) : Prop :=
  (isNm lab = false ∧ e = .returned (.tuple #[.slice none 0 0, .int .i64 1]) ∧ Below w.heap.size w w') ∨
  (isNm lab = true ∧ ∃ y : LV, e = .returned (.tuple #[.slice y.A y.ts.length y.c, .int .i64 0]) ∧ y.Ok w' ∧ (∃ S, ClosOk E S ∧ tus y.ts = ringsR S) ∧ Below w.heap.size w w')
set_option maxRecDepth 100000 in
set_option maxHeartbeats 8000000 in
theorem rrings_any (lab : Nm) (A : Option Addr) (c : Nat) (es : List Ed) (w : World) (h : Es w A c es) (hl : es.length ≤ 20) (hlm : lab.length ≤ maxLen) : Calls Try.prog 24 #[.string ⟨lab.toArray⟩, .slice A es.length c] w (RrPost13 w lab (prsL lab es)) := by
  have hna := name_any lab w hlm
  cases hn : isNm lab with
  | false =>
    rw [hn] at hna
    have HN := Lib.hid hna
    have HNM := Lib.hid hn
    clear hna hn h hl hlm
    go_enter Try.func24, Try.ntmps24
    go_wp2_with (go_at_call 41; (with_reducible refine HN.out.mono ?_); rintro e w1 ⟨rfl, rfl⟩)
    go_ret2
    exact .inl ⟨HNM.out, rfl, Below.refl _ _⟩
  | true =>
    rw [hn] at hna
    have HN := Lib.hid hna
    have HG := Lib.hid (redges_any lab A c es w h)
    have HE := Lib.hid (And.intro hn (And.intro (edsP_nodup lab es) (Nat.le_trans (edsP_len lab es) hl)))
    clear hna hn h hl hlm
    go_enter Try.func24, Try.ntmps24
    go_upto_region 5 with (first
      | (go_at_call 41; (with_reducible refine HN.out.mono ?_); rintro e w1 ⟨rfl, rfl⟩)
      | (go_at_call 43; (with_reducible refine HG.out.mono ?_); rintro e w2 ⟨A2, c2, rfl, p2, b2⟩; have HS := Lib.hid (rspan_any A2 c2 _ w2 p2 HE.out.2.1 (by have := HE.out.2.2; omega)); have B2 := Lib.hid b2; clear p2 b2)
      | (go_at_call 42; (with_reducible refine HS.out.mono ?_); rintro e w3 ⟨A3, c3, S, rfl, p3, s3, n3, b3⟩; have P3 := Lib.hid p3; have S3 := Lib.hid s3; have N3 := Lib.hid n3; have B3 := Lib.hid (B2.out.trans (lower' b3 B2.out.size)); clear p3 s3 n3 b3))
    clear HN HG HS B2
    have hfew : ∀ k, (loopsU (S.take k)).length ≤ 20 := fun k => Nat.le_trans (loops_few S3.out (loopsU_nodup _) fun y hy => List.mem_of_mem_take (mem_loopsU.1 hy)) HE.out.2.2
    have HFEW := Lib.hid hfew
    clear hfew
    have n3 := N3.out
    go_wp2_with (fail)
    go_loopw [7, 25] (fun v7 v25 wr => ∃ (k : Nat) (u : TV), k ≤ S.length ∧ v7 = .slice u.A u.l.length u.c ∧ v25 = .int .i64 (k : Int) ∧ Hid (OwnI wr w3.heap.size u ∧ u.l = loopsU (S.take k) ∧ Below w3.heap.size w3 wr)) (fun _ v25 _ => S.length - (intOf v25).toNat)
    case atStart => exact ⟨0, ⟨none, [], 0⟩, by omega, rfl, rfl, Lib.hid ⟨World.ownsRow_nil _ _ _ _, rfl, Below.refl _ _⟩⟩
    case round =>
      obtain ⟨k, u, hk, rfl, rfl, hrel⟩ := hrel
      rename World => wr
      have hul : u.l.length ≤ 20 := by rw [hrel.out.2.1]; exact HFEW.out k
      by_cases hlt : k < S.length
      · have hlI : (k : Int) < (S.length : Int) := by omega
        have hD : Below wr.heap.size wr wr.drew := (Below.refl wr.heap.size wr).drew
        obtain ⟨b, o, hA, hbl, c0, c1⟩ := (P3.out.below hrel.out.2.2).cell hlt
        have HTK := Lib.hid (loopsU_take hlt)
        rw [hA]
        generalize S[k] = p at c0 c1 HTK
        obtain ⟨pa, pb⟩ := p
        dsimp only at c0 c1
        have KS := Lib.hid fun W' (h : Below wr.heap.size wr W') => (⟨(h.cell (p := ⟨b, o + k * 2, none⟩) hbl).trans c0, (h.cell (p := ⟨b, o + k * 2 + 1, none⟩) hbl).trans c1⟩ : W'.cell? ⟨b, o + k * 2, none⟩ = some (.int .i64 pa) ∧ W'.cell? ⟨b, o + k * 2 + 1, none⟩ = some (.int .i64 pb))
        by_cases hg : pa = pb
        · subst hg
          have hin := fun W' (h : Below wr.heap.size wr W') => in13_any u pa W' ((hrel.out.1.ok (by omega)).below h)
          cases hm : decide (pa ∈ u.l) with
          | true =>
            rw [hm] at hin
            have HI := Lib.hid hin
            have HK := Lib.hid (show OwnI wr.drew w3.heap.size u ∧ u.l = loopsU (S.take (k + 1)) ∧ Below w3.heap.size w3 wr.drew from ⟨hrel.out.1.below hD, by rw [HTK.out, ← hrel.out.2.1, stepI, if_pos rfl, addI, if_pos (of_decide_eq_true hm)], hrel.out.2.2.trans (lower' hD hrel.out.2.2.size)⟩)
            clear hm hin hrel hD hA hbl c0 c1 HTK
            go_upto_region 8 with (fail)
            go_region_held3 (fun W => W.cell? ⟨b, o + k * 2, none⟩ = some (.int .i64 pa) ∧ W.cell? ⟨b, o + k * 2 + 1, none⟩ = some (.int .i64 pa)) (first | with_reducible assumption | exact KS.out _ (Below.refl _ _).drew)
              (first | (go_at_call 47; (with_reducible refine (HI.out _ (Below.refl _ _).drew).mono ?_); rintro e w6 ⟨rfl, rfl⟩))
            all_goals
              go_wp2_with (fail)
              go_roundw
              case rel => exact ⟨k + 1, u, by omega, rfl, by go_num, HK⟩
              case measure => simp [intOf]; omega
          | false =>
            rw [hm] at hin
            have HI := Lib.hid hin
            obtain ⟨u', w7, hrun, hul', hou, _, _, b7⟩ := run_appN wr.drew w3.heap.size u [pa] (hrel.out.1.below hD) (Nat.le_trans hrel.out.2.2.size hD.size) (by simp; omega)
            have hrun : (Builtin.append_ #[31, 31] 31 #[.slice u.A u.l.length u.c, .slice (some ⟨wr.drew.heap.size, 0, none⟩) 1 1]).run Try.prog (wr.drew.alloc (.cells #[.int .i64 pa] 3)) = .ok (.slice u'.A u'.l.length u'.c) w7 := hrun
            have HK := Lib.hid (show OwnI w7 w3.heap.size u' ∧ u'.l = loopsU (S.take (k + 1)) ∧ Below w3.heap.size w3 w7 from ⟨hou, by rw [hul', HTK.out, ← hrel.out.2.1, stepI, if_pos rfl, addI, if_neg (of_decide_eq_false hm)], hrel.out.2.2.trans ((lower' hD hrel.out.2.2.size).trans b7)⟩)
            clear hm hin hrel hD hA hbl c0 c1 HTK hul' hou b7
            go_upto_region 8 with (fail)
            go_region_held3 (fun W => W.cell? ⟨b, o + k * 2, none⟩ = some (.int .i64 pa) ∧ W.cell? ⟨b, o + k * 2 + 1, none⟩ = some (.int .i64 pa)) (first | with_reducible assumption | exact KS.out _ (Below.refl _ _).drew)
              (first | (go_at_call 47; (with_reducible refine (HI.out _ (Below.refl _ _).drew).mono ?_); rintro e w6 ⟨rfl, rfl⟩))
            all_goals
              obtain ⟨c0, -⟩ := KS.out _ (Below.refl wr.heap.size wr).drew
              go_wp2_with (at_builtin; refine wpL_appK _ rfl (.tmp 49) (.tmp 55) 31 rfl rfl _ _ _ _ rfl rfl hrun ?_)
              go_roundw
              case rel => exact ⟨k + 1, u', by omega, rfl, by go_num, HK⟩
              case measure => simp [intOf]; omega
        · have HK := Lib.hid (show u.l = loopsU (S.take (k + 1)) from by rw [HTK.out, ← hrel.out.2.1, stepI, if_neg hg])
          have HO := Lib.hid hrel.out
          clear hrel hD hA hbl HTK KS
          go_upto_region 8 with (fail)
          go_quiet (fail)
          clear hg
          go_wp2_with (fail)
          go_roundw
          case rel => exact ⟨k + 1, u, by omega, rfl, by go_num, Lib.hid ⟨own_below HO.out.1 (Below.drewN' (Below.refl _ _) _) (Nat.le_refl _), HK.out, Below.drewN' HO.out.2.2 _⟩⟩
          case measure => simp [intOf]; omega
      · have hlI : ¬ (k : Int) < (S.length : Int) := by omega
        obtain ⟨lo, hlo⟩ : ∃ lo, lo = w3.heap.size := ⟨_, rfl⟩
        have hul2 : u.l = loopsU S := by rw [hrel.out.2.1, List.take_of_length_le (by omega)]
        have hrel' := hrel.out
        rw [← hlo] at hrel'
        obtain ⟨uA, ul, uc⟩ := u
        dsimp only at hul hul2 hrel' ⊢
        have HO := Lib.hid (And.intro hrel'.1 (And.intro hrel'.2.2 hul2))
        have HLO := Lib.hid hlo
        clear hrel hrel' hul2 hlo hlt hk
        go_wp2_with (fail)
        go_loopw [60] (fun v60 wq => ∃ (i : Nat) (L : List Int), i ≤ ul.length ∧ v60 = .int .i64 (i : Int) ∧ Hid (OwnI wq lo ⟨uA, L, uc⟩ ∧ L.Perm ul ∧ SrtTo L i ∧ Below lo w3 wq)) (fun v60 _ => ul.length - (intOf v60).toNat)
        case atStart => exact ⟨0, ul, by omega, rfl, Lib.hid ⟨HO.out.1, List.Perm.refl _, fun p q h1 h2 => absurd h2 (by omega), HO.out.2.1⟩⟩
        case round =>
          obtain ⟨i, L, hi, rfl, hrel⟩ := hrel
          rename World => wq
          by_cases hilt : i < ul.length
          · have hiI : (i : Int) < (ul.length : Int) := by omega
            have HI0 := Lib.hid hrel.out
            clear hrel
            go_wp2_with (fail)
            go_loopw [10] (fun v10 wz => ∃ (k : Nat) (L : List Int), v10 = .int .i64 (k : Int) ∧ k ≤ i ∧ Hid (OwnI wz lo ⟨uA, L, uc⟩ ∧ InsW13 ul L i k ∧ Below lo w3 wz)) (fun v10 _ => (intOf v10).toNat)
            case atStart => exact ⟨i, L, rfl, Nat.le_refl _, Lib.hid ⟨HI0.out.1, InsW13.start HI0.out.2.1 HI0.out.2.2.1, HI0.out.2.2.2⟩⟩
            case round =>
              clear HI0
              obtain ⟨k, L, rfl, hki, hrel⟩ := hrel
              rename World => wz
              have hLl := hrel.out.2.1.perm.length_eq
              by_cases hk0 : 0 < k
              · have hkI : (0 : Int) < (k : Int) := by omega
                obtain ⟨m, hm⟩ : ∃ m, m + 1 = k := ⟨k - 1, by omega⟩
                obtain ⟨g, cur, hA, _⟩ := hrel.out.1.blk (by dsimp only; omega)
                dsimp only at hA
                obtain ⟨x0, x1, -⟩ := hrel.out.1.setAt hA (p := k) (by dsimp only; omega) 0
                obtain ⟨y0, y1, -⟩ := hrel.out.1.setAt hA (p := m) (by dsimp only; omega) 0
                dsimp only at x0 y0
                have hw1 : IntKind.i64.wrap ((k : Int) - 1) = (m : Int) := by rw [IntWalk.i64_in _ (by omega)]; omega
                have hw2 : (k : Int) - 1 = (m : Int) := by omega
                have e1 : L.getD (k - 1) 0 = L[m]'(by omega) := by rw [List.getD_eq_getElem?_getD, show k - 1 = m by omega, List.getElem?_eq_getElem (by omega)]; rfl
                have e2 : L.getD k 0 = L[k]'(by omega) := by rw [List.getD_eq_getElem?_getD, List.getElem?_eq_getElem (by omega)]; rfl
                by_cases hlt : L[k]'(by omega) < L[m]'(by omega)
                · have HSW := Lib.hid (show ∀ n, OwnI (((wz.drewN n).setCell ⟨g, k, none⟩ (.int .i64 (L[m]'(by omega)))).setCell ⟨g, m, none⟩ (.int .i64 (L[k]'(by omega)))) lo ⟨uA, (L.set k (L[m]'(by omega))).set m (L[k]'(by omega)), uc⟩ ∧ InsW13 ul ((L.set k (L[m]'(by omega))).set m (L[k]'(by omega))) i m ∧ Below lo w3 (((wz.drewN n).setCell ⟨g, k, none⟩ (.int .i64 (L[m]'(by omega)))).setCell ⟨g, m, none⟩ (.int .i64 (L[k]'(by omega)))) from fun n => by
                    have hb := Below.drewN' (Below.refl wz.heap.size wz) n
                    obtain ⟨-, -, q1, q2, q3, q4⟩ := (hrel.out.1.below hb).setAt hA (p := k) (by dsimp only; omega) (L[m]'(by omega))
                    obtain ⟨-, -, r1, r2, _, _⟩ := q1.setAt (t := ⟨uA, L.set k (L[m]'(by omega)), uc⟩) hA (p := m) (by dsimp only; rw [List.length_set]; omega) (L[k]'(by omega))
                    have hs := hrel.out.2.1.swap hk0 hki (by omega) (by rw [e1, e2]; exact hlt)
                    rw [e1, e2, show k - 1 = m by omega] at hs
                    have hlw : lo ≤ wz.heap.size := Nat.le_trans q3 (Nat.le_of_lt q4)
                    exact ⟨r1, hs, hrel.out.2.2.trans ((lower' hb hlw).trans ((q2.below (by simpa using hlw) (fun s hs => by rw [List.mem_singleton.1 hs]; exact q3)).trans (r2.below (Nat.le_trans hlw (Nat.le_of_eq (by simp))) (fun s hs => by rw [List.mem_singleton.1 hs]; exact q3))))⟩)
                  generalize L[k]'(by omega) = x at x0 hlt HSW
                  generalize L[m]'(by omega) = y at y0 hlt HSW
                  clear hrel e1 e2
                  go_upto_region 15 with (fail)
                  go_quiet (fail)
                  go_upto_region 17 with (fail)
                  go_region
                  all_goals
                    clear x0 x1 y0 y1 hlt hA
                    go_wp2_with (fail)
                    go_roundw
                    case rel => exact ⟨m, _, by first | rw [hw2] | go_num, by omega, Lib.hid (HSW.out _)⟩
                    case measure => simp [intOf]; omega
                · have HK := Lib.hid (And.intro hrel.out.1 (And.intro hrel.out.2.1.perm (And.intro (fun hn => hrel.out.2.1.done hn hki (.inr (by rw [e1, e2]; exact hlt))) hrel.out.2.2)))
                  generalize L[k]'(by omega) = x at x0 hlt
                  generalize L[m]'(by omega) = y at y0 hlt
                  clear hrel e1 e2
                  go_upto_region 15 with (fail)
                  go_quiet (fail)
                  clear x0 x1 y0 y1 hlt hA
                  go_wp2_with (fail)
                  go_roundw
                  case rel => exact ⟨i + 1, L, by omega, by go_num, Lib.hid ⟨HK.out.1.below (Below.drewN' (Below.refl _ _) _), HK.out.2.1, HK.out.2.2.1 (by rw [HO.out.2.2]; exact loopsU_nodup S), Below.drewN' HK.out.2.2.2 _⟩⟩
                  case measure => simp [intOf]; omega
              · obtain rfl : k = 0 := by omega
                have HK := Lib.hid (And.intro hrel.out.1 (And.intro hrel.out.2.1.perm (And.intro (fun hn => hrel.out.2.1.done hn hki (.inl rfl)) hrel.out.2.2)))
                clear hrel
                go_upto_region 15 with (fail)
                go_quiet (fail)
                go_wp2_with (fail)
                go_roundw
                case rel => exact ⟨i + 1, L, by omega, by go_num, Lib.hid ⟨HK.out.1.below (Below.drewN' (Below.refl _ _) _), HK.out.2.1, HK.out.2.2.1 (by rw [HO.out.2.2]; exact loopsU_nodup S), Below.drewN' HK.out.2.2.2 _⟩⟩
                case measure => simp [intOf]; omega
          · have hiI : ¬ (i : Int) < (ul.length : Int) := by omega
            have hLl := hrel.out.2.1.length_eq
            have hNR : L = loopsR S := srt_loops (by rw [← HO.out.2.2]; exact hrel.out.2.1) (fun p q h1 h2 => hrel.out.2.2.1 p q h1 (by omega))
            have HT := Lib.hid (hrel.out.1.ok (by dsimp only; omega))
            have HB := Lib.hid (B3.out.trans (lower' (show Below w3.heap.size w3 wq from HLO.out ▸ hrel.out.2.2.2) B3.out.size))
            have HP := Lib.hid (P3.out.below (show Below w3.heap.size w3 wq from HLO.out ▸ hrel.out.2.2.2))
            obtain ⟨n, hn⟩ : ∃ n, n = ul.length := ⟨_, rfl⟩
            rw [← hn] at hul hiI hLl ⊢
            clear hrel HO HFEW P3 B3 HLO hi hilt hn
            subst hNR
            go_wp2_with (fail)
            go_loopw [11, 12, 99] (fun v11 v12 v99 wr => ∃ (i : Nat) (D : TV) (us : List TV), i ≤ n ∧ v12 = .slice D.A D.l.length D.c ∧ v99 = .int .i64 (i : Int) ∧ Hid (RtAt13 wq.heap.size wq wr v11 us D ∧ tus us = ringsTo S i ∧ DoneI S i D.l ∧ D.l.length ≤ i * 20 ∧ us.length ≤ i)) (fun _ _ v99 _ => n - (intOf v99).toNat)
            case atStart => exact ⟨0, ⟨none, [], 0⟩, [], by omega, rfl, rfl, Lib.hid ⟨⟨World.ownsRow_nil _ _ _ _, RowM.nil _ _, (fun _ h => nomatch h), Below.refl _ _⟩, by unfold ringsTo; simp [tus], fun x => by simp, by simp, by simp⟩⟩
            case round =>
              clear hiI
              obtain ⟨i4, D, us, hi4, rfl, rfl, hrel⟩ := hrel
              rename World => wr
              by_cases hil : i4 < n
              · have hilI : (i4 : Int) < (n : Int) := by omega
                have hNl : i4 < (loopsR S).length := by omega
                have hz : wq.heap.size ≤ wr.heap.size := hrel.out.1.b.size
                obtain ⟨b, o, hA, hbl, c0⟩ := HT.out.cell (k := i4) hNl
                dsimp only at hA c0
                have hDl : D.l.length ≤ 400 := Nat.le_trans hrel.out.2.2.2.1 (by omega)
                have hin := in13_any D (loopsR S)[i4] wr (hrel.out.1.d.ok (by omega))
                have hdi := done_iff S3.out hrel.out.2.2.1 hNl
                have HXC := Lib.hid fun W' (h : Below wq.heap.size wq W') => (h.cell (p := ⟨b, o + i4, none⟩) hbl).trans c0
                have HAA := Lib.hid hA
                have hx := HXC.out wr hrel.out.1.b
                rw [hA]
                cases hh : headR S (loopsR S)[i4] with
                | false =>
                  rw [decide_eq_true (hdi.2 hh)] at hin
                  have HI := Lib.hid hin
                  have HK := Lib.hid (And.intro (hrel.out.2.2.1.skip hNl hh) (show ringsTo S (i4 + 1) = ringsTo S i4 from by rw [ringsTo_succ hNl, hh]; simp))
                  have HO := Lib.hid hrel.out
                  generalize (loopsR S)[i4] = a at hx HI
                  clear hin hdi hh hrel hA c0 HXC hbl
                  go_wp2_with (go_at_call 47; (with_reducible refine HI.out.mono ?_); rintro e w6 ⟨rfl, rfl⟩)
                  go_roundw
                  case rel => exact ⟨i4 + 1, D, us, by omega, rfl, by go_num, Lib.hid ⟨HO.out.1, HO.out.2.1.trans HK.out.2.symm, HK.out.1, by have := HO.out.2.2.2.1; omega, by have := HO.out.2.2.2.2; omega⟩⟩
                  case measure => simp [intOf]; omega
                | true =>
                  rw [decide_eq_false (fun h => by have := hdi.1 h; rw [hh] at this; cases this)] at hin
                  have HI := Lib.hid hin
                  have HK := Lib.hid (And.intro (hrel.out.2.2.1.more hNl hh) (show ringsTo S (i4 + 1) = ringsTo S i4 ++ [ringOf S (loopsR S)[i4]] from by rw [ringsTo_succ hNl, hh]; simp))
                  have HO := Lib.hid (And.intro (hrel.out.1.ring hz) hrel.out.2)
                  obtain ⟨a, ha⟩ : ∃ a, a = (loopsR S)[i4] := ⟨_, rfl⟩
                  rw [← ha] at hx HI HK HXC
                  clear hin hdi hh hrel hA c0 hbl ha
                  go_wp2_with (go_at_call 47; (with_reducible refine HI.out.mono ?_); rintro e w6 ⟨rfl, rfl⟩)
                  clear HI hx
                  go_loopw [12, 14, 110] (fun v12 v14 v110 wz => ∃ (j : Nat) (D' R : TV), j ≤ n ∧ v12 = .slice D'.A D'.l.length D'.c ∧ v14 = .slice R.A R.l.length R.c ∧ v110 = .int .i64 (j : Int) ∧ Hid (RgAt wq.heap.size w6.heap.size wq wz u11 us D' R ∧ R.l = ((loopsR S).take j).filter (mutR S a) ∧ D'.l = D.l ++ R.l ∧ w6.heap.size ≤ wz.heap.size)) (fun _ _ v110 _ => n - (intOf v110).toNat)
                  case atStart => exact ⟨0, D, ⟨none, [], 0⟩, by omega, rfl, rfl, rfl, Lib.hid ⟨HO.out.1, by simp, by simp, Nat.le_refl _⟩⟩
                  case round =>
                    obtain ⟨j, D', R, hj, rfl, rfl, rfl, hrel⟩ := hrel
                    rename World => wz
                    have hRl : R.l.length ≤ 20 := by
                      rw [hrel.out.2.1]
                      exact Nat.le_trans (List.length_filter_le _ _) (by rw [List.length_take]; omega)
                    have hDl' : D'.l.length ≤ 500 := by rw [hrel.out.2.2.1, List.length_append]; omega
                    by_cases hjl : j < n
                    · have hjI : (j : Int) < (n : Int) := by omega
                      have hNj : j < (loopsR S).length := by omega
                      obtain ⟨b', o', hA', hbl', c1⟩ := HT.out.cell (k := j) hNj
                      dsimp only at hA' c1
                      rw [HAA.out] at hA'
                      injection hA' with hA'
                      injection hA' with e8 e9
                      subst e8 e9
                      have HF := Lib.hid (show ((loopsR S).take (j + 1)).filter (mutR S a) = ((loopsR S).take j).filter (mutR S a) ++ if mutR S a (loopsR S)[j] = true then [(loopsR S)[j]] else [] from by
                        rw [List.take_succ_eq_append_getElem hNj, List.filter_append]
                        by_cases h : mutR S a (loopsR S)[j] = true <;> simp [h])
                      generalize (loopsR S)[j] = y at c1 HF
                      have HYC := Lib.hid fun W' (h : Below wq.heap.size wq W') => (h.cell (p := ⟨b, o + j, none⟩) hbl').trans c1
                      have hbz := hrel.out.1.b
                      have KS := Lib.hid fun W' (h : Below wz.heap.size wz W') => And.intro (HXC.out W' (hbz.trans (lower' h hbz.size))) (HYC.out W' (hbz.trans (lower' h hbz.size)))
                      have hh1 := fun W' (h : Below wz.heap.size wz W') => has13_any A3 c3 S a y W' (HP.out.below (hbz.trans (lower' h hbz.size)))
                      have hh2 := fun W' (h : Below wz.heap.size wz W') => has13_any A3 c3 S y a W' (HP.out.below (hbz.trans (lower' h hbz.size)))
                      have HG := Lib.hid fun W' (h : Below wz.heap.size wz W') => And.intro (hrel.out.1.below h hbz.size) (Nat.le_trans hrel.out.2.2.2 h.size)
                      have HRD := Lib.hid hrel.out.2
                      clear hrel hbz c1 hbl' HO HK
                      cases h1 : decide ((a, y) ∈ S) with
                      | false =>
                        rw [h1] at hh1
                        have HH1 := Lib.hid hh1
                        have HFF := Lib.hid (show ((loopsR S).take (j + 1)).filter (mutR S a) = ((loopsR S).take j).filter (mutR S a) from by rw [HF.out, mutR, h1]; simp)
                        clear hh1 hh2 h1 HF
                        go_upto_region 29 with (fail)
                        have hS0 := KS.out wz.drew (Below.refl _ _).drew
                        refine wp_region_M (fun _ => true) (fun w' => w'.cell? ⟨b, o + i4, none⟩ = some (.int .i64 a) ∧ w'.cell? ⟨b, o + j, none⟩ = some (.int .i64 y)) (by kernel_rfl) ?_
                        refine wpAnyM_take (i := 0) (v := ?_) rfl (by kernel_rfl) (by kernel_rfl) (by kernel_rfl) (by kernel_rfl) (fun _ _ _ h => h) (Or.inl ⟨by rfl, ?_⟩) hS0 ?_
                        rotate_left
                        · intro w hSw; (try dsimp only at hSw); go_simp; (try with_reducible rfl)
                        simp only [Act.put, List.getElem_toArray, List.getElem_cons_zero, List.getElem_cons_succ, List.setIfInBounds_toArray, List.set_cons_zero, List.set_cons_succ]
                        refine wpAnyM_take (i := 1) (v := ?_) rfl (by kernel_rfl) (by kernel_rfl) (by kernel_rfl) (by kernel_rfl) (fun _ _ _ h => h) (Or.inl ⟨by rfl, ?_⟩) hS0 ?_
                        rotate_left
                        · intro w hSw; (try dsimp only at hSw); go_simp; (try with_reducible rfl)
                        simp only [Act.put, List.getElem_toArray, List.getElem_cons_zero, List.getElem_cons_succ, List.setIfInBounds_toArray, List.set_cons_zero, List.set_cons_succ]
                        refine wpAnyM_take (i := 2) (v := ?_) rfl (by kernel_rfl) (by kernel_rfl) (by kernel_rfl) (by kernel_rfl) (fun _ _ _ h => h) (Or.inl ⟨by rfl, ?_⟩) hS0 ?_
                        rotate_left
                        · intro w hSw; (try dsimp only at hSw); go_simp; (try with_reducible rfl)
                        simp only [Act.put, List.getElem_toArray, List.getElem_cons_zero, List.getElem_cons_succ, List.setIfInBounds_toArray, List.set_cons_zero, List.set_cons_succ]
                        refine wpAnyM_take (i := 3) (v := ?_) rfl (by kernel_rfl) (by kernel_rfl) (by kernel_rfl) (by kernel_rfl) (fun _ _ _ h => h) (Or.inl ⟨by rfl, ?_⟩) hS0 ?_
                        rotate_left
                        · intro w hSw; (try dsimp only at hSw); go_simp; (try with_reducible rfl)
                        simp only [Act.put, List.getElem_toArray, List.getElem_cons_zero, List.getElem_cons_succ, List.setIfInBounds_toArray, List.set_cons_zero, List.set_cons_succ]
                        refine wpAnyM_take (i := 4) (v := ?_) rfl (by kernel_rfl) (by kernel_rfl) (by kernel_rfl) (by kernel_rfl) (fun _ _ _ h => h) (Or.inl ⟨by rfl, ?_⟩) hS0 ?_
                        rotate_left
                        · intro w hSw; (try dsimp only at hSw); go_simp; (try with_reducible rfl)
                        simp only [Act.put, List.getElem_toArray, List.getElem_cons_zero, List.getElem_cons_succ, List.setIfInBounds_toArray, List.set_cons_zero, List.set_cons_succ]
                        refine wpAnyM_take (i := 5) (v := ?_) rfl (by kernel_rfl) (by kernel_rfl) (by kernel_rfl) (by kernel_rfl) (fun _ _ _ h => h) (Or.inl ⟨by rfl, ?_⟩) hS0 ?_
                        rotate_left
                        · intro w hSw; (try dsimp only at hSw); go_simp; (try with_reducible rfl)
                        simp only [Act.put, List.getElem_toArray, List.getElem_cons_zero, List.getElem_cons_succ, List.setIfInBounds_toArray, List.set_cons_zero, List.set_cons_succ]
                        refine wpAnyM_take (i := 6) (v := ?_) rfl (by kernel_rfl) (by kernel_rfl) (by kernel_rfl) (by kernel_rfl) (fun _ _ _ h => h) (Or.inl ⟨by rfl, ?_⟩) hS0 ?_
                        rotate_left
                        · intro w hSw; (try dsimp only at hSw); go_simp; (try with_reducible rfl)
                        simp only [Act.put, List.getElem_toArray, List.getElem_cons_zero, List.getElem_cons_succ, List.setIfInBounds_toArray, List.set_cons_zero, List.set_cons_succ]
                        refine wpAnyM_take (i := 7) (v := ?_) rfl (by kernel_rfl) (by kernel_rfl) (by kernel_rfl) (by kernel_rfl) (fun _ _ _ h => h) (Or.inl ⟨by rfl, ?_⟩) hS0 ?_
                        rotate_left
                        · intro w hSw; (try dsimp only at hSw); go_simp; (try with_reducible rfl)
                        simp only [Act.put, List.getElem_toArray, List.getElem_cons_zero, List.getElem_cons_succ, List.setIfInBounds_toArray, List.set_cons_zero, List.set_cons_succ]
                        refine wpAnyM_take (i := 8) (v := ?_) rfl (by kernel_rfl) (by kernel_rfl) (by kernel_rfl) (by kernel_rfl) (fun _ _ _ h => h) (Or.inl ⟨by rfl, ?_⟩) hS0 ?_
                        rotate_left
                        · intro w hSw; (try dsimp only at hSw); go_simp; (try with_reducible rfl)
                        simp only [Act.put, List.getElem_toArray, List.getElem_cons_zero, List.getElem_cons_succ, List.setIfInBounds_toArray, List.set_cons_zero, List.set_cons_succ]
                        refine wpAnyM_take (i := 9) (v := ?_) rfl (by kernel_rfl) (by kernel_rfl) (by kernel_rfl) (by kernel_rfl) (fun _ _ _ h => h) (Or.inl ⟨by rfl, ?_⟩) hS0 ?_
                        rotate_left
                        · intro w hSw; (try dsimp only at hSw); go_simp; (try with_reducible rfl)
                        simp only [Act.put, List.getElem_toArray, List.getElem_cons_zero, List.getElem_cons_succ, List.setIfInBounds_toArray, List.set_cons_zero, List.set_cons_succ]
                        refine wpAnyM_one (i := 10) (by kernel_rfl) rfl (fun K hK => ?_)
                        go_simp
                        go_wp2_with (go_at_call 50; (with_reducible refine (HH1.out _ (Below.refl _ _).drew).mono ?_); rintro e w10 ⟨rfl, b6⟩; have B6 := Lib.hid ((Below.refl wz.heap.size wz).drew.trans (b6 : Below wz.heap.size _ _)); have hS6 := KS.out w10 B6.out; clear b6)
                        refine hK.out _ _ (fun _ => hS6) ?_
                        clear hK K
                        refine wpAnyM_take (i := 11) (v := ?_) rfl (by kernel_rfl) (by kernel_rfl) (by kernel_rfl) (by kernel_rfl) (fun _ _ _ h => h) (Or.inl ⟨by rfl, ?_⟩) hS6 ?_
                        rotate_left
                        · intro w hSw; (try dsimp only at hSw); go_simp; (try with_reducible rfl)
                        simp only [Act.put, List.getElem_toArray, List.getElem_cons_zero, List.getElem_cons_succ, List.setIfInBounds_toArray, List.set_cons_zero, List.set_cons_succ]
                        refine wpAnyM_take (i := 12) (v := undef) rfl (by kernel_rfl) (by kernel_rfl) (by kernel_rfl) (by kernel_rfl) (fun _ _ _ h => h) (Or.inr ⟨by rfl, rfl⟩) hS6 ?_
                        simp only [Act.put, List.getElem_toArray, List.getElem_cons_zero, List.getElem_cons_succ, List.setIfInBounds_toArray, List.set_cons_zero, List.set_cons_succ]
                        refine wpAnyM_take (i := 13) (v := undef) rfl (by kernel_rfl) (by kernel_rfl) (by kernel_rfl) (by kernel_rfl) (fun _ _ _ h => h) (Or.inr ⟨by rfl, rfl⟩) hS6 ?_
                        simp only [Act.put, List.getElem_toArray, List.getElem_cons_zero, List.getElem_cons_succ, List.setIfInBounds_toArray, List.set_cons_zero, List.set_cons_succ]
                        refine wpAnyM_take (i := 14) (v := undef) rfl (by kernel_rfl) (by kernel_rfl) (by kernel_rfl) (by kernel_rfl) (fun _ _ _ h => h) (Or.inr ⟨by rfl, rfl⟩) hS6 ?_
                        simp only [Act.put, List.getElem_toArray, List.getElem_cons_zero, List.getElem_cons_succ, List.setIfInBounds_toArray, List.set_cons_zero, List.set_cons_succ]
                        refine wpAnyM_take (i := 17) (v := undef) rfl (by kernel_rfl) (by kernel_rfl) (by kernel_rfl) (by kernel_rfl) (fun _ _ _ h => h) (Or.inr ⟨by rfl, rfl⟩) hS6 ?_
                        simp only [Act.put, List.getElem_toArray, List.getElem_cons_zero, List.getElem_cons_succ, List.setIfInBounds_toArray, List.set_cons_zero, List.set_cons_succ]
                        refine wpAnyM_take (i := 18) (v := undef) rfl (by kernel_rfl) (by kernel_rfl) (by kernel_rfl) (by kernel_rfl) (fun _ _ _ h => h) (Or.inr ⟨by rfl, rfl⟩) hS6 ?_
                        simp only [Act.put, List.getElem_toArray, List.getElem_cons_zero, List.getElem_cons_succ, List.setIfInBounds_toArray, List.set_cons_zero, List.set_cons_succ]
                        refine wpAnyM_take (i := 15) (v := undef) rfl (by kernel_rfl) (by kernel_rfl) (by kernel_rfl) (by kernel_rfl) (fun _ _ _ h => h) (Or.inr ⟨by rfl, rfl⟩) hS6 ?_
                        simp only [Act.put, List.getElem_toArray, List.getElem_cons_zero, List.getElem_cons_succ, List.setIfInBounds_toArray, List.set_cons_zero, List.set_cons_succ]
                        refine wpAnyM_take (i := 19) (v := undef) rfl (by kernel_rfl) (by kernel_rfl) (by kernel_rfl) (by kernel_rfl) (fun _ _ _ h => h) (Or.inr ⟨by rfl, rfl⟩) hS6 ?_
                        simp only [Act.put, List.getElem_toArray, List.getElem_cons_zero, List.getElem_cons_succ, List.setIfInBounds_toArray, List.set_cons_zero, List.set_cons_succ]
                        refine wpAnyM_take (i := 16) (v := undef) rfl (by kernel_rfl) (by kernel_rfl) (by kernel_rfl) (by kernel_rfl) (fun _ _ _ h => h) (Or.inr ⟨by rfl, rfl⟩) hS6 ?_
                        simp only [Act.put, List.getElem_toArray, List.getElem_cons_zero, List.getElem_cons_succ, List.setIfInBounds_toArray, List.set_cons_zero, List.set_cons_succ]
                        refine wpAnyM_take (i := 20) (v := undef) rfl (by kernel_rfl) (by kernel_rfl) (by kernel_rfl) (by kernel_rfl) (fun _ _ _ h => h) (Or.inr ⟨by rfl, rfl⟩) hS6 ?_
                        simp only [Act.put, List.getElem_toArray, List.getElem_cons_zero, List.getElem_cons_succ, List.setIfInBounds_toArray, List.set_cons_zero, List.set_cons_succ]
                        refine wpAnyM_take (i := 21) (v := undef) rfl (by kernel_rfl) (by kernel_rfl) (by kernel_rfl) (by kernel_rfl) (fun _ _ _ h => h) (Or.inr ⟨by rfl, rfl⟩) hS6 ?_
                        simp only [Act.put, List.getElem_toArray, List.getElem_cons_zero, List.getElem_cons_succ, List.setIfInBounds_toArray, List.set_cons_zero, List.set_cons_succ]
                        refine wpAnyM_take (i := 22) (v := undef) rfl (by kernel_rfl) (by kernel_rfl) (by kernel_rfl) (by kernel_rfl) (fun _ _ _ h => h) (Or.inr ⟨by rfl, rfl⟩) hS6 ?_
                        simp only [Act.put, List.getElem_toArray, List.getElem_cons_zero, List.getElem_cons_succ, List.setIfInBounds_toArray, List.set_cons_zero, List.set_cons_succ]
                        refine wpAnyM_take (i := 23) (v := ?_) rfl (by kernel_rfl) (by kernel_rfl) (by kernel_rfl) (by kernel_rfl) (fun _ _ _ h => h) (Or.inl ⟨by rfl, ?_⟩) hS6 ?_
                        rotate_left
                        · intro w hSw; (try dsimp only at hSw); go_simp; (try with_reducible rfl)
                        simp only [Act.put, List.getElem_toArray, List.getElem_cons_zero, List.getElem_cons_succ, List.setIfInBounds_toArray, List.set_cons_zero, List.set_cons_succ]
                        refine wpAnyM_done (by kernel_rfl) ?_ _
                        clear hS6
                        all_goals
                          go_wp2_with (fail)
                          go_roundw
                          case rel => exact ⟨j + 1, D', R, by omega, rfl, rfl, by go_num, Lib.hid ⟨(HG.out _ B6.out).1, HRD.out.1.trans HFF.out.symm, HRD.out.2.1, (HG.out _ B6.out).2⟩⟩
                          case measure => simp [intOf]; omega
                      | true =>
                        rw [h1] at hh1
                        have HH1 := Lib.hid hh1
                        cases h2 : decide ((y, a) ∈ S) with
                        | false =>
                          rw [h2] at hh2
                          have HH2 := Lib.hid hh2
                          have HFF := Lib.hid (show ((loopsR S).take (j + 1)).filter (mutR S a) = ((loopsR S).take j).filter (mutR S a) from by rw [HF.out, mutR, h2]; simp)
                          clear hh1 hh2 h1 h2 HF
                          go_upto_region 29 with (fail)
                          go_region_held3 (fun W => W.cell? ⟨b, o + i4, none⟩ = some (.int .i64 a) ∧ W.cell? ⟨b, o + j, none⟩ = some (.int .i64 y)) (first | with_reducible assumption | exact KS.out _ (Below.refl _ _).drew | exact KS.out _ B7.out | exact KS.out _ B6.out)
                            (first
                              | (go_at_call 50; (with_reducible refine (HH1.out _ (Below.refl _ _).drew).mono ?_); rintro e w10 ⟨rfl, b6⟩; have B6 := Lib.hid ((Below.refl wz.heap.size wz).drew.trans (b6 : Below wz.heap.size _ _)); clear b6)
                              | (go_at_call 50; (with_reducible refine (HH2.out _ B6.out).mono ?_); rintro e w7 ⟨rfl, b7⟩; have B7 := Lib.hid (B6.out.trans (lower' b7 B6.out.size)); clear b7))
                          all_goals
                            go_wp2_with (fail)
                            go_roundw
                            case rel => exact ⟨j + 1, D', R, by omega, rfl, rfl, by go_num, Lib.hid ⟨(HG.out _ B7.out).1, HRD.out.1.trans HFF.out.symm, HRD.out.2.1, (HG.out _ B7.out).2⟩⟩
                            case measure => simp [intOf]; omega
                        | true =>
                          rw [h2] at hh2
                          have HH2 := Lib.hid hh2
                          have HFF := Lib.hid (show ((loopsR S).take (j + 1)).filter (mutR S a) = ((loopsR S).take j).filter (mutR S a) ++ [y] from by rw [HF.out, mutR, h1, h2]; simp)
                          clear hh1 hh2 h1 h2 HF
                          go_upto_region 29 with (fail)
                          go_region_held3 (fun W => W.cell? ⟨b, o + i4, none⟩ = some (.int .i64 a) ∧ W.cell? ⟨b, o + j, none⟩ = some (.int .i64 y)) (first | with_reducible assumption | exact KS.out _ (Below.refl _ _).drew | exact KS.out _ B7.out | exact KS.out _ B6.out)
                            (first
                              | (go_at_call 50; (with_reducible refine (HH1.out _ (Below.refl _ _).drew).mono ?_); rintro e w10 ⟨rfl, b6⟩; have B6 := Lib.hid ((Below.refl wz.heap.size wz).drew.trans (b6 : Below wz.heap.size _ _)); clear b6)
                              | (go_at_call 50; (with_reducible refine (HH2.out _ B6.out).mono ?_); rintro e w7 ⟨rfl, b7⟩; have B7 := Lib.hid (B6.out.trans (lower' b7 B6.out.size)); clear b7))
                          all_goals
                            obtain ⟨R', w8, hrun1, hR', b8, D2, w9, hrun2, hD2, hRg, hsz⟩ := (HG.out _ B7.out).1.push y (by omega) (by omega) (HG.out _ B7.out).2
                            have y0 := (KS.out _ B7.out).2
                            have y1 := HYC.out w8 ((HG.out _ B7.out).1.b.trans b8)
                            have H9 := Lib.hid (show RgAt wq.heap.size w6.heap.size wq w9 u11 us D2 R' ∧ R'.l = ((loopsR S).take (j + 1)).filter (mutR S a) ∧ D2.l = D.l ++ R'.l ∧ w6.heap.size ≤ w9.heap.size from ⟨hRg, by rw [hR', HFF.out, HRD.out.1], by rw [hD2, hR', HRD.out.2.1, List.append_assoc], Nat.le_trans (HG.out _ B7.out).2 (Nat.le_trans b8.size hsz)⟩)
                            clear hR' b8 hD2 hRg hsz
                            go_upto_region 31 with (at_builtin; refine wpL_appK _ rfl (.tmp 137) (.tmp 142) 31 rfl rfl _ _ _ _ rfl rfl hrun1 ?_)
                            clear y0 hrun1
                            go_wp2_with (at_builtin; refine wpL_appK _ rfl (.tmp 144) (.tmp 149) 31 rfl rfl _ _ _ _ rfl rfl hrun2 ?_)
                            go_roundw
                            case rel => exact ⟨j + 1, D2, R', by omega, rfl, rfl, by go_num, H9⟩
                            case measure => simp [intOf]; omega
                    · have hjI : ¬ (j : Int) < (n : Int) := by omega
                      have hRR : R.l = ringOf S a := by rw [hrel.out.2.1, List.take_of_length_le (by omega)]; rfl
                      obtain ⟨A5, c5, w5, hrun, hro⟩ := hrel.out.1.told (by have := HO.out.2.2.2.2; omega) (Nat.le_trans hz hrel.out.2.2.2)
                      have H5 := Lib.hid (show RtAt13 wq.heap.size wq w5 (.slice A5 (us.length + 1) c5) (us ++ [R]) D' ∧ tus (us ++ [R]) = ringsTo S (i4 + 1) ∧ DoneI S (i4 + 1) D'.l ∧ D'.l.length ≤ (i4 + 1) * 20 ∧ (us ++ [R]).length ≤ i4 + 1 from
                        ⟨hro, by rw [tus_app, HO.out.2.1, HK.out.2, ← hRR]; rfl, by rw [hrel.out.2.2.1, hRR]; exact HK.out.1, by rw [hrel.out.2.2.1, List.length_append]; have := HO.out.2.2.2.1; omega, by rw [List.length_append]; have := HO.out.2.2.2.2; simp; omega⟩)
                      clear hrel hro hRR
                      go_wp2_with (at_builtin; refine wpL_appK _ rfl (.tmp 152) (.tmp 154) 42 rfl rfl _ _ _ _ rfl rfl hrun ?_)
                      go_roundw
                      case rel => exact ⟨i4 + 1, D', us ++ [R], by omega, rfl, by go_num, H5⟩
                      case measure => simp [intOf]; omega
              · have hilI : ¬ (i4 : Int) < (n : Int) := by omega
                obtain ⟨A5, c5, e5, hcap, _, hrd⟩ := own_shape hrel.out.1.o
                have hi4' : i4 = (loopsR S).length := by omega
                have htu : tus us = ringsR S := by rw [hrel.out.2.1, hi4', ringsTo_all]
                have hok : LV.Ok wr ⟨A5, us, c5⟩ := ⟨hrd, fun t ht => (hrel.out.1.u t ht).1.ok (by
                  have h1 : t.l ∈ ringsR S := by rw [← htu]; exact List.mem_map_of_mem ht
                  obtain ⟨x, _, hx⟩ := List.mem_map.1 h1
                  rw [← hx]
                  exact Nat.le_trans (List.length_filter_le _ _) (by omega)), hcap, by have := hrel.out.2.2.2.2; dsimp only; omega⟩
                have HF := Lib.hid (And.intro hok (And.intro htu (HB.out.trans (lower' hrel.out.1.b HB.out.size))))
                rw [e5]
                clear hrel e5 hcap hrd htu hok hi4'
                go_wp2_with (fail)
                go_ret2
                exact .inr ⟨HE.out.1, ⟨A5, us, c5⟩, rfl, HF.out.1, ⟨S, S3.out.same' fun q => mem_edsP, HF.out.2.1⟩, HF.out.2.2⟩
end Go.Proofs.Ytmldiojlglpoiaa
