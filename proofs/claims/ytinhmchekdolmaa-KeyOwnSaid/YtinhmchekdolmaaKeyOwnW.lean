/- KeyOwn: the walk. -/
import Derived.Test.YtinhmchekdolmaaProg
import Derived.Test.YtinhmchekdolmaaKeyD
import Derived.Test.YtinhmchekdolmaaKeyL
import Derived.Test.YtinhmchekdolmaaKeyS
import Derived.Test.YtinhmchekdolmaaKeyOwnL
import Derived.WalkKit
import Derived.WalkSpells
import Derived.WalkLawsBesides
import Derived.Deep.QuietTactic
import Derived.Deep.RegionHeld
import Derived.Deep.DeepCutAuto
import Derived.Deep.CutRange
import Derived.BigQuiet
import Derived.KernelRfl
import Derived.Lib.Hide
namespace Go.Proofs.Ytinhmchekdolmaa
open Go.RowKit

set_option maxRecDepth 100000 in
set_option maxHeartbeats 2000000 in
theorem keyOwn_walk (A1 : Option Addr) (k1 : List KPart) (c1 : Nat) (A2 : Option Addr) (l2 : List UInt8) (c2 : Nat) (w : World)
    (hr1 : Rd w w.heap.size A1 (pcs k1)) (hf1 : ∀ q ∈ k1, q.fits) (hc1 : k1.length ≤ c1) (hm1 : c1 ≤ 4398046511104)
    (hr2 : Rd w w.heap.size A2 (u8s l2)) (hc2 : l2.length ≤ c2) (hm2 : c2 ≤ 140737488351232) :
    Calls Try.prog 8 #[.slice A1 k1.length c1, .slice A2 l2.length c2] w fun e w' => e = .returned (.bool true) ∧ Below w.heap.size w w' := by
  have g1 : ∀ W, Below w.heap.size w W → Rd W w.heap.size A1 (pcs k1) := fun W h => hr1.below h (Nat.le_refl _)
  have g2 : ∀ W, Below w.heap.size w W → Rd W w.heap.size A2 (u8s l2) := fun W h => hr2.below h (Nat.le_refl _)
  have hw1 : ∀ W, Below w.heap.size w W → Calls Try.prog 11 #[.slice A1 k1.length c1] W fun e w' => e = .returned (.bool (fewB k1)) ∧ W = w' := fun W h => few_any A1 k1 _ c1 w.heap.size W rfl (g1 W h) h.size (by omega) hf1
  have he1 : ∀ W, Below w.heap.size w W → Calls Try.prog 13 #[.slice A1 k1.length c1] W fun e w' => ∃ v', e = .returned (.tuple #[v', .int .i64 (encE k1)]) ∧ OwnB w' W.heap.size 5 v' (encB k1) ∧ Below W.heap.size W w' := fun W h => encode_any A1 k1 _ c1 w.heap.size W rfl (g1 W h) h.size hc1 (by omega) hf1
  have hd1 : ∀ W, Below w.heap.size w W → Calls Try.prog 17 #[.slice A2 l2.length c2] W fun e w' => ∃ v, e = .returned (.tuple #[v, .int .i64 (decE l2)]) ∧ OwnP w' W.heap.size 38 v (decK l2) ∧ Below W.heap.size W w' := fun W h => decode_any A2 l2 _ c2 w.heap.size W rfl (g2 W h) h.size hc2 (by omega) (by omega)
  have hn1 : ∀ W, Below w.heap.size w W → Calls Try.prog 22 #[.slice A2 l2.length c2] W fun e w' => ∃ v, e = .returned v ∧ OwnB w' W.heap.size 5 v (endN l2 l2.length) ∧ Below W.heap.size W w' := fun W h => end_any A2 l2 _ c2 w.heap.size W rfl (g2 W h) h.size (by omega) hc2 (by omega)
  have hn2 : ∀ W, Below w.heap.size w W → Calls Try.prog 23 #[.slice A2 l2.length c2] W fun e w' => ∃ v, e = .returned v ∧ OwnB w' W.heap.size 5 v (endN l2 l2.length) ∧ Below W.heap.size W w' := fun W h => refEnd_any A2 l2 _ c2 w.heap.size W rfl (g2 W h) h.size (by omega) hc2 (by omega)
  have hxl : (encB k1).length ≤ 200 := by unfold encB; split <;> simp [keyB_length]; assumption
  have hKl := decK_len l2
  obtain ⟨bb, hbb⟩ : ∃ b, b = fewB k1 := ⟨_, rfl⟩
  obtain ⟨X, hX⟩ : ∃ X, X = encB k1 := ⟨_, rfl⟩
  obtain ⟨ee, hee⟩ : ∃ x, x = encE k1 := ⟨_, rfl⟩
  obtain ⟨K, hK⟩ : ∃ K, K = decK l2 := ⟨_, rfl⟩
  obtain ⟨de, hde⟩ : ∃ x, x = decE l2 := ⟨_, rfl⟩
  obtain ⟨E, hE⟩ : ∃ E, E = endN l2 l2.length := ⟨_, rfl⟩
  rw [← hbb] at hw1
  rw [← hX] at he1 hxl
  rw [← hee] at he1
  rw [← hK, ← hde] at hd1
  rw [← hK] at hKl
  have HKl : Hid (K.length ≤ 4611686018427387904) := Lib.hid (by omega)
  clear hKl
  rw [← hE] at hn1 hn2
  have HW := Lib.hid hw1
  have HE := Lib.hid he1
  have HD := Lib.hid hd1
  have HN1 := Lib.hid hn1
  have HN2 := Lib.hid hn2
  have HG2 := Lib.hid g2
  clear hw1 he1 hd1 hn1 hn2 g1 g2 hbb hX hee hK hde hE hr1 hr2 hf1
  rcases bb with _ | _
  · go_enter Try.func8, Try.ntmps8
    go_wp2_with fail
    refine (awake_any _).mono ?_
    rintro e w1 ⟨rfl, hb1⟩
    go_wp2_with (go_at_call 11; (with_reducible refine (HW.out _ hb1).mono ?_); rintro e w' ⟨rfl, rfl⟩)
    refine (awake_any _).mono ?_
    rintro e w2 ⟨rfl, hb2⟩
    go_wp2
    go_ret
    exact ⟨rfl, hb1.trans (hb2.mono hb1.size)⟩
  · by_cases hbig : 500 < (l2.length : Int)
    · go_enter Try.func8, Try.ntmps8
      go_wp2_with fail
      refine (awake_any _).mono ?_
      rintro e w1 ⟨rfl, hb1⟩
      go_wp2_with (go_at_call 11; (with_reducible refine (HW.out _ hb1).mono ?_); rintro e w' ⟨rfl, rfl⟩)
      refine (awake_any _).mono ?_
      rintro e w2 ⟨rfl, hb2⟩
      go_wp2
      go_ret
      exact ⟨rfl, hb1.trans (hb2.mono hb1.size)⟩
    · go_enter Try.func8, Try.ntmps8
      go_wp2_with fail
      refine (awake_any _).mono ?_
      rintro e w1 ⟨rfl, hB1⟩
      go_wp2_with (go_at_call 11; (with_reducible refine (HW.out _ hB1).mono ?_); rintro e w' ⟨rfl, rfl⟩)
      refine (HE.out _ hB1).mono ?_
      rintro e w2 ⟨vx, rfl, hownx, hb2⟩
      have hB2 := hB1.trans (hb2.mono hB1.size)
      go_wp2_with fail
      refine (HE.out _ hB2).mono ?_
      rintro e w3 ⟨vy, rfl, howny, hb3⟩
      have hB3 := hB2.trans (hb3.mono hB2.size)
      have hgx : ∀ g, vx.ownBlock = some g → w1.heap.size ≤ g ∧ g < w2.heap.size := World.ownsRow.lt hownx
      have hownx3 := hownx.below hb3 (Nat.le_refl _)
      obtain ⟨Ax, cx, hvx, hcx, hmx, -, -⟩ := hownx3.shape
      subst hvx
      have hs12 := hb2.size
      have hs23 := hb3.size
      have hs1 := hB1.size
      clear hownx hb2 hb3
      have HGX := Lib.hid hgx
      clear hgx
      go_wp2_with fail
      go_loopw [45] (fun i wr => ∃ k : Nat, k ≤ X.length ∧ i = .int .i64 (k : Int) ∧ Below w.heap.size w wr ∧ OwnB wr w2.heap.size 5 vy X ∧ w3.heap.size ≤ wr.heap.size ∧ ∃ X', X'.length = X.length ∧ OwnB wr w1.heap.size 5 (.slice Ax X.length cx) X') (fun i _ => X.length - (intOf i).toNat)
      case atStart => exact ⟨0, by omega, rfl, hB3, howny, Nat.le_refl _, X, rfl, hownx3⟩
      case round =>
        clear hownx3 howny hB3
        obtain ⟨k, hk, rfl, hBr, hyr, hsr, X', hXl, hxr⟩ := hrel
        rcases Nat.lt_or_ge k X.length with h8 | h8
        · obtain ⟨g, cg, hform, -, -, -, -⟩ := hxr.form (by omega)
          injection hform with hf1 hf2 hf3
          subst hf1
          have hgl := HGX.out g rfl
          have hk' : k < X'.length := by omega
          have hxr' : OwnB wr w1.heap.size 5 (.slice (some ⟨g, 0, none⟩) X'.length cx) X' := by rw [hXl]; exact hxr
          have hcell := hxr'.cell hk'
          have hfree := hxr'.free k
          obtain ⟨b, hb⟩ : ∃ b, b = X'[k] := ⟨_, rfl⟩
          rw [← hb] at hcell
          have hst := hxr'.store k (b + 1)
          have hgb := (World.ownsRow.stored hxr' k (.int .u8 ((b + 1).toNat : Int))).2
          have e1 : ((b + 1).toNat : Int) = (b.toNat + 1) % 256 := by rw [UInt8.toNat_add]; simp
          rw [e1] at hst hgb
          have HST := Lib.hid hst
          have HGB := Lib.hid hgb
          have HXL := Lib.hid hXl
          clear hst hgb e1 hb hf2 hf3 hXl hxr hxr'
          go_wp2
          go_roundw
          case rel =>
            refine ⟨k + 1, by omega, by go_num, hBr.trans (grown_below HGB.out (by omega) hBr.size), own_keptBy hyr HGB.out hgl.2, by have := HGB.out.size; omega, X'.set k (b + 1), by rw [List.length_set]; exact HXL.out, ?_⟩
            have := HST.out
            rw [HXL.out] at this
            exact this
          case measure => simp [intOf]; omega
        · obtain rfl : k = X.length := by omega
          clear hxr hXl
          go_wp2_with fail
          refine (HE.out _ hBr).mono ?_
          rintro e w4 ⟨vz, rfl, hownz, hb4⟩
          have hB4 := hBr.trans (hb4.mono hBr.size)
          have hy4 := hyr.below hb4 (Nat.le_refl _)
          obtain ⟨Ay, cy, hvy, -, -, hyR, -⟩ := hy4.shape
          subst hvy
          obtain ⟨Az, cz, hvz, -, -, hzR, -⟩ := hownz.shape
          subst hvz
          clear hyr hy4 hownz
          go_wp2_with fail
          refine (HD.out _ hB4).mono ?_
          rintro e w5 ⟨vl, rfl, hownl, hb5⟩
          have hB5 := hB4.trans (hb5.mono hB4.size)
          go_wp2_with fail
          refine (HD.out _ hB5).mono ?_
          rintro e w6 ⟨vm, rfl, hownm, hb6⟩
          have hB6 := hB5.trans (hb6.mono hB5.size)
          have hs45 := hb5.size
          have hs56 := hb6.size
          have hsr4 := hB4.size
          have hyR6 := (hyR.below hb5 (Nat.le_refl _)).below hb6 hs45
          have hzR6 := (hzR.below hb5 (Nat.le_refl _)).below hb6 hs45
          have hgl : ∀ g, vl.ownBlock = some g → w4.heap.size ≤ g ∧ g < w5.heap.size := World.ownsRow.lt hownl
          have hl6 := own_below hownl hb6 (Nat.le_refl _)
          obtain ⟨Al, cl, hvl, hcl, hml, -⟩ := own_shape hl6
          subst hvl
          have HGL := Lib.hid hgl
          clear hgl hownl hb4 hb5 hb6 hB4 hB5 hyR hzR
          go_wp2_with fail
          go_loopw [72] (fun i wr => ∃ k : Nat, k ≤ K.length ∧ i = .int .i64 (k : Int) ∧ Below w.heap.size w wr ∧ Rd wr w4.heap.size Ay (u8s X) ∧ Rd wr w4.heap.size Az (u8s X) ∧ OwnP wr w5.heap.size 38 vm K ∧ w6.heap.size ≤ wr.heap.size ∧ ∃ xs, wr.ownsRow w4.heap.size 38 3 (.slice Al K.length cl) K.length xs) (fun i _ => K.length - (intOf i).toNat)
          case atStart => exact ⟨0, by omega, rfl, hB6, hyR6, hzR6, hownm, Nat.le_refl _, _, hl6⟩
          case round =>
            clear hl6 hownm hyR6 hzR6 hB6
            obtain ⟨k, hk, rfl, hBr2, hyr2, hzr2, hmr2, hsr2, xs, hxs⟩ := hrel
            rcases Nat.lt_or_ge k K.length with h9 | h9
            · rcases hxs.2 with ⟨_, h0⟩ | ⟨g, cap, cur, hform, -⟩
              · have hxl := hxs.1
                rw [h0] at hxl
                simp at hxl
                omega
              · injection hform with hf1 hf2 hf3
                subst hf1 hf3
                have hgl := HGL.out g rfl
                have hnum := num_any 77 wr
                have HNUM := Lib.hid hnum
                clear hnum
                have hxl := hxs.1
                have hkk : k * 3 + 2 < xs.length := by rw [hxl]; omega
                obtain ⟨x0, hx0⟩ : ∃ x, xs[k * 3]? = some x := ⟨_, List.getElem?_eq_getElem (by omega)⟩
                obtain ⟨x1, hx1⟩ : ∃ x, xs[k * 3 + 1]? = some x := ⟨_, List.getElem?_eq_getElem (by omega)⟩
                obtain ⟨x2, hx2⟩ : ∃ x, xs[k * 3 + 2]? = some x := ⟨_, List.getElem?_eq_getElem (by omega)⟩
                have HX0 := Lib.hid hx0
                have HX1 := Lib.hid hx1
                have HX2 := Lib.hid hx2
                have HXL := Lib.hid hxl
                clear hx0 hx1 hx2 hxl hf2
                go_wp2_with (go_at_call 24; refine HNUM.out.mono ?_; rintro e wk ⟨rfl, hbk⟩; have hxk := own_below hxs hbk (Nat.le_refl _); have p0 := (hxk.cellAt (k * 3) (by omega)).trans HX0.out; have p1 := (hxk.cellAt (k * 3 + 1) (by omega)).trans HX1.out; have p2 := (hxk.cellAt (k * 3 + 2) (by omega)).trans HX2.out; have r0 := hxk.frozenAt (k * 3); have r1 := hxk.frozenAt (k * 3 + 1); have r2 := hxk.frozenAt (k * 3 + 2))
                go_roundw
                case rel =>
                  obtain ⟨hgb, xs', hxs'⟩ := store3 (j := k * 3) hxk (.bool false) (.string ⟨#[]⟩) (.int .i64 77)
                  exact ⟨k + 1, h9, congrArg (Value.int .i64) (wrapUp h9 (rowLen hxs)), stepBelow hBr2 hbk hgb hgl.1 hsr4, stepRd hyr2 hbk hgb hgl.1 (Nat.le_trans hs45 (Nat.le_trans hs56 hsr2)), stepRd hzr2 hbk hgb hgl.1 (Nat.le_trans hs45 (Nat.le_trans hs56 hsr2)), own_keptBy (own_below hmr2 hbk (Nat.le_refl _)) hgb hgl.2, stepSize hbk hgb hsr2, xs', hxs'⟩
                case measure => exact stepMeasure h9 (rowLen hxs)
            · obtain rfl : k = K.length := by omega
              clear hxs
              go_wp2_with fail
              refine (HD.out _ hBr2).mono ?_
              rintro e w7 ⟨vn, rfl, hownn, hb7⟩
              have hB7 := hBr2.trans (hb7.mono hBr2.size)
              obtain ⟨An, cn, hvn, -, -, hnR⟩ := own_shape hownn
              subst hvn
              obtain ⟨Am, cm, hvm, -, -, hmR⟩ := own_shape hmr2
              subst hvm
              have hs7 := hb7.size
              have hyR7 := hyr2.below hb7 (by omega)
              have hzR7 := hzr2.below hb7 (by omega)
              have hmR7 := hmR.below hb7 (Nat.le_refl _)
              clear hownn hmr2 hmR hyr2 hzr2
              go_wp2_with fail
              refine (HN1.out _ hB7).mono ?_
              rintro e w8 ⟨ve, rfl, howne, hb8⟩
              have hB8 := hB7.trans (hb8.mono hB7.size)
              have hs8 := hb8.size
              have hyR8 := hyR7.below hb8 (by omega)
              have hzR8 := hzR7.below hb8 (by omega)
              have hmR8' := (hmR7.more hs7).below hb8 (Nat.le_refl _)
              have hnR8' := hnR.below hb8 (Nat.le_refl _)
              clear hyR7 hzR7 hmR7 hnR hb7 hb8
              rcases Nat.eq_zero_or_pos E.length with h0 | h0
              · obtain ⟨Ae, ce, rfl, -, -, -, -⟩ := howne.shape
                have hd0 : ¬ (0 < E.length) := by omega
                have sy9 : w4.heap.size ≤ w8.heap.size := by omega
                have hmR8 := hmR8'.more hs8
                have hnR8 := hnR8'.more hs8
                clear howne h0 hmR8' hnR8'
                have KS : ∀ w', Below w8.heap.size w8 w' → (Below w8.heap.size w8 w' ∧ (convert 26 9 (.slice Ay X.length cy)).run Try.prog w' = .ok (.string ⟨X.toArray⟩) w' ∧ (convert 26 9 (.slice Az X.length cz)).run Try.prog w' = .ok (.string ⟨X.toArray⟩) w') := fun w' h => ⟨h, strAt0 (hyR8.below h sy9) rfl, strAt0 (hzR8.below h sy9) rfl⟩
                have HKS := Lib.hid KS
                have hsm := fun W (h : Below w8.heap.size w8 W) => same_any Am An K _ _ cm cn w8.heap.size W rfl rfl (hmR8.below h (Nat.le_refl _)) (hnR8.below h (Nat.le_refl _)) HKl.out
                have HSM := Lib.hid hsm
                clear KS hsm
                go_wp2_with fail
                go_region_held (fun w' => Below w8.heap.size w8 w' ∧ (convert 26 9 (.slice Ay X.length cy)).run Try.prog w' = .ok (.string ⟨X.toArray⟩) w' ∧ (convert 26 9 (.slice Az X.length cz)).run Try.prog w' = .ok (.string ⟨X.toArray⟩) w')
                  (first
                    | exact HKS.out _ (Below.refl _ _).drew
                    | exact HKS.out _ hBx
                    | exact HKS.out _ (below_draws (Below.refl _ _) _)
                    | assumption)
                  (first
                    | (go_at_call 16; obtain ⟨hBo, -, -⟩ : Below w8.heap.size w8 _ ∧ _ ∧ _ := (by assumption); (with_reducible refine (HSM.out _ hBo).mono ?_); rintro e wk ⟨rfl, m, rfl⟩; clear hBo)
                    | (go_at_call 22; obtain ⟨hBo, -, -⟩ : Below w8.heap.size w8 _ ∧ _ ∧ _ := (by assumption); (with_reducible refine (HN1.out _ (hB8.trans (hBo.mono hB8.size))).mono ?_); rintro e wk ⟨va, rfl, hownva, hbk⟩; have hBx := hBo.trans (hbk.mono hBo.size); (try (have hrb := hrb.below hbk (Nat.le_refl _); have hcb := strAt0 (c := cb) hrb rfl)); obtain ⟨Aa, ca, rfl, hca, hma, hra, _⟩ := hownva.shape; have hcva := strAt0 (c := ca) hra rfl)
                    | (go_at_call 23; obtain ⟨hBo, -, -⟩ : Below w8.heap.size w8 _ ∧ _ ∧ _ := (by assumption); (with_reducible refine (HN2.out _ (hB8.trans (hBo.mono hB8.size))).mono ?_); rintro e wk ⟨vb, rfl, hownvb, hbk⟩; have hBx := hBo.trans (hbk.mono hBo.size); (try (have hra := hra.below hbk (Nat.le_refl _); have hcva := strAt0 (c := ca) hra rfl)); obtain ⟨Ab, cb, rfl, hcb', hmb, hrb, _⟩ := hownvb.shape; have hcb := strAt0 (c := cb) hrb rfl))
                all_goals go_wp2
                all_goals go_ret
                all_goals exact ⟨by simp, hB8.trans (hBx.mono hB8.size)⟩
              · obtain ⟨ge, ce, hve, hge1, hge2, hce, hme⟩ := howne.form h0
                subst hve
                have hcell := howne.cell h0
                have hfree := howne.free 0
                obtain ⟨b, hb⟩ : ∃ b, b = E[0] := ⟨_, rfl⟩
                rw [← hb] at hcell
                have hgb := (World.ownsRow.stored howne 0 (.int .u8 (((b.toNat : Int) + 1) % 256))).2
                obtain ⟨w9, hw9⟩ : ∃ x, x = w8.setCell ⟨ge, 0, none⟩ (.int .u8 (((b.toNat : Int) + 1) % 256)) := ⟨_, rfl⟩
                have HW9 := Lib.hid hw9
                rw [← hw9] at hgb
                clear hw9
                have hB9 := hB8.trans (grown_below hgb (Nat.le_trans (Nat.le_trans (Nat.le_trans hsr4 (Nat.le_trans hs45 (Nat.le_trans hs56 hsr2))) hs7) hge1) hB8.size)
                have hs9 := hgb.size
                have hyR9 := hyR8.grown hgb (by omega) (by intro g' e; injection e with e; omega)
                have hzR9 := hzR8.grown hgb (by omega) (by intro g' e; injection e with e; omega)
                have hmR9 := (hmR8'.grown hgb hs8 (by intro g' e; injection e with e; omega)).more (Nat.le_trans hs8 hs9)
                have hnR9 := (hnR8'.grown hgb hs8 (by intro g' e; injection e with e; omega)).more (Nat.le_trans hs8 hs9)
                have sy9 : w4.heap.size ≤ w9.heap.size := by omega
                clear hb howne hce hme hyR8 hzR8 hmR8' hnR8' hgb
                go_wp2_with fail
                rw [← HW9.out]
                clear HW9 hcell hfree
                have KS : ∀ w', Below w9.heap.size w9 w' → (Below w9.heap.size w9 w' ∧ (convert 26 9 (.slice Ay X.length cy)).run Try.prog w' = .ok (.string ⟨X.toArray⟩) w' ∧ (convert 26 9 (.slice Az X.length cz)).run Try.prog w' = .ok (.string ⟨X.toArray⟩) w') := fun w' h => ⟨h, strAt0 (hyR9.below h sy9) rfl, strAt0 (hzR9.below h sy9) rfl⟩
                have HKS := Lib.hid KS
                have hsm := fun W (h : Below w9.heap.size w9 W) => same_any Am An K _ _ cm cn w9.heap.size W rfl rfl (hmR9.below h (Nat.le_refl _)) (hnR9.below h (Nat.le_refl _)) HKl.out
                have HSM := Lib.hid hsm
                clear KS hsm
                go_region_held (fun w' => Below w9.heap.size w9 w' ∧ (convert 26 9 (.slice Ay X.length cy)).run Try.prog w' = .ok (.string ⟨X.toArray⟩) w' ∧ (convert 26 9 (.slice Az X.length cz)).run Try.prog w' = .ok (.string ⟨X.toArray⟩) w')
                  (first
                    | exact HKS.out _ (Below.refl _ _).drew
                    | exact HKS.out _ hBx
                    | exact HKS.out _ (below_draws (Below.refl _ _) _)
                    | assumption)
                  (first
                    | (go_at_call 16; obtain ⟨hBo, -, -⟩ : Below w9.heap.size w9 _ ∧ _ ∧ _ := (by assumption); (with_reducible refine (HSM.out _ hBo).mono ?_); rintro e wk ⟨rfl, m, rfl⟩; clear hBo)
                    | (go_at_call 22; obtain ⟨hBo, -, -⟩ : Below w9.heap.size w9 _ ∧ _ ∧ _ := (by assumption); (with_reducible refine (HN1.out _ (hB9.trans (hBo.mono hB9.size))).mono ?_); rintro e wk ⟨va, rfl, hownva, hbk⟩; have hBx := hBo.trans (hbk.mono hBo.size); (try (have hrb := hrb.below hbk (Nat.le_refl _); have hcb := strAt0 (c := cb) hrb rfl)); obtain ⟨Aa, ca, rfl, hca, hma, hra, _⟩ := hownva.shape; have hcva := strAt0 (c := ca) hra rfl)
                    | (go_at_call 23; obtain ⟨hBo, -, -⟩ : Below w9.heap.size w9 _ ∧ _ ∧ _ := (by assumption); (with_reducible refine (HN2.out _ (hB9.trans (hBo.mono hB9.size))).mono ?_); rintro e wk ⟨vb, rfl, hownvb, hbk⟩; have hBx := hBo.trans (hbk.mono hBo.size); (try (have hra := hra.below hbk (Nat.le_refl _); have hcva := strAt0 (c := ca) hra rfl)); obtain ⟨Ab, cb, rfl, hcb', hmb, hrb, _⟩ := hownvb.shape; have hcb := strAt0 (c := cb) hrb rfl))
                all_goals go_wp2
                all_goals go_ret
                all_goals exact ⟨by simp, hB9.trans (hBx.mono hB9.size)⟩
end Go.Proofs.Ytinhmchekdolmaa
