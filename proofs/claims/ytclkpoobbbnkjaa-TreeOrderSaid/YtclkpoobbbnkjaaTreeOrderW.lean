/- TreeOrder: the walk. -/
import Derived.Test.YtclkpoobbbnkjaaTreW
import Derived.Deep.CutRange
import Derived.Deep.CutBlock
namespace Go.Proofs.Ytclkpoobbbnkjaa
open Go.RowKit Go.Maps

set_option maxRecDepth 100000 in
set_option maxHeartbeats 4000000 in
theorem treeOrder_walk (A : Option Addr) (K : List RowB) (c : Nat) (turn : Int) (w : World) (hr : Rd w w.heap.size A (K.map RowB.v)) (hk : ∀ r ∈ K, r.ok w w.heap.size) :
    Calls Try.prog 4 #[.slice A K.length c, .int .i64 turn] w fun e w' => e = .returned (.bool true) ∧ Below w.heap.size w w' := by
  have HAW := Lib.hid (fun W => treeAwake_any W)
  obtain ⟨T, hT, t1, t2⟩ := rem_u turn 80 (by omega) (by omega)
  have HTT := Lib.hid (And.intro hT (And.intro t1 t2))
  have hb0 : Below w.heap.size w ((w.alloc (.cells #[.slice A K.length c] 37)).alloc (.cells #[.int .i64 turn] 3)) := ((Below.refl _ _).alloc (Nat.le_refl _) _).alloc (by simp) _
  have hbox : ∀ W, Below ((w.alloc (.cells #[.slice A K.length c] 37)).alloc (.cells #[.int .i64 turn] 3)).heap.size ((w.alloc (.cells #[.slice A K.length c] 37)).alloc (.cells #[.int .i64 turn] 3)) W → W.cell? ⟨w.heap.size, 0, none⟩ = some (.slice A K.length c) ∧ W.cell? ⟨w.heap.size + 1, 0, none⟩ = some (.int .i64 turn) := fun W hW => by
    obtain ⟨g1, g2⟩ := two_new w (.cells #[.slice A K.length c] 37) (.cells #[.int .i64 turn] 3)
    exact ⟨cell_of_row W w.heap.size 0 _ _ _ ((hW.block w.heap.size (by simp; omega)).trans g1), cell_of_row W (w.heap.size + 1) 0 _ _ _ ((hW.block (w.heap.size + 1) (by simp)).trans g2)⟩
  have hsz0 : ((w.alloc (.cells #[.slice A K.length c] 37)).alloc (.cells #[.int .i64 turn] 3)).heap.size = w.heap.size + 2 := by simp
  have HR := Lib.hid (And.intro hr hk)
  obtain ⟨N, hN⟩ : ∃ N : Nat, (if (80 : Int) < (K.length : Int) then (80 : Int) else (K.length : Int)) = (N : Int) := ⟨min K.length 80, by split <;> omega⟩
  have hNK : N ≤ K.length ∧ N ≤ 80 := by split at hN <;> omega
  clear hT t1 t2 hr hk
  go_enter Try.func4, Try.ntmps4
  go_upto_region 1 with (fail)
  generalize ((w.alloc (.cells #[.slice A K.length c] 37)).alloc (.cells #[.int .i64 turn] 3)) = W0 at hb0 hbox hsz0 ⊢
  have H0 := Lib.hid (And.intro hb0 (And.intro hbox (And.intro hsz0 hNK)))
  have hnew := tnew_any W0 W0.heap.size (Nat.le_refl _)
  have HNEW := Lib.hid hnew
  clear hb0 hbox hsz0 hnew hNK
  go_upto_region 2 with (first
    | (go_at_call 7; (with_reducible refine HNEW.out.mono ?_); rintro e w1 ⟨rfl, h1, hb1⟩; have hnew2 := tnew_any w1 w1.heap.size (Nat.le_refl _); have HNEW2 := Lib.hid hnew2; have H1 := Lib.hid (And.intro h1 hb1); clear h1 hb1 hnew2 HNEW)
    | (go_at_call 7; (with_reducible refine HNEW2.out.mono ?_); rintro e w2 ⟨rfl, h2, hb2⟩; have H2 := Lib.hid (And.intro (Two.new H1.out.1 hb2 H1.out.2.size h2) (H1.out.2.trans (lower' hb2 H1.out.2.size))); clear h2 hb2 HNEW2))
  go_upto_region 4 with (go_at_call 8; (with_reducible refine (HAW.out w2).mono ?_); rintro e w3 ⟨rfl, hb3⟩; have H3 := Lib.hid (And.intro (H2.out.1.below hb3) (H2.out.2.trans (lower' hb3 H2.out.2.size))); clear hb3)
  obtain ⟨ck, _⟩ := H0.out.2.1 w3 H3.out.2
  go_upto_region 5 with (fail)
  have hbn : (w3.alloc (.cells #[.int .i64 (N : Int)] 3)).heap[w3.heap.size]? = some (.cells #[.int .i64 (N : Int)] 3 (0, 0)) := heap_alloc_new w3 _
  have hb4 : Below w3.heap.size w3 (w3.alloc (.cells #[.int .i64 (N : Int)] 3)) := (Below.refl _ _).alloc (Nat.le_refl _) _
  have hT4 := H3.out.1.below hb4
  have hW4 := H3.out.2.trans (lower' hb4 H3.out.2.size)
  generalize w3.alloc (.cells #[.int .i64 (N : Int)] 3) = W4 at hbn hT4 hW4 ⊢
  obtain ⟨bn, hbnE⟩ : ∃ b, b = w3.heap.size := ⟨_, rfl⟩
  rw [← hbnE] at hbn ⊢
  obtain ⟨pb, hpb⟩ : ∃ b, b = w1.heap.size := ⟨_, rfl⟩
  rw [← hpb] at hT4 ⊢
  have H4 := Lib.hid (And.intro hT4 (And.intro hW4 hbn))
  clear hb4 hT4 hW4 hbn hbnE hpb ck hN
  go_upto_block 0 with (fail)
  go_cut [9, 10] from 35 to 67 (fun i k w' => ∃ LA LB, Two w' W0.heap.size W0.heap.size pb LA LB ∧ LA.length ≤ 80 ∧ LB.length ≤ 160 ∧ InA (ksO K N) N LA ∧ InB (ksO K N) LB ∧ Below W0.heap.size W0 w' ∧ w'.heap[bn]? = some (.cells #[.int .i64 (N : Int)] 3 (0, 0)))
  case rest =>
    obtain ⟨LA, LB, h1, h2, h3, h4, h5, h6, h7⟩ := hcut
    have HL := Lib.hid (And.intro h1 (And.intro h2 (And.intro h3 (And.intro h4 (And.intro h5 (And.intro h6 h7))))))
    clear h1 h2 h3 h4 h5 h6 h7
    go_upto_block 2 with (fail)
    go_cut [11] from 68 to 80 (fun i w' => ∃ LB, Two w' W0.heap.size W0.heap.size pb LA LB ∧ LB.length ≤ 240 ∧ InC (ksO K N) T N LB ∧ Below W0.heap.size W0 w')
    case rest =>
      obtain ⟨L0, h1, h2, h3, h4⟩ := hcut
      have HC := Lib.hid (And.intro h1 (And.intro h2 (And.intro h3 h4)))
      have hcv := conv_three wc 255 255 45
      have hb1 : Below wc.heap.size wc (wc.alloc (.cells #[.int .u8 255, .int .u8 255, .int .u8 45] 5 (3, 4))) := (Below.refl _ _).alloc (Nat.le_refl _) _
      have hrg : Calls Try.prog 12 #[.pointer (some ⟨pb, 0, none⟩), .slice (some ⟨wc.heap.size, 0, none⟩) 3 3, .slice none 0 0, .int .i64 1000] (wc.alloc (.cells #[.int .u8 255, .int .u8 255, .int .u8 45] 5 (3, 4))) (NewPrs (wc.alloc (.cells #[.int .u8 255, .int .u8 255, .int .u8 45] 5 (3, 4))) (rngL preO [] 1000 L0)) := trange_any (h1.right.below hb1) ⟨some ⟨wc.heap.size, 0, none⟩, preO, 3⟩ ⟨none, [], 0⟩ (wc.heap.size + 1) (rd_three wc 255 255 45 (3, 4)) (Rd.emp _ _ _) 1000 (by omega) (by simp) (by omega)
      have HRG := Lib.hid hrg
      have HB1 := Lib.hid hb1
      clear h1 h2 h3 h4 hrg hb1
      go_wp2_with (go_at_call 12; (with_reducible refine HRG.out.mono ?_); rintro e wd ⟨v, P, rfl, p1, p2, p3⟩; obtain ⟨A2, c2, rfl, _, _, _⟩ := own_shape p1.row; have HP := Lib.hid (And.intro p1 (And.intro p2 (HB1.out.trans (lower' p3 HB1.out.size)))); clear p1 p2 p3 HRG)
      clear hcv
      obtain ⟨l, hl⟩ : ∃ l, l = rngL preO [] 1000 L0 := ⟨_, rfl⟩
      obtain ⟨M, hM⟩ : ∃ M, M = P.length := ⟨_, rfl⟩
      have hPl : prL P = l := by rw [HP.out.2.1, hl]
      have hsub : l.Sublist L0 := by rw [hl]; exact rng_sub (by have := HC.out.2.1; omega) _ _
      have hMl : M = l.length := by rw [hM, ← prL_len, hPl]
      have hM240 : M ≤ 240 := by rw [hMl]; exact Nat.le_trans hsub.length_le HC.out.2.1
      have hMI : (M : Int) ≤ 240 := by omega
      rw [← hM]
      have HM := Lib.hid (And.intro hM (And.intro hPl (And.intro hsub (And.intro hMl hl))))
      clear hM hPl hsub hMl hl hM240
      obtain ⟨B2, hB2⟩ : ∃ B, B = (wc.alloc (.cells #[.int .u8 255, .int .u8 255, .int .u8 45] 5 (3, 4))).heap.size := ⟨_, rfl⟩
      have hPrs := HP.out.1
      rw [← hB2] at hPrs
      have HPP := Lib.hid hPrs
      clear hPrs hB2
      go_loopw [86] (fun i wr => ∃ (k : Nat) (LB : List Pr), k ≤ M ∧ i = .int .i64 (k : Int) ∧ Two wr W0.heap.size W0.heap.size pb LA LB ∧ LB.length ≤ 240 ∧ InD (ksO K N) L0 l k LB ∧ Prs wr B2 (.slice A2 P.length c2) P ∧ Below W0.heap.size W0 wr)
        (fun i _ => M - (intOf i).toNat)
      case atStart => exact ⟨0, L0, by omega, rfl, HC.out.1.below HP.out.2.2, HC.out.2.1, inD_start _ _ _, HPP.out, HC.out.2.2.2.trans (lower' HP.out.2.2 HC.out.2.2.2.size)⟩
      case round =>
        obtain ⟨k, LB, hk, rfl, hT2, hB, iD, hP, hb⟩ := hrel
        by_cases hkM : k < M
        · have hkI : (k : Int) < (M : Int) := by omega
          have hkP : k < P.length := by have := HM.out.1; omega
          have hkl : k < l.length := by have := HM.out.2.2.2.1; omega
          obtain ⟨ab, ao, rfl, hpc⟩ := prs_at hP hkP
          obtain ⟨c0, c1, o0, o1⟩ := hpc wr (Below.refl _ _)
          have hlk : l[k].1 = P[k].1.l := by
            have h1 := prL_at hkP
            rw [HM.out.2.1, List.getElem?_eq_getElem hkl] at h1
            injection h1 with h1
            rw [h1]
          have hin := inA_has (by rw [ksO_len H0.out.2.2.2.1]; exact HL.out.2.2.2.1) P[k].1.l
          have hkeep : P[k].1.l ∈ ksO K N → InD (ksO K N) L0 l (k + 1) LB := fun h => inD_keep iD hkl (by rw [hlk]; exact h)
          have hdel : P[k].1.l ∉ ksO K N → InD (ksO K N) L0 l (k + 1) (delL P[k].1.l LB) ∧ getL P[k].1.l LB ≠ none := fun h => by
            have h1 := inD_del iD hkl (by rw [hlk]; exact h) (HC.out.1.right.ris.sublist HM.out.2.2.1) HC.out.1.right.ris HM.out.2.2.1
            rw [hlk] at h1
            exact h1
          generalize P[k].1 = pk at c0 o0 hin hkeep hdel
          generalize P[k].2 = pv at c1 o1
          have HX := Lib.hid (And.intro hT2 (And.intro hB (And.intro hP (And.intro hb (And.intro hkM (And.intro hkeep hdel))))))
          clear hT2 hB iD hP hb hkM hkeep hdel hlk hkl hkP hpc hk
          go_upto_region 20 with (fail)
          obtain ⟨wx, hwx, hcells, okx, ovx, hbx⟩ := box_pair pk pv o0 o1
          rw [← hwx]
          obtain ⟨e0, e1⟩ := hcells wx (Below.refl _ _)
          have hTx := HX.out.1.below hbx
          have hPx := HX.out.2.2.1.below hbx
          have hWx : Below W0.heap.size W0 wx := HX.out.2.2.2.1.trans (lower' hbx HX.out.2.2.2.1.size)
          have hget := tget_any hTx.left pk _ okx.1.1
          have hcl := hcells
          generalize wr.heap.size = bp at hcells e0 e1 ⊢
          rcases hin with ⟨m1, m2⟩ | ⟨m1, m2⟩
          · have hg : Calls Try.prog 15 #[.pointer (some ⟨W0.heap.size, 0, none⟩), .slice pk.A pk.l.length pk.c] wx (fun e w' => ∃ v : Bs, e = .returned (.tuple #[.slice v.A v.l.length v.c, .bool true]) ∧ Below wx.heap.size wx w') := hget.mono (by
              rintro e w' (⟨h0, _⟩ | ⟨v, _, he, _, _, h3⟩)
              · rw [m2] at h0; cases h0
              · exact ⟨v, he, h3⟩)
            have HG := Lib.hid hg
            have HY := Lib.hid (And.intro hTx (And.intro hPx (And.intro hWx m1)))
            clear hg hget hTx hPx hWx m1 m2 hwx hcells hcl okx ovx hbx c0 c1 o0 o1
            go_wp2_with (go_at_call 15; (with_reducible refine HG.out.mono ?_); rintro e w9 ⟨v, rfl, q1⟩; have H9 := Lib.hid q1; clear q1 HG)
            exact ⟨⟨k + 1, LB, by have := HX.out.2.2.2.2.1; omega, by simp, HY.out.1.below H9.out, HX.out.2.1, HX.out.2.2.2.2.2.1 HY.out.2.2.2, HY.out.2.1.below H9.out, HY.out.2.2.1.trans (lower' H9.out HY.out.2.2.1.size)⟩, by simp [intOf]; have := HX.out.2.2.2.2.1; omega⟩
          · have hg : Calls Try.prog 15 #[.pointer (some ⟨W0.heap.size, 0, none⟩), .slice pk.A pk.l.length pk.c] wx (fun e w' => e = .returned (.tuple #[.slice none 0 0, .bool false]) ∧ wx = w') := hget.mono (by
              rintro e w' (⟨_, he, h1⟩ | ⟨v, h0, _⟩)
              · exact ⟨he, h1⟩
              · rw [m2] at h0; cases h0)
            obtain ⟨d1, d2⟩ := HX.out.2.2.2.2.2.2 m1
            have hdl := two_del hTx.swap pk _ okx.1.1 hWx.size (by have := HX.out.2.1; omega)
            rw [show decide ((delL pk.l LB).length < LB.length) = true from decide_eq_true (delL_less d2)] at hdl
            have HG := Lib.hid hg
            have HD := Lib.hid hdl
            have HY := Lib.hid (And.intro hPx (And.intro hWx d1))
            clear hg hget hTx hPx hWx m1 m2 hwx hcells hcl okx ovx hbx c0 c1 o0 o1 d1 d2 hdl
            go_wp2_with (first
              | (go_at_call 15; (with_reducible refine HG.out.mono ?_); rintro e w9 ⟨rfl, rfl⟩; clear HG)
              | (go_at_call 16; (with_reducible refine HD.out.mono ?_); rintro e w9 ⟨rfl, q1, q2, q3⟩; have H9 := Lib.hid (And.intro q1 (And.intro q2 q3)); clear q1 q2 q3 HD))
            exact ⟨⟨k + 1, _, by have := HX.out.2.2.2.2.1; omega, by simp, H9.out.1.swap, Nat.le_trans (delL_le _ _) HX.out.2.1, HY.out.2.2, H9.out.2.2.prs HY.out.1, HY.out.2.1.trans H9.out.2.1⟩, by simp [intOf]; have := HX.out.2.2.2.2.1; omega⟩
        · have hkI : ¬ (k : Int) < (M : Int) := by omega
          have hkE : k = M := by omega
          subst hkE
          have hEq : LA = LB := by
            have h1 := ksO_len H0.out.2.2.2.1
            refine order_last (ks := ksO K N) (T := T) (L0 := L0) (by rw [h1]; exact HL.out.2.2.2.1) (by rw [h1]; exact HC.out.2.2.1) hT2.left.ris HC.out.1.right.ris hT2.right.ris (by have := HC.out.2.1; omega) ?_
            have h2 := HM.out.2.2.2.2
            have h3 := HM.out.2.2.2.1
            rw [← h2, ← h3]
            exact iD
          subst hEq
          obtain ⟨M2, hM2⟩ : ∃ M, M = LA.length := ⟨_, rfl⟩
          have hr1 := range_all hT2.left (by omega)
          have hr2 : ∀ W, Below wr.heap.size wr W → Calls Try.prog 12 #[.pointer (some ⟨pb, 0, none⟩), .slice none 0 0, .slice none 0 0, .int .i64 1000] W fun e w' => ∃ (A : Option Addr) (c : Nat) (P : List (Bs × Bs)), e = .returned (.slice A LA.length c) ∧ Prs w' W.heap.size (.slice A P.length c) P ∧ prL P = LA ∧ P.length = LA.length ∧ Below W.heap.size W w' := fun W hW => range_all (hT2.right.below hW) (by omega)
          rw [← hM2] at hr1
          have hM2I : (M2 : Int) ≤ 240 := by omega
          have HR1 := Lib.hid hr1
          have HR2 := Lib.hid hr2
          have HM2 := Lib.hid hM2
          have HX := Lib.hid hb
          clear hT2 hB iD hP hb hk hkM hr1 hr2 hM2
          go_upto_region 25 with (first
            | (go_at_call 12; (with_reducible refine HR1.out.mono ?_); rintro e we ⟨A5, c5, Q1, rfl, p1, p2, p3, p4⟩; have hr3 := HR2.out we p4; rw [← HM2.out] at hr3; have HR3 := Lib.hid hr3; have HQ1 := Lib.hid (And.intro p1 (And.intro p2 (And.intro p3 p4))); clear p1 p2 p3 p4 hr3 HR1)
            | (go_at_call 12; (with_reducible refine HR3.out.mono ?_); rintro e wf ⟨A6, c6, Q2, rfl, p1, p2, p3, p4⟩; have HQ2 := Lib.hid (And.intro p1 (And.intro p2 (And.intro p3 p4))); clear p1 p2 p3 p4 HR3))
          have HSAME := Lib.hid (HQ1.out.2.1.trans HQ2.out.2.1.symm)
          have HMM := Lib.hid (show M2 ≤ Q1.length ∧ M2 ≤ Q2.length from ⟨by have := HQ1.out.2.2.1; omega, by have := HQ2.out.2.2.1; omega⟩)
          have HBP := Lib.hid (fun W (h : Below wf.heap.size wf W) => HQ2.out.2.2.2.trans (lower' h HQ2.out.2.2.2.size))
          have HBQ := Lib.hid (fun W (h : Below wf.heap.size wf W) => h)
          have HEND := Lib.hid (fun W (h : Below wf.heap.size wf W) => H0.out.1.trans (lower' (HX.out.trans (lower' (HQ1.out.2.2.2.trans (lower' (HBP.out W h) HQ1.out.2.2.2.size)) HX.out.size)) H0.out.1.size))
          go_wp2_with (fail)
          go_loopw [118] (fun i wr => ∃ k : Nat, k ≤ M2 ∧ i = .int .i64 (k : Int) ∧ Below wf.heap.size wf wr)
            (fun i _ => M2 - (intOf i).toNat)
          case atStart => exact ⟨0, by omega, rfl, Below.refl _ _⟩
          case round =>
            obtain ⟨k, hk, rfl, hb⟩ := hrel
            by_cases hkM : k < M2
            · have hkI : (k : Int) < (M2 : Int) := by omega
              have hkP : k < Q1.length := by have := HMM.out.1; omega
              have hkQ : k < Q2.length := by have := HMM.out.2; omega
              obtain ⟨pb, po, rfl, hpc⟩ := prs_at HQ1.out.1 hkP
              obtain ⟨qb, qo, rfl, hqc⟩ := prs_at HQ2.out.1 hkQ
              obtain ⟨s1, s2⟩ := prL_same HSAME.out hkP hkQ
              obtain ⟨c0, c1, o0, o1⟩ := hpc wr (HBP.out _ hb)
              obtain ⟨d0, d1, u0, u1⟩ := hqc wr (HBQ.out _ hb)
              generalize Q1[k].1 = pk at c0 o0 s1
              generalize Q1[k].2 = pv at c1 o1 s2
              generalize Q2[k].1 = qk at d0 u0 s1
              generalize Q2[k].2 = qv at d1 u1 s2
              have hs1 : ∀ n, (convert 27 9 (.slice pk.A pk.l.length pk.c)).run Try.prog (wr.drewN n) = .ok (.string ⟨pk.l.toArray⟩) (wr.drewN n) := fun n => strAt (o0.1.1.drewN n) rfl
              have hs2 : ∀ n, (convert 27 9 (.slice pv.A pv.l.length pv.c)).run Try.prog (wr.drewN n) = .ok (.string ⟨pv.l.toArray⟩) (wr.drewN n) := fun n => strAt (o1.1.1.drewN n) rfl
              have hs3 : ∀ n, (convert 27 9 (.slice qk.A qk.l.length qk.c)).run Try.prog (wr.drewN n) = .ok (.string ⟨qk.l.toArray⟩) (wr.drewN n) := fun n => strAt (u0.1.1.drewN n) rfl
              have hs4 : ∀ n, (convert 27 9 (.slice qv.A qv.l.length qv.c)).run Try.prog (wr.drewN n) = .ok (.string ⟨qv.l.toArray⟩) (wr.drewN n) := fun n => strAt (u1.1.1.drewN n) rfl
              have e1 : (pk.l == qk.l) = true := by rw [s1]; simp
              have e2 : (qk.l == pk.l) = true := by rw [s1]; simp
              have e3 : (pv.l == qv.l) = true := by rw [s2]; simp
              have e4 : (qv.l == pv.l) = true := by rw [s2]; simp
              have HX := Lib.hid (And.intro hb hkM)
              clear hpc hqc o0 o1 u0 u1 s1 s2 hb hk hkM hkP hkQ
              go_upto_region 30 with (fail)
              go_quiet (fail)
              go_wp2_with (fail)
              exact ⟨⟨k + 1, HX.out.2, by simp, Below.drewN' HX.out.1 nq⟩, by simp [intOf]; have := HX.out.2; omega⟩
            · have hkI : ¬ (k : Int) < (M2 : Int) := by omega
              have HX := Lib.hid hb
              clear hb hk hkM
              go_wp2_with (fail)
              go_ret
              exact ⟨rfl, HEND.out _ HX.out⟩
    case first =>
      go_wp2_with (fail)
      go_loopw [11] (fun i wr => ∃ (k : Nat) (LB : List Pr), k ≤ N ∧ i = .int .i64 (k : Int) ∧ Two wr W0.heap.size W0.heap.size pb LA LB ∧ LB.length ≤ 160 + k ∧ InC (ksO K N) T k LB ∧ Below W0.heap.size W0 wr ∧ wr.heap[bn]? = some (.cells #[.int .i64 (N : Int)] 3 (0, 0)))
        (fun i _ => N - (intOf i).toNat)
      case atStart => exact ⟨0, LB, by omega, rfl, HL.out.1, HL.out.2.2.1, inC_start HL.out.2.2.2.2.1 T, HL.out.2.2.2.2.2.1, HL.out.2.2.2.2.2.2⟩
      case round =>
        obtain ⟨k, L2, hk, rfl, hT2, hB, iC, hb, hbn⟩ := hrel
        have cn := cell_of_row wr bn 0 _ _ _ hbn
        by_cases hkN : k < N
        · have hkI : (k : Int) < (N : Int) := by omega
          have hk80 : (k : Int) ≤ 80 := by have := H0.out.2.2.2.2; omega
          have hbw : Below w.heap.size w wr := H0.out.1.trans (lower' hb H0.out.1.size)
          have hord : ∀ W, Below wr.heap.size wr W → Calls Try.prog 13 #[.int .i64 (k : Int), .pointer (some ⟨w.heap.size, 0, none⟩), .pointer (some ⟨w.heap.size + 1, 0, none⟩), .pointer (some ⟨bn, 0, none⟩)] W fun e w' => ∃ r : Bs, e = .returned (.slice r.A r.l.length r.c) ∧ r.l = atK (ksO K N) T k ∧ Rd W w.heap.size r.A (u8s r.l) ∧ r.l.length ≤ 50 ∧ Below W.heap.size W w' := fun W hW => by
            obtain ⟨ck, ct⟩ := H0.out.2.1 W (hb.trans (lower' hW hb.size))
            have hwW : Below w.heap.size w W := hbw.trans (lower' hW hbw.size)
            exact ordAt A K c turn N k T w.heap.size (w.heap.size + 1) bn w.heap.size W ck ct (cell_of_row W bn 0 _ _ _ ((hW.block bn (heap_lt hbn)).trans hbn)) (HR.out.1.below hwW (Nat.le_refl _)) (fun r h => (HR.out.2 r h).below hwW (Nat.le_refl _)) H0.out.2.2.2.1 H0.out.2.2.2.2 hkN HTT.out.1 HTT.out.2.1 HTT.out.2.2
          have hput : ∀ (w5 w6 : World) (r5 r6 : Bs), Rd wr w.heap.size r5.A (u8s r5.l) → r5.l.length ≤ 50 → Rd w5 w.heap.size r6.A (u8s r6.l) → r6.l.length ≤ 50 → Below wr.heap.size wr w5 → Below w5.heap.size w5 w6 → Calls Try.prog 14 #[.pointer (some ⟨pb, 0, none⟩), .slice r5.A r5.l.length r5.c, .slice r6.A r6.l.length r6.c] w6 (fun e w' => ∃ z, e = .returned (.bool z) ∧ Two w' W0.heap.size W0.heap.size pb LA (insL r5.l r6.l L2) ∧ Below W0.heap.size W0 w' ∧ w'.heap[bn]? = some (.cells #[.int .i64 (N : Int)] 3 (0, 0))) := by
            intro w5 w6 r5 r6 a1 a2 a3 a4 a5 a6
            have hb9 : Below wr.heap.size wr w6 := a5.trans (lower' a6 a5.size)
            have hW9 := hb.trans (lower' hb9 hb.size)
            have hbn9 := (hb9.block bn (heap_lt hbn)).trans hbn
            refine (two_put (hT2.below hb9).swap r5 r6 w.heap.size (a1.below hb9 hbw.size) (a3.below a6 (Nat.le_trans hbw.size a5.size)) (Nat.le_trans hbw.size hb9.size) (by omega) (by omega) hW9.size (by have := H0.out.2.2.2.2; omega)).mono ?_
            rintro e w' ⟨rfl, p1, p2, p3⟩
            exact ⟨_, rfl, p1.swap, hW9.trans p2, p3.block hbn9 (by decide) (by decide)⟩
          have HORD := Lib.hid hord
          have HORD1 := Lib.hid (hord wr (Below.refl _ _))
          have HPUT := Lib.hid hput
          have HX := Lib.hid (And.intro hB (And.intro iC (And.intro hT2.right.ris hkN)))
          clear hord hput hT2 hB iC hb hbn hbw hk hkN
          go_wp2_with (first
            | (go_at_call 13; (with_reducible refine HORD1.out.mono ?_); rintro e w5 ⟨r5, rfl, a1, a2, a3, a4⟩; have HORD2 := Lib.hid (HORD.out w5 a4); have H5 := Lib.hid (And.intro a1 (And.intro a2 (And.intro a3 a4))); clear a1 a2 a3 a4 HORD1)
            | (go_at_call 13; (with_reducible refine HORD2.out.mono ?_); rintro e w6 ⟨r6, rfl, a1, a2, a3, a4⟩; have HP3 := Lib.hid (HPUT.out w5 w6 r5 r6 H5.out.2.1 H5.out.2.2.1 a2 a3 H5.out.2.2.2 a4); have H6 := Lib.hid a1; clear a1 a2 a3 a4 HORD2)
            | (go_at_call 14; (with_reducible refine HP3.out.mono ?_); rintro e w9 ⟨z, rfl, p1, p2, p3⟩; have H9 := Lib.hid (And.intro p1 (And.intro p2 p3)); clear p1 p2 p3 HP3))
          have iC' := inC_step HX.out.2.1 HX.out.2.2.1 (by rw [ksO_len H0.out.2.2.2.1]; exact HX.out.2.2.2)
          have hT9 := H9.out.1
          rw [H5.out.1, H6.out] at hT9
          have hl := insL_len (k := atK (ksO K N) T k) (v := atK (ksO K N) T k) L2
          have hB := HX.out.1
          have hkN := HX.out.2.2.2
          exact ⟨⟨k + 1, _, by omega, by simp, hT9, by omega, iC', H9.out.2.1, H9.out.2.2⟩, by simp [intOf]; omega⟩
        · have hkI : ¬ (k : Int) < (N : Int) := by omega
          have hkE : k = N := by omega
          subst hkE
          have HX := Lib.hid (And.intro hT2 (And.intro hB (And.intro iC hb)))
          clear hT2 hB iC hb hbn hk hkN
          go_wp2_with (fail)
          go_meet
          case rel => exact ⟨L2, HX.out.1, by have := HX.out.2.1; have := H0.out.2.2.2.2; omega, HX.out.2.2.1, HX.out.2.2.2⟩
  case first =>
    go_wp2_with (fail)
    go_loopw [9] (fun i wr => ∃ (k : Nat) (LA LB : List Pr), k ≤ N ∧ i = .int .i64 (k : Int) ∧ Two wr W0.heap.size W0.heap.size pb LA LB ∧ LA.length ≤ k ∧ LB.length ≤ 2 * k ∧ InA (ksO K N) k LA ∧ InB (ksO K N) LB ∧ Below W0.heap.size W0 wr ∧ wr.heap[bn]? = some (.cells #[.int .i64 (N : Int)] 3 (0, 0)))
      (fun i _ => N - (intOf i).toNat)
    case atStart => exact ⟨0, [], [], by omega, rfl, H4.out.1, by simp, by simp, inA_start _, inB_start _, H4.out.2.1, H4.out.2.2⟩
    case round =>
      obtain ⟨k, LA, LB, hk, rfl, hT2, hA, hB, iA, iB, hb, hbn⟩ := hrel
      have cn := cell_of_row wr bn 0 _ _ _ hbn
      by_cases hkN : k < N
      · have hkI : (k : Int) < (N : Int) := by omega
        have hk80 : (k : Int) ≤ 80 := by have := H0.out.2.2.2.2; omega
        have hkl : k < K.length := by have := H0.out.2.2.2.1; omega
        have hkK : (k : Int) < (K.length : Int) := by omega
        obtain ⟨ck, ct⟩ := H0.out.2.1 wr hb
        have hbw : Below w.heap.size w wr := H0.out.1.trans (lower' hb H0.out.1.size)
        have hkey : (ksO K N)[k]'(by rw [ksO_len H0.out.2.2.2.1]; exact hkN) = K[k].l.take 50 := ksO_at _ hkl
        have iA1 := inA_step iA hT2.left.ris (by rw [ksO_len H0.out.2.2.2.1]; exact hkN)
        rw [hkey] at iA1
        have hmem : K[k].l.take 50 ∈ ksO K N := by rw [← hkey]; exact List.getElem_mem _
        obtain ⟨r, hre⟩ : ∃ r, r = K[k] := ⟨_, rfl⟩
        rw [← hre] at iA1 hmem
        have hro : r.ok w w.heap.size := by rw [hre]; exact HR.out.2 _ (List.getElem_mem hkl)
        obtain ⟨ab, ao, eA, hab, hcell⟩ := HR.out.1.get (k := k) (by simpa using hkl)
        have hrow : wr.cell? ⟨ab, ao + k, none⟩ = some (.slice r.A r.l.length r.c) := by
          have h := hcell
          simp only [List.getElem_map, ← hre] at h
          exact (hbw.cell (p := ⟨ab, ao + k, none⟩) hab).trans h
        have HEA := Lib.hid eA
        rw [eA] at ck
        clear hre hcell hkey
        obtain ⟨rA, rl, rc⟩ := r
        have hlc : (rl.length : Int) ≤ (rc : Int) := by have h : rl.length ≤ rc := hro.2.1; omega
        have hcb : (rc : Int) ≤ 140737488351232 := by have h : rc ≤ 140737488351232 := hro.2.2; omega
        obtain ⟨m, hm⟩ : ∃ m : Nat, (if (50 : Int) < (rl.length : Int) then (50 : Int) else (rl.length : Int)) = (m : Int) := ⟨min rl.length 50, by split <;> omega⟩
        have hmI : (m : Int) ≤ (rc : Int) := by rw [← hm]; split <;> omega
        have hd4 : (rl.take 50).length = m := by rw [List.length_take]; split at hm <;> omega
        have hm50 : m ≤ 50 := by rw [← hd4, List.length_take]; omega
        obtain ⟨key, hkeyE⟩ : ∃ key, key = rl.take 50 := ⟨_, rfl⟩
        rw [← hkeyE] at hd4
        have hrd : Rd w w.heap.size rA (u8s key) := by rw [hkeyE, u8s_take]; exact hro.1.take 50
        have iA1' : InA (ksO K N) (k + 1) (insL key key LA) := by rw [hkeyE]; exact iA1
        have hmem' : key ∈ ksO K N := by rw [hkeyE]; exact hmem
        have HX := Lib.hid (And.intro hT2 (And.intro hA (And.intro hB (And.intro iA1' (And.intro iB (And.intro hb (And.intro hbn (And.intro hmem' (And.intro hd4 (And.intro hrd (And.intro hkl hm50)))))))))))
        clear hT2 hA hB iA1 iA1' iA iB hb hbn hmem hmem' hd4 hrd hkl hbw hro hkeyE hk hkN hab eA hm50
        go_upto_region 9 with (fail)
        go_quiet (fail)
        have hbq : Below wr.heap.size wr (wr.drewN nq) := Below.drewN' (Below.refl _ _) nq
        have hTq := HX.out.1.below hbq
        have hbq2 : Below W0.heap.size W0 (wr.drewN nq) := Below.drewN' HX.out.2.2.2.2.2.1 nq
        have hbnq : (wr.drewN nq).heap[bn]? = some (.cells #[.int .i64 (N : Int)] 3 (0, 0)) := (hbq.block bn (heap_lt HX.out.2.2.2.2.2.2.1)).trans HX.out.2.2.2.2.2.2.1
        generalize wr.drewN nq = wq at hTq hbq2 hbnq ⊢
        have hwq : Below w.heap.size w wq := H0.out.1.trans (lower' hbq2 H0.out.1.size)
        have hput : Calls Try.prog 14 #[.pointer (some ⟨W0.heap.size, 0, none⟩), .slice rA m rc, .slice rA m rc] wq _ := HX.out.2.2.2.2.2.2.2.2.1 ▸ two_put hTq ⟨rA, key, rc⟩ ⟨rA, key, rc⟩ w.heap.size (HX.out.2.2.2.2.2.2.2.2.2.1.below hwq (Nat.le_refl _)) (HX.out.2.2.2.2.2.2.2.2.2.1.below hwq (Nat.le_refl _)) hwq.size (by show key.length ≤ _; have := HX.out.2.2.2.2.2.2.2.2.1; have := HX.out.2.2.2.2.2.2.2.2.2.2.2; omega) (by show key.length ≤ _; have := HX.out.2.2.2.2.2.2.2.2.1; have := HX.out.2.2.2.2.2.2.2.2.2.2.2; omega) hbq2.size (by have := HX.out.2.1; have := H0.out.2.2.2.2; omega)
        have HPUT := Lib.hid hput
        have HQ := Lib.hid (And.intro hbq2 hbnq)
        clear hput hTq hbq2 hbnq hbq hwq hrow hm hmI hlc ck ct cn
        go_upto_region 11 with (go_at_call 14; (with_reducible refine HPUT.out.mono ?_); rintro e w5 ⟨rfl, p1, p2, p3⟩; have H5 := Lib.hid (And.intro (show Two w5 W0.heap.size W0.heap.size pb (insL key key LA) LB from p1) (And.intro (HQ.out.1.trans p2) (p3.block HQ.out.2 (by decide) (by decide)))); clear p1 p2 p3 HPUT)
        have hw5 : Below w.heap.size w w5 := H0.out.1.trans (lower' H5.out.2.1 H0.out.1.size)
        obtain ⟨r6, w6, hrun, hr6, hrd6, hb6⟩ := append_pre w5 rA key rc w.heap.size (HX.out.2.2.2.2.2.2.2.2.2.1.below hw5 (Nat.le_refl _)) hw5.size (by have := HX.out.2.2.2.2.2.2.2.2.1; have := HX.out.2.2.2.2.2.2.2.2.2.2.2; omega) m HX.out.2.2.2.2.2.2.2.2.1.symm
        have hcv := conv_three w5 255 255 45
        have hT6 := H5.out.1.below hb6
        have hW6 : Below W0.heap.size W0 w6 := H5.out.2.1.trans (lower' hb6 H5.out.2.1.size)
        have hbn6 := (hb6.block bn (heap_lt H5.out.2.2)).trans H5.out.2.2
        have hput2 : Calls Try.prog 14 #[.pointer (some ⟨pb, 0, none⟩), .slice r6.A r6.l.length r6.c, .slice none 0 0] w6 _ := two_put hT6.swap r6 ⟨none, [], 0⟩ w6.heap.size hrd6 (Rd.emp _ _ _) (Nat.le_refl _) (by rw [hr6]; simp [preO]; have := HX.out.2.2.2.2.2.2.2.2.1; have := HX.out.2.2.2.2.2.2.2.2.2.2.2; omega) (by simp) hW6.size (by have := HX.out.2.2.1; have := H0.out.2.2.2.2; omega)
        have HPUT2 := Lib.hid hput2
        have H6 := Lib.hid (And.intro hW6 (And.intro hbn6 hr6))
        clear hput2 hT6 hW6 hbn6 hr6 hrd6 hb6 hw5
        go_upto_region 12 with (first
          | (at_builtin; refine wpList_appK _ rfl (.tmp 57) (.tmp 58) _ rfl rfl _ _ _ _ rfl rfl hrun ?_)
          | (go_at_call 14; (with_reducible refine HPUT2.out.mono ?_); rintro e w7 ⟨rfl, p1, p2, p3⟩; have H7 := Lib.hid (And.intro (show Two w7 W0.heap.size W0.heap.size pb (insL key key LA) (insL r6.l [] LB) from p1.swap) (And.intro (H6.out.1.trans p2) (p3.block H6.out.2.1 (by decide) (by decide)))); clear p1 p2 p3 HPUT2))
        clear hrun hcv
        have hw7 : Below w.heap.size w w7 := H0.out.1.trans (lower' H7.out.2.1 H0.out.1.size)
        obtain ⟨ck, ct⟩ := H0.out.2.1 w7 H7.out.2.1
        have cn := cell_of_row w7 bn 0 _ _ _ H7.out.2.2
        have hord := ordAt A K c turn N k T w.heap.size (w.heap.size + 1) bn w.heap.size w7 ck ct cn (HR.out.1.below hw7 (Nat.le_refl _)) (fun r h => (HR.out.2 r h).below hw7 (Nat.le_refl _)) H0.out.2.2.2.1 H0.out.2.2.2.2 (by omega) HTT.out.1 HTT.out.2.1 HTT.out.2.2
        have hput3 : ∀ (w8 : World) (r8 : Bs), Rd w7 w.heap.size r8.A (u8s r8.l) → r8.l.length ≤ 50 → Below w7.heap.size w7 w8 → Calls Try.prog 14 #[.pointer (some ⟨pb, 0, none⟩), .slice r8.A r8.l.length r8.c, .slice (some ⟨w8.heap.size, 0, none⟩) 5 5] (w8.alloc (.cells #[.int .u8 111, .int .u8 116, .int .u8 104, .int .u8 101, .int .u8 114] 5 (5, 6))) (fun e w' => ∃ z, e = .returned (.bool z) ∧ Two w' W0.heap.size W0.heap.size pb (insL key key LA) (insL r8.l [111, 116, 104, 101, 114] (insL r6.l [] LB)) ∧ Below W0.heap.size W0 w' ∧ w'.heap[bn]? = some (.cells #[.int .i64 (N : Int)] 3 (0, 0))) := by
          intro w8 r8 a1 a2 a3
          have hb9 : Below w7.heap.size w7 (w8.alloc (.cells #[.int .u8 111, .int .u8 116, .int .u8 104, .int .u8 101, .int .u8 114] 5 (5, 6))) := a3.alloc a3.size _
          have hW9 := H7.out.2.1.trans (lower' hb9 H7.out.2.1.size)
          have hbn9 := (hb9.block bn (heap_lt H7.out.2.2)).trans H7.out.2.2
          refine (two_put (H7.out.1.below hb9).swap r8 ⟨some ⟨w8.heap.size, 0, none⟩, [111, 116, 104, 101, 114], 5⟩ (w8.heap.size + 1) ((a1.below hb9 hw7.size).more (by have := hw7.size; have := a3.size; omega)) (Rd.new w8 #[.int .u8 111, .int .u8 116, .int .u8 104, .int .u8 101, .int .u8 114] 5 (5, 6)) (by simp) (by omega) (by simp) hW9.size (by have := insL_len (k := r6.l) (v := []) LB; have := HX.out.2.2.1; have := H0.out.2.2.2.2; omega)).mono ?_
          rintro e w' ⟨rfl, p1, p2, p3⟩
          exact ⟨_, rfl, p1.swap, hW9.trans p2, p3.block hbn9 (by decide) (by decide)⟩
        have HORD := Lib.hid hord
        have HPUT3 := Lib.hid hput3
        clear hord hput3 hw7 cn ck ct
        go_wp2_with (first
          | (go_at_call 13; (with_reducible refine HORD.out.mono ?_); rintro e w8 ⟨r8, rfl, a1, a2, a3, a4⟩; have hcv := conv_five w8 111 116 104 101 114; have HPUT4 := Lib.hid (HPUT3.out w8 r8 a2 a3 a4); have H8 := Lib.hid a1; clear a1 a2 a3 a4 HORD)
          | (go_at_call 14; (with_reducible refine HPUT4.out.mono ?_); rintro e w9 ⟨z, rfl, p1, p2, p3⟩; have H9 := Lib.hid (And.intro p1 (And.intro p2 p3)); clear p1 p2 p3 HPUT4))
        have hB6 : InB (ksO K N) (insL r6.l [] LB) := by rw [H6.out.2.2]; exact inB_pre HX.out.2.2.2.2.1 HX.out.1.right.ris key []
        have hB8 : InB (ksO K N) (insL r8.l [111, 116, 104, 101, 114] (insL r6.l [] LB)) := inB_key hB6 H7.out.1.right.ris (by rw [H8.out]; exact atK_mem (by rw [ksO_len H0.out.2.2.2.1]; omega)) _
        have hl1 := insL_len (k := key) (v := key) LA
        have hl2 := insL_len (k := r6.l) (v := []) LB
        have hl3 := insL_len (k := r8.l) (v := [111, 116, 104, 101, 114]) (insL r6.l [] LB)
        have hA9 := HX.out.2.1
        have hB9 := HX.out.2.2.1
        exact ⟨⟨k + 1, _, _, by omega, by simp, H9.out.1, by omega, by omega, HX.out.2.2.2.1, hB8, H9.out.2.1, H9.out.2.2⟩, by simp [intOf]; omega⟩
      · have hkI : ¬ (k : Int) < (N : Int) := by omega
        have hkE : k = N := by omega
        subst hkE
        have HX := Lib.hid (And.intro hT2 (And.intro hA (And.intro hB (And.intro iA (And.intro iB (And.intro hb hbn))))))
        clear hT2 hA hB iA iB hb hbn hk hkN
        go_wp2_with (fail)
        go_meet
        case rel => exact ⟨LA, LB, HX.out.1, by have := HX.out.2.1; have := H0.out.2.2.2.2; omega, by have := HX.out.2.2.1; have := H0.out.2.2.2.2; omega, HX.out.2.2.2.1, HX.out.2.2.2.2.1, HX.out.2.2.2.2.2.1, HX.out.2.2.2.2.2.2⟩
end Go.Proofs.Ytclkpoobbbnkjaa
