/- TreeApart: the walk. -/
import Derived.Test.YtclkpoobbbnkjaaTreU
import Derived.Test.YtclkpoobbbnkjaaTreT
import Derived.IntWalk
import Derived.Deep.CutRange
import Derived.Deep.CutBlock
namespace Go.Proofs.Ytclkpoobbbnkjaa
open Go.RowKit Go.Maps

set_option maxRecDepth 100000 in
set_option maxHeartbeats 4000000 in
theorem treeApart_walk (A : Option Addr) (K : List RowB) (c : Nat) (A1 : Option Addr) (K1 : List RowB) (c1 : Nat) (w : World) (hr : Rd w w.heap.size A (K.map RowB.v)) (hk : ∀ r ∈ K, r.ok w w.heap.size)
    (hr1 : Rd w w.heap.size A1 (K1.map RowB.v)) (hk1 : ∀ r ∈ K1, r.ok w w.heap.size) :
    Calls Try.prog 5 #[.slice A K.length c, .slice A1 K1.length c1] w fun e w' => e = .returned (.bool true) ∧ Below w.heap.size w w' := by
  have hnew := tnew_any w w.heap.size (Nat.le_refl _)
  have HNEW := Lib.hid hnew
  have HAW := Lib.hid (fun W => treeAwake_any W)
  have HR := Lib.hid (And.intro hr hk)
  have HR1 := Lib.hid (And.intro hr1 hk1)
  clear hnew hr hk hr1 hk1
  go_enter Try.func5, Try.ntmps5
  go_upto_region 2 with (go_at_call 7; (with_reducible refine HNEW.out.mono ?_); rintro e w1 ⟨rfl, h1, hb1⟩)
  have H1 := Lib.hid (And.intro h1 hb1)
  clear h1 hb1
  go_upto_region 4 with (go_at_call 8; (with_reducible refine (HAW.out w1).mono ?_); rintro e w2 ⟨rfl, hb2⟩; have H2 := Lib.hid (And.intro (H1.out.1.below hb2) (H1.out.2.trans (lower' hb2 H1.out.2.size))); clear hb2)
  go_upto_block 0 with (fail)
  go_cut [6] from 15 (fun i w' => ∃ L : List Pr, TreeW w' w.heap.size w.heap.size L ∧ L.length ≤ 60 ∧ Below w.heap.size w w')
  case rest =>
    obtain ⟨L, hT, hLn, hb⟩ := hcut
    have hrg := range_all hT (by omega)
    obtain ⟨M, hM⟩ : ∃ M, M = L.length := ⟨_, rfl⟩
    rw [← hM] at hrg
    have HRG := Lib.hid hrg
    have HT := Lib.hid (And.intro hT (And.intro hb (And.intro hLn hM)))
    clear hT hLn hb hrg hM
    go_upto_region 9 with (go_at_call 12; (with_reducible refine HRG.out.mono ?_); rintro e wd ⟨A2, c2, P, rfl, p1, p2, p3, p4⟩; have hT2 := HT.out.1.below p4; have hcl := tclone_any hT2; have HCL := Lib.hid hcl; have HP := Lib.hid (And.intro p1 (And.intro p2 (And.intro p3 (And.intro p4 hT2)))); clear p1 p2 p3 p4 hT2 hcl HRG)
    go_upto_region 10 with (go_at_call 17; (with_reducible refine HCL.out.mono ?_); rintro e we ⟨q, rfl, q1, q2⟩; have HC := Lib.hid (And.intro q1 q2); clear q1 q2 HCL)
    go_upto_block 2 with (fail)
    go_cut [9, 10, 11, 12] from 15 (fun i k p e w' => Below wd.heap.size wd w')
    case rest =>
      have hT3 := HP.out.2.2.2.2.below hcut
      have hrg := range_all hT3 (by have := HT.out.2.2.1; omega)
      rw [← HT.out.2.2.2] at hrg
      have HRG := Lib.hid hrg
      have HC3 := Lib.hid hcut
      clear hT3 hrg hcut
      go_upto_region 23 with (go_at_call 12; (with_reducible refine HRG.out.mono ?_); rintro e wf ⟨A3, c3, Q, rfl, p1, p2, p3, p4⟩; have HQ := Lib.hid (And.intro p1 (And.intro p2 (And.intro p3 p4))); clear p1 p2 p3 p4 HRG)
      have hMI : (M : Int) ≤ 60 := by have := HT.out.2.2.1; have := HT.out.2.2.2; omega
      have hbwf : Below wd.heap.size wd wf := HC3.out.trans (lower' HQ.out.2.2.2 HC3.out.size)
      have HM := Lib.hid (show M ≤ P.length ∧ M ≤ Q.length from ⟨by have := HP.out.2.2.1; have := HT.out.2.2.2; omega, by have := HQ.out.2.2.1; have := HT.out.2.2.2; omega⟩)
      have HSAME := Lib.hid (HP.out.2.1.trans HQ.out.2.1.symm)
      have HBP := Lib.hid (fun W (h : Below wf.heap.size wf W) => hbwf.trans (lower' h hbwf.size))
      have HBQ := Lib.hid (fun W (h : Below wf.heap.size wf W) => h)
      have HEND := Lib.hid (fun W (h : Below wf.heap.size wf W) => HT.out.2.1.trans (lower' (HP.out.2.2.2.1.trans (lower' (HBP.out W h) HP.out.2.2.2.1.size)) HT.out.2.1.size))
      clear hbwf
      go_wp2_with (fail)
      go_loopw [106] (fun i wr => ∃ k : Nat, k ≤ M ∧ i = .int .i64 (k : Int) ∧ Below wf.heap.size wf wr)
        (fun i _ => M - (intOf i).toNat)
      case atStart => exact ⟨0, by omega, rfl, Below.refl _ _⟩
      case round =>
        obtain ⟨k, hk, rfl, hb⟩ := hrel
        by_cases hkM : k < M
        · have hkI : (k : Int) < (M : Int) := by omega
          have hkP : k < P.length := by have := HM.out.1; omega
          have hkQ : k < Q.length := by have := HM.out.2; omega
          obtain ⟨pb, po, rfl, hpc⟩ := prs_at HP.out.1 hkP
          obtain ⟨qb, qo, rfl, hqc⟩ := prs_at HQ.out.1 hkQ
          obtain ⟨s1, s2⟩ := prL_same HSAME.out hkP hkQ
          obtain ⟨c0, c1, o0, o1⟩ := hpc wr (HBP.out _ hb)
          obtain ⟨d0, d1, u0, u1⟩ := hqc wr (HBQ.out _ hb)
          generalize P[k].1 = pk at c0 o0 s1
          generalize P[k].2 = pv at c1 o1 s2
          generalize Q[k].1 = qk at d0 u0 s1
          generalize Q[k].2 = qv at d1 u1 s2
          have hs1 : ∀ n, (convert 27 9 (.slice pk.A pk.l.length pk.c)).run Try.prog (wr.drewN n) = .ok (.string ⟨pk.l.toArray⟩) (wr.drewN n) := fun n => strAt (o0.1.1.drewN n) rfl
          have hs2 : ∀ n, (convert 27 9 (.slice pv.A pv.l.length pv.c)).run Try.prog (wr.drewN n) = .ok (.string ⟨pv.l.toArray⟩) (wr.drewN n) := fun n => strAt (o1.1.1.drewN n) rfl
          have hs3 : ∀ n, (convert 27 9 (.slice qk.A qk.l.length qk.c)).run Try.prog (wr.drewN n) = .ok (.string ⟨qk.l.toArray⟩) (wr.drewN n) := fun n => strAt (u0.1.1.drewN n) rfl
          have hs4 : ∀ n, (convert 27 9 (.slice qv.A qv.l.length qv.c)).run Try.prog (wr.drewN n) = .ok (.string ⟨qv.l.toArray⟩) (wr.drewN n) := fun n => strAt (u1.1.1.drewN n) rfl
          have e1 : (pk.l == qk.l) = true := by rw [s1]; simp
          have e2 : (qk.l == pk.l) = true := by rw [s1]; simp
          have e3 : (pv.l == qv.l) = true := by rw [s2]; simp
          have e4 : (qv.l == pv.l) = true := by rw [s2]; simp
          have HX := Lib.hid (And.intro hb hkM)
          clear hpc hqc o0 o1 u0 u1 s1 s2 hb hk hkM hkP hkQ
          go_upto_region 28 with (fail)
          go_quiet (fail)
          go_wp2_with (fail)
          exact ⟨⟨k + 1, HX.out.2, by simp, Below.drewN' HX.out.1 nq⟩, by simp [intOf]; have := HX.out.2; omega⟩
        · have hkI : ¬ (k : Int) < (M : Int) := by omega
          have HX := Lib.hid hb
          clear hb hk hkM
          go_wp2_with (fail)
          go_ret
          exact ⟨rfl, HEND.out _ HX.out⟩
    case first =>
      go_wp2_with (fail)
      go_loopw [9] (fun i wr => ∃ (k : Nat) (N : List Pr), k ≤ K1.length ∧ k ≤ 60 ∧ i = .int .i64 (k : Int) ∧ TreeW wr wd.heap.size q N ∧ N.length ≤ 60 + k ∧ Below wd.heap.size wd wr)
        (fun i _ => K1.length - (intOf i).toNat)
      case atStart => exact ⟨0, L, by omega, by omega, rfl, HC.out.1, by have := HT.out.2.2.1; omega, HC.out.2⟩
      case round =>
        obtain ⟨k, N, hk, hk3, rfl, hT, hNk, hb⟩ := hrel
        by_cases hgo : k < K1.length ∧ k < 60
        · obtain ⟨hkl, hk9⟩ := hgo
          have hkI : (k : Int) < (K1.length : Int) := by omega
          have hkJ : (k : Int) < 60 := by omega
          have hbw : Below w.heap.size w wr := HT.out.2.1.trans (lower' (HP.out.2.2.2.1.trans (lower' hb HP.out.2.2.2.1.size)) HT.out.2.1.size)
          obtain ⟨r, hre⟩ : ∃ r, r = K1[k] := ⟨_, rfl⟩
          have hro : r.ok wr w.heap.size := by rw [hre]; exact (HR1.out.2 _ (List.getElem_mem hkl)).below hbw (Nat.le_refl _)
          obtain ⟨ab, ao, rfl, hab, hcell⟩ := HR1.out.1.get (k := k) (by simpa using hkl)
          have hrow : wr.cell? ⟨ab, ao + k, none⟩ = some (.slice r.A r.l.length r.c) := by
            have h := hcell
            simp only [List.getElem_map, ← hre] at h
            exact (hbw.cell (p := ⟨ab, ao + k, none⟩) hab).trans h
          clear hre hcell
          obtain ⟨rA, rl, rc⟩ := r
          have hlc : (rl.length : Int) ≤ (rc : Int) := by have h : rl.length ≤ rc := hro.2.1; omega
          have hcb : (rc : Int) ≤ 140737488351232 := by have h : rc ≤ 140737488351232 := hro.2.2; omega
          obtain ⟨m, hm⟩ : ∃ m : Nat, (if (50 : Int) < (rl.length : Int) then (50 : Int) else (rl.length : Int)) = (m : Int) := ⟨min rl.length 50, by split <;> omega⟩
          have hmI : (m : Int) ≤ (rc : Int) := by rw [← hm]; split <;> omega
          have hd4 : (rl.take 50).length = m := by rw [List.length_take]; split at hm <;> omega
          have hrd : Rd wr wr.heap.size rA (u8s (rl.take 50)) := by rw [u8s_take]; exact (hro.1.take 50).more hbw.size
          have HX := Lib.hid (And.intro hT (And.intro hNk (And.intro hb (And.intro hkl (And.intro hd4 hrd)))))
          clear hT hNk hb hkl hro hd4 hrd hbw hk hk3 hab
          go_upto_region 15 with (fail)
          go_quiet (fail)
          have hbq : Below wr.heap.size wr (wr.drewN nq) := Below.drewN' (Below.refl _ _) nq
          have hTq := HX.out.1.below hbq
          have hbq2 : Below wd.heap.size wd (wr.drewN nq) := Below.drewN' HX.out.2.2.1 nq
          have hrdq : Rd (wr.drewN nq) (wr.drewN nq).heap.size rA (u8s (rl.take 50)) := HX.out.2.2.2.2.2.drewN nq
          generalize wr.drewN nq = wq at hTq hbq2 hrdq ⊢
          have HQ := Lib.hid (And.intro hTq (And.intro hbq2 hrdq))
          clear hTq hbq2 hrdq hbq hrow hm hcb hlc hmI
          have hpar : (k : Int) % 2 = 0 ∨ (k : Int) % 2 = 1 := by omega
          have hlow : wd.heap.size ≤ wq.heap.size := HQ.out.2.1.size
          have hml : m ≤ 50 := by have h1 := HX.out.2.2.2.2.1; rw [List.length_take] at h1; omega
          rcases hpar with h2 | h2
          · have h2t : ((k : Int) % 2 == 0) = true := beq_iff_eq.2 h2
            have hcv := conv_three wq 110 101 119
            have hput : Calls Try.prog 14 #[.pointer (some ⟨q, 0, none⟩), .slice rA m rc, .slice (some ⟨wq.heap.size, 0, none⟩) 3 3] (wq.alloc (.cells #[.int .u8 110, .int .u8 101, .int .u8 119] 5 (3, 4))) (fun e w' => ∃ (z : Bool) (N' : List Pr), e = .returned (.bool z) ∧ TreeW w' wd.heap.size q N' ∧ N'.length ≤ 60 + (k + 1) ∧ Below wd.heap.size wd w') := by
              have hW : Below wq.heap.size wq (wq.alloc (.cells #[.int .u8 110, .int .u8 101, .int .u8 119] 5 (3, 4))) := (Below.refl _ _).alloc (Nat.le_refl _) _
              have h := tput_any (HQ.out.1.below hW) ⟨rA, rl.take 50, rc⟩ ⟨some ⟨wq.heap.size, 0, none⟩, [110, 101, 119], 3⟩ (wq.heap.size + 1) ((HQ.out.2.2.below hW (Nat.le_refl _)).more (by omega)) (rd_three wq 110 101 119 (3, 4)) (by simp) (by show (rl.take 50).length ≤ _; rw [HX.out.2.2.2.2.1]; omega) (by simp) (Nat.le_trans hlow hW.size) (by have := HX.out.2.1; omega)
              rw [← HX.out.2.2.2.2.1]
              refine h.mono ?_
              rintro e w' ⟨rfl, p1, p2⟩
              exact ⟨_, _, rfl, p1, by have := insL_len (k := rl.take 50) (v := [110, 101, 119]) N; have := HX.out.2.1; show (insL (rl.take 50) [110, 101, 119] N).length ≤ _; omega, HQ.out.2.1.trans ((lower' hW hlow).trans p2)⟩
            have HPUT := Lib.hid hput
            clear hput h2
            go_upto_region 19 with (go_at_call 14; (with_reducible refine HPUT.out.mono ?_); rintro e w9 ⟨z, N', rfl, p1, p2, p3⟩; have H9 := Lib.hid (And.intro p1 (And.intro p2 p3)); clear p1 p2 p3 HPUT)
            clear h2t
            rcases N' with _ | ⟨y, N'⟩
            · have hat := tat_bad H9.out.1 0 (.inr (by simp))
              have HAT := Lib.hid hat
              clear hat
              go_wp2_with (go_at_call 18; (with_reducible refine HAT.out.mono ?_); rintro e wb ⟨rfl, hbb⟩; have HB := Lib.hid hbb; clear hbb HAT)
              have hb9 : Below w9.heap.size w9 (wb.alloc (.cells #[.slice none 0 0, .slice none 0 0] 42)) := HB.out.alloc HB.out.size _
              exact ⟨⟨k + 1, [], by have := HX.out.2.2.2.1; omega, by omega, by simp, H9.out.1.below hb9, by simp, H9.out.2.2.trans (lower' hb9 H9.out.2.2.size)⟩, by simp [intOf]; have := HX.out.2.2.2.1; omega⟩
            · have hat : Calls Try.prog 18 #[.pointer (some ⟨q, 0, none⟩), .int .i64 0] w9 (AtPost w9 y) := tat_any H9.out.1 0 (by simp) (by have := H9.out.2.1; omega)
              have HAT := Lib.hid hat
              clear hat
              go_upto_region 20 with (go_at_call 18; (with_reducible refine HAT.out.mono ?_); rintro e wb ⟨kb, xb, rfl, q1, q2, q3, q4, q5, q6, q7⟩; have HA := Lib.hid (And.intro q1 (And.intro q3 (And.intro q4 q7))); clear q1 q2 q3 q4 q5 q6 q7 HAT)
              obtain ⟨wx, hwx, hcells, hkc, hxc, hbc⟩ := box_pair kb xb HA.out.2.1 HA.out.2.2.1
              rw [← hwx]
              have hb2 : Below w9.heap.size w9 wx := HA.out.2.2.2.trans (lower' hbc HA.out.2.2.2.size)
              generalize wb.heap.size = bp at hcells ⊢
              obtain ⟨e0, e1⟩ := hcells wx (Below.refl _ _)
              have hb3 : Below wd.heap.size wd wx := H9.out.2.2.trans (lower' hb2 H9.out.2.2.size)
              have hdel := tdel_any (H9.out.1.below hb2) kb _ hkc.1.1 hb3.size (by have := H9.out.2.1; omega)
              have HDL := Lib.hid hdel
              have HBX := Lib.hid hb3
              clear hwx hcells hkc hxc hbc hb2 hb3 hdel e1
              go_wp2_with (go_at_call 16; (with_reducible refine HDL.out.mono ?_); rintro e wz ⟨rfl, p1, p2⟩; have HZ := Lib.hid (And.intro p1 p2); clear p1 p2 HDL)
              exact ⟨⟨k + 1, _, by have := HX.out.2.2.2.1; omega, by omega, by simp, HZ.out.1, by have := delL_le kb.l (y :: N'); have := H9.out.2.1; omega, HBX.out.trans HZ.out.2⟩, by simp [intOf]; have := HX.out.2.2.2.1; omega⟩
          · have h2t : ((k : Int) % 2 == 0) = false := by rw [h2]; rfl
            have hdel : Calls Try.prog 16 #[.pointer (some ⟨q, 0, none⟩), .slice rA m rc] wq (fun e w' => ∃ (z : Bool) (N' : List Pr), e = .returned (.bool z) ∧ TreeW w' wd.heap.size q N' ∧ N'.length ≤ 60 + (k + 1) ∧ Below wd.heap.size wd w') := by
              have h := tdel_any HQ.out.1 ⟨rA, rl.take 50, rc⟩ wq.heap.size HQ.out.2.2 hlow (by have := HX.out.2.1; omega)
              rw [← HX.out.2.2.2.2.1]
              refine h.mono ?_
              rintro e w' ⟨rfl, p1, p2⟩
              exact ⟨_, _, rfl, p1, by have := delL_le (rl.take 50) N; have := HX.out.2.1; show (delL (rl.take 50) N).length ≤ _; omega, HQ.out.2.1.trans p2⟩
            have HDEL := Lib.hid hdel
            clear hdel h2
            go_upto_region 19 with (go_at_call 16; (with_reducible refine HDEL.out.mono ?_); rintro e w9 ⟨z, N', rfl, p1, p2, p3⟩; have H9 := Lib.hid (And.intro p1 (And.intro p2 p3)); clear p1 p2 p3 HDEL)
            clear h2t
            rcases N' with _ | ⟨y, N'⟩
            · have hat := tat_bad H9.out.1 0 (.inr (by simp))
              have HAT := Lib.hid hat
              clear hat
              go_wp2_with (go_at_call 18; (with_reducible refine HAT.out.mono ?_); rintro e wb ⟨rfl, hbb⟩; have HB := Lib.hid hbb; clear hbb HAT)
              have hb9 : Below w9.heap.size w9 (wb.alloc (.cells #[.slice none 0 0, .slice none 0 0] 42)) := HB.out.alloc HB.out.size _
              exact ⟨⟨k + 1, [], by have := HX.out.2.2.2.1; omega, by omega, by simp, H9.out.1.below hb9, by simp, H9.out.2.2.trans (lower' hb9 H9.out.2.2.size)⟩, by simp [intOf]; have := HX.out.2.2.2.1; omega⟩
            · have hat : Calls Try.prog 18 #[.pointer (some ⟨q, 0, none⟩), .int .i64 0] w9 (AtPost w9 y) := tat_any H9.out.1 0 (by simp) (by have := H9.out.2.1; omega)
              have HAT := Lib.hid hat
              clear hat
              go_upto_region 20 with (go_at_call 18; (with_reducible refine HAT.out.mono ?_); rintro e wb ⟨kb, xb, rfl, q1, q2, q3, q4, q5, q6, q7⟩; have HA := Lib.hid (And.intro q1 (And.intro q3 (And.intro q4 q7))); clear q1 q2 q3 q4 q5 q6 q7 HAT)
              obtain ⟨wx, hwx, hcells, hkc, hxc, hbc⟩ := box_pair kb xb HA.out.2.1 HA.out.2.2.1
              rw [← hwx]
              have hb2 : Below w9.heap.size w9 wx := HA.out.2.2.2.trans (lower' hbc HA.out.2.2.2.size)
              generalize wb.heap.size = bp at hcells ⊢
              obtain ⟨e0, e1⟩ := hcells wx (Below.refl _ _)
              have hb3 : Below wd.heap.size wd wx := H9.out.2.2.trans (lower' hb2 H9.out.2.2.size)
              have hdel := tdel_any (H9.out.1.below hb2) kb _ hkc.1.1 hb3.size (by have := H9.out.2.1; omega)
              have HDL := Lib.hid hdel
              have HBX := Lib.hid hb3
              clear hwx hcells hkc hxc hbc hb2 hb3 hdel e1
              go_wp2_with (go_at_call 16; (with_reducible refine HDL.out.mono ?_); rintro e wz ⟨rfl, p1, p2⟩; have HZ := Lib.hid (And.intro p1 p2); clear p1 p2 HDL)
              exact ⟨⟨k + 1, _, by have := HX.out.2.2.2.1; omega, by omega, by simp, HZ.out.1, by have := delL_le kb.l (y :: N'); have := H9.out.2.1; omega, HBX.out.trans HZ.out.2⟩, by simp [intOf]; have := HX.out.2.2.2.1; omega⟩
        · have hx' : (¬ (k : Int) < (K1.length : Int)) ∨ ((k : Int) < (K1.length : Int) ∧ ¬ (k : Int) < 60) := by omega
          have HX := Lib.hid hb
          clear hT hNk hb hgo hk hk3
          rcases hx' with h1 | ⟨h1, h2⟩
          all_goals
            go_wp2_with (fail)
            go_meet
            case rel => exact HX.out
  case first =>
    go_wp2_with (fail)
    go_loopw [6] (fun i wr => ∃ (k : Nat) (L : List Pr), k ≤ K.length ∧ k ≤ 60 ∧ i = .int .i64 (k : Int) ∧ TreeW wr w.heap.size w.heap.size L ∧ L.length ≤ k ∧ Below w.heap.size w wr)
      (fun i _ => K.length - (intOf i).toNat)
    case atStart => exact ⟨0, [], by omega, by omega, rfl, H2.out.1, by simp, H2.out.2⟩
    case round =>
      obtain ⟨k, L, hk, hk3, rfl, hT, hLk, hb⟩ := hrel
      by_cases hgo : k < K.length ∧ k < 60
      · obtain ⟨hkl, hk9⟩ := hgo
        have hkI : (k : Int) < (K.length : Int) := by omega
        have hkJ : (k : Int) < 60 := by omega
        obtain ⟨r, hre⟩ : ∃ r, r = K[k] := ⟨_, rfl⟩
        have hro : r.ok wr w.heap.size := by rw [hre]; exact (HR.out.2 _ (List.getElem_mem hkl)).below hb (Nat.le_refl _)
        obtain ⟨ab, ao, rfl, hab, hcell⟩ := HR.out.1.get (k := k) (by simpa using hkl)
        have hrow : w.cell? ⟨ab, ao + k, none⟩ = some (.slice r.A r.l.length r.c) := by
          have h := hcell
          simp only [List.getElem_map, ← hre] at h
          exact h
        clear hre hcell
        obtain ⟨rA, rl, rc⟩ := r
        have hlc : (rl.length : Int) ≤ (rc : Int) := by have h : rl.length ≤ rc := hro.2.1; omega
        have hcb : (rc : Int) ≤ 140737488351232 := by have h : rc ≤ 140737488351232 := hro.2.2; omega
        obtain ⟨m, hm⟩ : ∃ m : Nat, (if (50 : Int) < (rl.length : Int) then (50 : Int) else (rl.length : Int)) = (m : Int) := ⟨min rl.length 50, by split <;> omega⟩
        have hmI : (m : Int) ≤ (rc : Int) := by rw [← hm]; split <;> omega
        have hd4 : (rl.take 50).length = m := by rw [List.length_take]; split at hm <;> omega
        obtain ⟨x, hx⟩ : ∃ x : UInt8, IntKind.u8.wrap (k : Int) = (x.toNat : Int) := ⟨UInt8.ofNat k, by rw [IntKind.wrap_u8]; simp [UInt8.toNat_ofNat']⟩
        have hput : Calls Try.prog 14 #[.pointer (some ⟨w.heap.size, 0, none⟩), .slice rA m rc, .slice (some ⟨wr.heap.size, 0, none⟩) 1 1] (wr.alloc (.cells #[.int .u8 (IntKind.u8.wrap (k : Int))] 5)).drew (fun e w' => ∃ (z : Bool) (L' : List Pr), e = .returned (.bool z) ∧ TreeW w' w.heap.size w.heap.size L' ∧ L'.length ≤ k + 1 ∧ Below w.heap.size w w') := by
          have hW : Below wr.heap.size wr (wr.alloc (.cells #[.int .u8 (IntKind.u8.wrap (k : Int))] 5)).drew := ((Below.refl _ _).alloc (Nat.le_refl _) _).drew
          have hv : Rd (wr.alloc (.cells #[.int .u8 (IntKind.u8.wrap (k : Int))] 5)).drew (wr.heap.size + 1) (some ⟨wr.heap.size, 0, none⟩) (u8s [x]) := by
            rw [hx]
            exact Rd.new wr #[.int .u8 (x.toNat : Int)] 5 (0, 0)
          have h := tput_any (hT.below hW) ⟨rA, rl.take 50, rc⟩ ⟨some ⟨wr.heap.size, 0, none⟩, [x], 1⟩ (wr.heap.size + 1) (by rw [u8s_take]; exact ((hro.1.below (C := wr.heap.size) hW hb.size).take 50).more (by have := hb.size; omega)) hv (by simp [World.drew]) (by rw [List.length_take]; show min 50 rl.length ≤ _; omega) (by simp) (Nat.le_trans hb.size hW.size) (by omega)
          rw [← hd4]
          refine h.mono ?_
          rintro e w' ⟨rfl, p1, p2⟩
          exact ⟨_, _, rfl, p1, by have := insL_len (k := rl.take 50) (v := [x]) L; show (insL (rl.take 50) [x] L).length ≤ _; omega, hb.trans ((lower' hW hb.size).trans p2)⟩
        have HPUT := Lib.hid hput
        have HX := Lib.hid (And.intro hT (And.intro hLk (And.intro hb hkl)))
        have hks0 : ∀ w' : World, Below w.heap.size w w' → w'.cell? ⟨ab, ao + k, none⟩ = some (.slice rA rl.length rc) := fun w' h => (h.cell (p := ⟨ab, ao + k, none⟩) hab).trans hrow
        have hks : ∀ w' : World, Below wr.heap.size wr w' → w'.cell? ⟨ab, ao + k, none⟩ = some (.slice rA rl.length rc) := fun w' h => hks0 w' (hb.trans (lower' h hb.size))
        have KS0 := Lib.hid hks0
        have KS := Lib.hid hks
        clear hx hd4 hput hT hLk hb hkl hro hks hks0 hrow
        have hrow := KS.out _ (Below.refl _ _)
        go_upto_region 7 with (fail)
        go_region_held3 (fun w' => w'.cell? ⟨ab, ao + k, none⟩ = some (.slice rA rl.length rc)) (first | assumption | exact KS0.out _ H9.out.2.2 | (refine KS.out _ ?_; repeat (first | with_reducible exact Below.refl _ _ | (with_reducible refine Below.drew ?_) | (with_reducible refine Below.alloc ?_ (Nat.le_refl _) _)))) ((go_at_call 14; (with_reducible refine HPUT.out.mono ?_); rintro e w9 ⟨z, L', rfl, p1, p2, p3⟩; have H9 := Lib.hid (And.intro p1 (And.intro p2 p3)); clear p1 p2 p3))
        all_goals
          go_wp2_with (fail)
          exact ⟨⟨k + 1, L', by have := HX.out.2.2.2; omega, by omega, by simp, H9.out.1, H9.out.2.1, H9.out.2.2⟩, by simp [intOf]; have := HX.out.2.2.2; omega⟩
      · have hx' : (¬ (k : Int) < (K.length : Int)) ∨ ((k : Int) < (K.length : Int) ∧ ¬ (k : Int) < 60) := by omega
        have HL := Lib.hid (And.intro hT (And.intro (Nat.le_trans hLk hk3) hb))
        clear hT hLk hb hgo hk hk3
        rcases hx' with h1 | ⟨h1, h2⟩
        all_goals
          go_wp2_with (fail)
          go_meet
          case rel => exact ⟨L, HL.out.1, HL.out.2.1, HL.out.2.2⟩
end Go.Proofs.Ytclkpoobbbnkjaa
