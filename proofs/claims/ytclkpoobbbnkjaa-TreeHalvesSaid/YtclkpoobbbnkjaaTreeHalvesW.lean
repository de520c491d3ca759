/- TreeHalves: the walk. -/
import Derived.Test.YtclkpoobbbnkjaaTreU
import Derived.IntWalk
import Derived.Deep.CutRange
import Derived.Deep.CutBlock
namespace Go.Proofs.Ytclkpoobbbnkjaa
open Go.RowKit Go.Maps

theorem set_pair {w : World} {b : Nat} {a c : Value} (hg : w.heap[b]? = some (.cells #[a, c] 42 (0, 0))) (u v : Value) : ((w.setCell ⟨b, 0, none⟩ u).setCell ⟨b, 1, none⟩ v).heap[b]? = some (.cells #[u, v] 42 (0, 0)) ∧ Fr w ((w.setCell ⟨b, 0, none⟩ u).setCell ⟨b, 1, none⟩ v) [b] := by
  have h1 := heap_setCell_same w b 0 _ _ u hg
  have h2 := heap_setCell_same _ b 1 _ _ v h1
  exact ⟨by simpa using h2, ((Fr.refl w [b]).setCell (by simp) _).setCell (by simp) _⟩
theorem boxed {w : World} (r x : Bs) (h : r.ok w) (hx : x.ok w) : ∃ w', w' = (w.alloc (.cells #[.slice r.A r.l.length r.c, .slice x.A x.l.length x.c] 42)) ∧ w'.heap[w.heap.size]? = some (.cells #[.slice r.A r.l.length r.c, .slice x.A x.l.length x.c] 42 (0, 0)) ∧ w.heap.size < w'.heap.size ∧ r.ok w' ∧ x.ok w' ∧ Below w.heap.size w w' := by
  have hb : Below w.heap.size w (w.alloc (.cells #[.slice r.A r.l.length r.c, .slice x.A x.l.length x.c] 42)) := (Below.refl _ _).alloc (Nat.le_refl _) _
  exact ⟨_, rfl, heap_alloc_new w _, by simp, h.below hb, hx.below hb, hb⟩
theorem pair_noBytes {w : World} {b : Nat} {a c : Value} (hg : w.heap[b]? = some (.cells #[a, c] 42 (0, 0))) : ∀ z ∈ [b], NoBytes w z := by
  intro z hz cs fr hz2
  simp at hz
  subst hz
  rw [hg] at hz2
  cases hz2
theorem not_gtr {a b : List UInt8} (h : (Op.bytesLess a b = true ∧ (a == b) = false) ∨ (Op.bytesLess a b = false ∧ (a == b) = true)) : ¬ cmpB b a < 0 := by
  rcases h with ⟨h, _⟩ | ⟨_, h⟩
  · rw [less_cmp] at h
    have h1 := of_decide_eq_true h
    have := cmp_swap a b
    omega
  · rw [eq_of_beq h, cmp_refl]
    omega
theorem gtr_or (a b : List UInt8) : (Op.bytesLess a b = false ∧ (a == b) = false) ∨ (Op.bytesLess a b = true ∧ (a == b) = false) ∨ (Op.bytesLess a b = false ∧ (a == b) = true) := by
  by_cases h : a = b
  · subst h
    exact .inr (.inr ⟨by rw [less_cmp, cmp_refl]; rfl, by simp⟩)
  · have h1 : (a == b) = false := beq_eq_false_iff_ne.2 h
    cases h2 : Op.bytesLess a b
    · exact .inl ⟨rfl, h1⟩
    · exact .inr (.inl ⟨rfl, h1⟩)
/-- What a range cut in two is. -/
theorem halves (L : List Pr) (h : L.length ≤ 1000) (r s t : List UInt8) (h1 : ¬ cmpB s r < 0) (h2 : t = [] ∨ ¬ cmpB t s < 0) (h3 : s ≠ []) : rngL r t 1000 L = rngL r s 1000 L ++ rngL s t 1000 L := by
  rw [rng_eq r t L h, rng_eq r s L h, rng_eq s t L h]
  have e1 : endL s L = rankL s L := by unfold endL; rw [if_neg h3]
  rw [e1]
  refine take_halves L (rank_mono L h1) ?_
  unfold endL
  split
  · exact rankL_le _ _
  · rcases h2 with h2 | h2
    · contradiction
    · exact rank_mono L h2
set_option maxRecDepth 100000 in
set_option maxHeartbeats 4000000 in
theorem treeHalves_walk (A : Option Addr) (K : List RowB) (c : Nat) (r s t : RowB) (most : Int) (w : World) (hr : Rd w w.heap.size A (K.map RowB.v)) (hk : ∀ r ∈ K, r.ok w w.heap.size)
    (h1 : r.ok w w.heap.size) (h2 : s.ok w w.heap.size) (h3 : t.ok w w.heap.size) (hmo : most ≤ 9223372036854775807) :
    Calls Try.prog 6 #[.slice A K.length c, .agg #[r.v, s.v, t.v], .int .i64 most] w fun e w' => e = .returned (.bool true) ∧ Below w.heap.size w w' := by
  obtain ⟨rA, rl, rc⟩ := r
  obtain ⟨sA, sl, sc⟩ := s
  obtain ⟨tA, tl, tc⟩ := t
  have HAW := Lib.hid (fun W => treeAwake_any W)
  have hb0 : Below w.heap.size w (w.alloc (.cells #[.slice rA rl.length rc, .slice sA sl.length sc, .slice tA tl.length tc] 51)) := (Below.refl _ _).alloc (Nat.le_refl _) _
  have hcut : ∀ W, Below (w.alloc (.cells #[.slice rA rl.length rc, .slice sA sl.length sc, .slice tA tl.length tc] 51)).heap.size (w.alloc (.cells #[.slice rA rl.length rc, .slice sA sl.length sc, .slice tA tl.length tc] 51)) W → W.cell? ⟨w.heap.size, 0, none⟩ = some (.slice rA rl.length rc) ∧ W.cell? ⟨w.heap.size, 1, none⟩ = some (.slice sA sl.length sc) ∧ W.cell? ⟨w.heap.size, 2, none⟩ = some (.slice tA tl.length tc) := fun W hW => by
    have hg := (hW.block w.heap.size (by simp)).trans (heap_alloc_new w _)
    exact ⟨cell_of_row W w.heap.size 0 _ _ _ hg, cell_of_row W w.heap.size 1 _ _ _ hg, cell_of_row W w.heap.size 2 _ _ _ hg⟩
  have hR0 := hr.below hb0 (Nat.le_refl _)
  have hk0 : ∀ r ∈ K, r.ok (w.alloc (.cells #[.slice rA rl.length rc, .slice sA sl.length sc, .slice tA tl.length tc] 51)) w.heap.size := fun r hr => (hk r hr).below hb0 (Nat.le_refl _)
  have hsz0 : (w.alloc (.cells #[.slice rA rl.length rc, .slice sA sl.length sc, .slice tA tl.length tc] 51)).heap.size = w.heap.size + 1 := by simp
  have i1 : (rl.length : Int) ≤ 140737488351232 := by have h : rl.length ≤ rc := h1.2.1; have h' : rc ≤ 140737488351232 := h1.2.2; omega
  have i2 : (sl.length : Int) ≤ 140737488351232 := by have h : sl.length ≤ sc := h2.2.1; have h' : sc ≤ 140737488351232 := h2.2.2; omega
  have i3 : (tl.length : Int) ≤ 140737488351232 := by have h : tl.length ≤ tc := h3.2.1; have h' : tc ≤ 140737488351232 := h3.2.2; omega
  have j1 : (0 : Int) ≤ (rl.length : Int) := by omega
  have j2 : (0 : Int) ≤ (sl.length : Int) := by omega
  have j3 : (0 : Int) ≤ (tl.length : Int) := by omega
  go_enter Try.func6, Try.ntmps6
  simp only [RowB.v]
  go_upto_region 1 with (fail)
  generalize w.alloc (.cells #[.slice rA rl.length rc, .slice sA sl.length sc, .slice tA tl.length tc] 51) = W0 at hb0 hcut hR0 hk0 hsz0 ⊢
  have hnew := tnew_any W0 W0.heap.size (Nat.le_refl _)
  have HNEW := Lib.hid hnew
  have HR := Lib.hid (show Rd W0 W0.heap.size A (K.map RowB.v) ∧ ∀ r ∈ K, r.ok W0 W0.heap.size from ⟨hR0.more (by omega), fun r hr => ⟨(hk0 r hr).1.more (by omega), (hk0 r hr).2⟩⟩)
  have HCUT := Lib.hid hcut
  have H0 := Lib.hid (And.intro hb0 (And.intro hsz0 (And.intro (h1.below hb0 (Nat.le_refl _)) (And.intro (h2.below hb0 (Nat.le_refl _)) (And.intro (h3.below hb0 (Nat.le_refl _)) hmo)))))
  clear hnew hr hk h1 h2 h3 hb0 hcut hR0 hk0 hsz0 hmo
  go_upto_region 2 with (go_at_call 7; (with_reducible refine HNEW.out.mono ?_); rintro e w1 ⟨rfl, h1, hb1⟩)
  have H1 := Lib.hid (And.intro h1 hb1)
  clear h1 hb1
  by_cases hsum : (300 : Int) < (rl.length : Int) + (sl.length : Int) + (tl.length : Int)
  · go_wp2_with (go_at_call 8; (with_reducible refine (HAW.out w1).mono ?_); rintro e w2 ⟨rfl, hb2⟩; obtain ⟨d0, d1, d2⟩ := HCUT.out w2 (H1.out.2.trans (lower' hb2 H1.out.2.size)); have H2 := Lib.hid hb2; clear hb2)
    go_ret
    exact ⟨rfl, H0.out.1.trans (lower' (H1.out.2.trans (lower' H2.out H1.out.2.size)) H0.out.1.size)⟩
  go_upto_region 4 with (go_at_call 8; (with_reducible refine (HAW.out w1).mono ?_); rintro e w2 ⟨rfl, hb2⟩; obtain ⟨d0, d1, d2⟩ := HCUT.out w2 (H1.out.2.trans (lower' hb2 H1.out.2.size)); have H2 := Lib.hid (And.intro (H1.out.1.below hb2) (H1.out.2.trans (lower' hb2 H1.out.2.size))); clear hb2)
  clear d0 d1 d2 hsum
  go_upto_block 0 with (fail)
  go_cut [8] from 19 (fun i w' => ∃ L : List Pr, TreeW w' W0.heap.size W0.heap.size L ∧ L.length ≤ 80 ∧ Below W0.heap.size W0 w')
  case rest =>
    obtain ⟨L, hT, hLn, hb⟩ := hcut
    obtain ⟨d0, d1, d2⟩ := HCUT.out _ hb
    have HT := Lib.hid (And.intro hT (And.intro hLn hb))
    clear hT hLn hb
    go_upto_region 8 with (fail)
    go_quiet (fail)
    have hT := HT.out.1.below (Below.drewN' (Below.refl _ _) nq)
    have hb : Below W0.heap.size W0 (wc.drewN nq) := Below.drewN' HT.out.2.2 nq
    generalize wc.drewN nq = W3 at hT hb ⊢
    have r1 := (H0.out.2.2.1.1.below hb (by have := H0.out.2.1; omega))
    have r2 := (H0.out.2.2.2.1.1.below hb (by have := H0.out.2.1; omega))
    have r3 := (H0.out.2.2.2.2.1.1.below hb (by have := H0.out.2.1; omega))
    have s1 := strAt r1 rfl (c := rc)
    have s2 := strAt r2 rfl (c := sc)
    have s3 := strAt r3 rfl (c := tc)
    simp only at s1 s2 s3
    have HW := Lib.hid (And.intro hT (And.intro hb (And.intro r1 (And.intro r2 r3))))
    clear hT hb r1 r2 r3 d0 d1 d2
    have hend : Below w.heap.size w W3 := H0.out.1.trans (lower' HW.out.2.1 H0.out.1.size)
    have HEND := Lib.hid hend
    clear hend
    have HS := Lib.hid (And.intro s1 (And.intro s2 s3))
    clear s1 s2 s3
    go_upto_region 9 with (fail)
    go_cut [95] from 74 to 95 (fun q w' => ∃ b : Bool, q = .bool b ∧ (b = false → ¬ cmpB sl rl < 0 ∧ (tl = [] ∨ ¬ cmpB tl sl < 0) ∧ sl ≠ []) ∧ W3 = w')
    case rest =>
      obtain ⟨b, rfl, hfacts, rfl⟩ := hcut
      cases b with
      | true =>
        go_wp2_with (fail)
        go_ret
        exact ⟨rfl, HEND.out⟩
      | false =>
        obtain ⟨hf1, hf2, hf3⟩ := hfacts rfl
        have HALL := Lib.hid (halves L (by have := HT.out.2.1; omega) rl sl tl hf1 hf2 hf3)
        clear hf1 hf2 hf3 hfacts
        have hlen : L.length ≤ 1000 := by have := HT.out.2.1; omega
        have hra := trange_any HW.out.1 ⟨rA, rl, rc⟩ ⟨tA, tl, tc⟩ w.heap.size HW.out.2.2.1 HW.out.2.2.2.2 1000 (by omega) (by show tl.length ≤ _; omega) (by omega)
        have hrb : ∀ W, Below W3.heap.size W3 W → Calls Try.prog 12 #[.pointer (some ⟨W0.heap.size, 0, none⟩), .slice rA rl.length rc, .slice sA sl.length sc, .int .i64 1000] W (NewPrs W (rngL rl sl 1000 L)) := fun W hW => trange_any (HW.out.1.below hW) ⟨rA, rl, rc⟩ ⟨sA, sl, sc⟩ w.heap.size (HW.out.2.2.1.below hW HEND.out.size) (HW.out.2.2.2.1.below hW HEND.out.size) 1000 (by omega) (by show sl.length ≤ _; omega) (by omega)
        have hrc : ∀ W, Below W3.heap.size W3 W → Calls Try.prog 12 #[.pointer (some ⟨W0.heap.size, 0, none⟩), .slice sA sl.length sc, .slice tA tl.length tc, .int .i64 1000] W (NewPrs W (rngL sl tl 1000 L)) := fun W hW => trange_any (HW.out.1.below hW) ⟨sA, sl, sc⟩ ⟨tA, tl, tc⟩ w.heap.size (HW.out.2.2.2.1.below hW HEND.out.size) (HW.out.2.2.2.2.below hW HEND.out.size) 1000 (by omega) (by show tl.length ≤ _; omega) (by omega)
        have hrd : ∀ W, Below W3.heap.size W3 W → Calls Try.prog 12 #[.pointer (some ⟨W0.heap.size, 0, none⟩), .slice rA rl.length rc, .slice tA tl.length tc, .int .i64 most] W (NewPrs W (rngL rl tl most L)) := fun W hW => trange_any (HW.out.1.below hW) ⟨rA, rl, rc⟩ ⟨tA, tl, tc⟩ w.heap.size (HW.out.2.2.1.below hW HEND.out.size) (HW.out.2.2.2.2.below hW HEND.out.size) most (by omega) (by show tl.length ≤ _; omega) H0.out.2.2.2.2.2
        have HRA := Lib.hid (show Calls Try.prog 12 #[.pointer (some ⟨W0.heap.size, 0, none⟩), .slice rA rl.length rc, .slice tA tl.length tc, .int .i64 1000] W3 (NewPrs W3 (rngL rl tl 1000 L)) from hra)
        have HRB := Lib.hid hrb
        have HRC := Lib.hid hrc
        have HRD := Lib.hid hrd
        have HSM := Lib.hid (rng_most rl tl most L hlen)
        have HLE := Lib.hid (show (rngL rl tl 1000 L).length ≤ 80 from Nat.le_trans (rng_sub hlen rl tl).length_le HT.out.2.1)
        clear hra hrb hrc hrd hlen
        go_upto_region 12 with (go_at_call 12; (with_reducible refine HRA.out.mono ?_); rintro e wa ⟨v, P, rfl, p1, p2, p3⟩; obtain ⟨A1, c1, rfl, _, _, _⟩ := own_shape p1.row; have HP := Lib.hid (And.intro p1 (And.intro p2 p3)); have HRB1 := Lib.hid (HRB.out wa p3); clear p1 p2 p3 HRA)
        go_upto_region 13 with (first
          | (go_at_call 12; (with_reducible refine HRB1.out.mono ?_); rintro e wb ⟨v, Q, rfl, p1, p2, p3⟩; obtain ⟨A2, c2, rfl, _, _, _⟩ := own_shape p1.row; have HQ := Lib.hid (And.intro p1 (And.intro p2 (HP.out.2.2.trans (lower' p3 HP.out.2.2.size)))); have HRC1 := Lib.hid (HRC.out wb HQ.out.2.2); have HQB := Lib.hid p3; clear p1 p2 p3 HRB1)
          | (go_at_call 12; (with_reducible refine HRC1.out.mono ?_); rintro e wd ⟨v, R, rfl, p1, p2, p3⟩; obtain ⟨A3, c3, rfl, _, _, _⟩ := own_shape p1.row; have HRR := Lib.hid (And.intro p1 (And.intro p2 (HQ.out.2.2.trans (lower' p3 HQ.out.2.2.size)))); have HRD1 := Lib.hid (HRD.out wd HRR.out.2.2); have HRB2 := Lib.hid p3; clear p1 p2 p3 HRC1))
        go_upto_region 14 with (go_at_call 12; (with_reducible refine HRD1.out.mono ?_); rintro e we ⟨v, U, rfl, p1, p2, p3⟩; obtain ⟨A4, c4, rfl, _, _, _⟩ := own_shape p1.row; have HU := Lib.hid (And.intro p1 (And.intro p2 p3)); clear p1 p2 p3 HRD1)
        -- what is at hand behind the four ranges
        obtain ⟨MP, hMP⟩ : ∃ M, M = P.length := ⟨_, rfl⟩
        obtain ⟨MQ, hMQ⟩ : ∃ M, M = Q.length := ⟨_, rfl⟩
        obtain ⟨MR, hMR⟩ : ∃ M, M = R.length := ⟨_, rfl⟩
        obtain ⟨MU, hMU⟩ : ∃ M, M = U.length := ⟨_, rfl⟩
        rw [← hMP, ← hMQ, ← hMR, ← hMU]
        have hPl : P.length = (rngL rl tl 1000 L).length := by rw [← prL_len, HP.out.2.1]
        have hQR : MP = MQ + MR := by
          rw [hMP, hMQ, hMR, hPl, HALL.out, List.length_append, ← HQ.out.2.1, ← HRR.out.2.1, prL_len, prL_len]
        have hUl : MU = min most.toNat MP := by
          rw [hMU, hMP, hPl, ← List.length_take, ← HSM.out, ← HU.out.2.1, prL_len]
        have hP80 : MP ≤ 80 := by rw [hMP, hPl]; exact HLE.out
        have hPI : (MP : Int) ≤ 80 := by omega
        have hq1 : (MP : Int) = (MQ : Int) + (MR : Int) := by omega
        obtain ⟨X, hX⟩ : ∃ X : Nat, X = most.toNat := ⟨_, rfl⟩
        have x1 : (if most < 0 then (0 : Int) else most) = (X : Int) := by split <;> omega
        have x2 : (if (0 : Int) < most then most else 0) = (X : Int) := by split <;> omega
        have x5 : (if (X : Int) < (MQ : Int) + (MR : Int) then (X : Int) else (MQ : Int) + (MR : Int)) = (MU : Int) := by split <;> omega
        have x3 : (if (X : Int) < (MP : Int) then (X : Int) else (MP : Int)) = (MU : Int) := by split <;> omega
        have x4 : (if (MP : Int) < (X : Int) then (MP : Int) else (X : Int)) = (MU : Int) := by split <;> omega
        have hQI : (MQ : Int) ≤ 80 := by omega
        have hRI : (MR : Int) ≤ 80 := by omega
        have hPQ := HALL.out
        rw [← HP.out.2.1, ← HQ.out.2.1, ← HRR.out.2.1] at hPQ
        have hUP := HSM.out
        rw [← HU.out.2.1, ← HP.out.2.1] at hUP
        have HM := Lib.hid (And.intro hMP (And.intro hMQ (And.intro hMR (And.intro hMU (And.intro hQR hUl)))))
        have HEQ := Lib.hid (And.intro hPQ hUP)
        have HBE := Lib.hid (show Below wa.heap.size wa we from (lower' HQB.out (Nat.le_refl _)).trans (lower' (lower' HRB2.out (Nat.le_refl _) |>.trans (lower' HU.out.2.2 HRB2.out.size)) HQB.out.size))
        have HBQ := Lib.hid (show Below wb.heap.size wb we from HRB2.out.trans (lower' HU.out.2.2 HRB2.out.size))
        have HBR := Lib.hid (show Below wd.heap.size wd we from HU.out.2.2)
        have HBW := Lib.hid (show Below w.heap.size w we from HEND.out.trans (lower' (HRR.out.2.2.trans (lower' HU.out.2.2 HRR.out.2.2.size)) HEND.out.size))
        clear hMP hMQ hMR hMU hPl hUl hP80 hX hPQ hUP hQR
        go_wp2_with (fail)
        have HQI := Lib.hid hq1
        clear hq1 x1 x2 x3 x4 x5
        go_loopw [133] (fun i wr => ∃ k : Nat, k ≤ MP ∧ i = .int .i64 (k : Int) ∧ Below we.heap.size we wr)
          (fun i _ => MP - (intOf i).toNat)
        case atStart => exact ⟨0, by omega, rfl, Below.refl _ _⟩
        case round =>
          obtain ⟨k, hk, rfl, hb⟩ := hrel
          by_cases hkM : k < MP
          · have hkI : (k : Int) < (MP : Int) := by omega
            have hkI2 : (k : Int) < (MQ : Int) + (MR : Int) := by have := HQI.out; omega
            have hkP : k < P.length := by have := HM.out.1; omega
            obtain ⟨pb, po, rfl, hpc⟩ := prs_at HP.out.1 hkP
            have hpA := prL_at hkP
            rw [HEQ.out.1] at hpA
            have hsome : ∀ (h : k < U.length), U[k].1.l = P[k].1.l := fun h => by
              have h1 := prL_at h
              rw [HEQ.out.2, List.getElem?_take] at h1
              split at h1
              · rw [prL_at hkP] at h1
                injection h1 with h1
                injection h1 with h1 _
                exact h1.symm
              · cases h1
            have hsrc : (k < MQ ∧ ∃ h : k < Q.length, Q[k].1.l = P[k].1.l ∧ Q[k].2.l = P[k].2.l) ∨ (¬ k < MQ ∧ ∃ (j : Nat), (k : Int) - (MQ : Int) = (j : Int) ∧ ∃ h : j < R.length, R[j].1.l = P[k].1.l ∧ R[j].2.l = P[k].2.l) := by
              obtain ⟨m1, m2, m3, m4, m5, m6⟩ := HM.out
              by_cases h : k < MQ
              · left
                have h1 : k < Q.length := by omega
                rw [List.getElem?_append_left (by rw [prL_len]; exact h1), prL_at h1] at hpA
                injection hpA with hpA
                injection hpA with a1 a2
                exact ⟨h, h1, a1, a2⟩
              · right
                have h1 : k - MQ < R.length := by omega
                rw [List.getElem?_append_right (by rw [prL_len]; omega), prL_len, ← m2, prL_at h1] at hpA
                injection hpA with hpA
                injection hpA with a1 a2
                exact ⟨h, k - MQ, by omega, h1, a1, a2⟩
            obtain ⟨c0, c1, o0, o1⟩ := hpc wr (HBE.out.trans (lower' hb HBE.out.size))
            generalize P[k].1 = pk at c0 o0 hsome hsrc
            generalize P[k].2 = pv at c1 o1 hsrc
            have HX := Lib.hid (And.intro hb hkM)
            have HSO := Lib.hid hsome
            clear hpc hpA hsome hb hk hkM hkP
            go_upto_region 19 with (fail)
            obtain ⟨wx, hwx, hgx, hlt, okp, okv, hbx⟩ := boxed pk pv o0 o1
            rw [← hwx]
            have x0 := cell_of_row wx wr.heap.size 0 _ _ _ hgx
            have x1 := cell_of_row wx wr.heap.size 1 _ _ _ hgx
            have HBX := Lib.hid hbx
            clear hwx hbx c0 c1 o0 o1
            generalize wr.heap.size = bp at hgx hlt x0 x1 ⊢
            go_upto_region 20 with (fail)
            obtain ⟨wy, hwy, hgy, hlty, okp2, okv2, hby⟩ := boxed pk pv okp okv
            rw [← hwy]
            have hgx2 := (hby.block bp hlt).trans hgx
            have HBY := Lib.hid (HBX.out.trans (lower' hby HBX.out.size))
            have hne : bp ≠ wx.heap.size := by omega
            clear hwy hby okp okv x0 x1 hgx hlt
            have BQ := Lib.hid (show wr.heap.size ≤ wx.heap.size from HBX.out.size)
            generalize wx.heap.size = bq at hgy hlty hne BQ ⊢
            have y0 := cell_of_row wy bq 0 _ _ _ hgy
            have y1 := cell_of_row wy bq 1 _ _ _ hgy
            have f0 := frozen_of_row wy bq 0 _ _ hgy
            have f1 := frozen_of_row wy bq 1 _ _ hgy
            have HG := Lib.hid (And.intro hgy (And.intro hgx2 (And.intro hne (And.intro okp2 okv2))))
            clear hgy hgx2 hne okp2 okv2 hlty
            have HSRC := Lib.hid hsrc
            clear hsrc
            go_upto_if 142 with (fail)
            go_cut [16] from 134 to 153 (fun i16 w' => i16 = .int .i64 (k : Int) ∧ Below wr.heap.size wr w' ∧ ∃ qk qv : Bs, qk.l = pk.l ∧ qv.l = pv.l ∧ pk.ok w' ∧ pv.ok w' ∧ qk.ok w' ∧ qv.ok w' ∧ w'.heap[bp]? = some (.cells #[.slice pk.A pk.l.length pk.c, .slice pv.A pv.l.length pv.c] 42 (0, 0)) ∧ w'.heap[bq]? = some (.cells #[.slice qk.A qk.l.length qk.c, .slice qv.A qv.l.length qv.c] 42 (0, 0)))
            case rest =>
              obtain ⟨rfl, hbz, qk, qv, z1, z2, v0, v1, v2, v3, hgp, hgz⟩ := hcut
              have b0 := cell_of_row wc bp 0 _ _ _ hgp
              have b1 := cell_of_row wc bp 1 _ _ _ hgp
              have b2 := cell_of_row wc bq 0 _ _ _ hgz
              have b3 := cell_of_row wc bq 1 _ _ _ hgz
              have hs1 : ∀ n, (convert 27 9 (.slice pk.A pk.l.length pk.c)).run Try.prog (wc.drewN n) = .ok (.string ⟨pk.l.toArray⟩) (wc.drewN n) := fun n => strAt (v0.1.1.drewN n) rfl
              have hs2 : ∀ n, (convert 27 9 (.slice pv.A pv.l.length pv.c)).run Try.prog (wc.drewN n) = .ok (.string ⟨pv.l.toArray⟩) (wc.drewN n) := fun n => strAt (v1.1.1.drewN n) rfl
              have hs3 : ∀ n, (convert 27 9 (.slice qk.A qk.l.length qk.c)).run Try.prog (wc.drewN n) = .ok (.string ⟨qk.l.toArray⟩) (wc.drewN n) := fun n => strAt (v2.1.1.drewN n) rfl
              have hs4 : ∀ n, (convert 27 9 (.slice qv.A qv.l.length qv.c)).run Try.prog (wc.drewN n) = .ok (.string ⟨qv.l.toArray⟩) (wc.drewN n) := fun n => strAt (v3.1.1.drewN n) rfl
              have e1 : (pk.l == qk.l) = true := by rw [z1]; simp
              have e2 : (pv.l == qv.l) = true := by rw [z2]; simp
              have HZ2 := Lib.hid hbz
              clear hgz hbz hgp v0 v1 v2 v3 z1 z2 y0 y1 f0 f1 HG
              by_cases hkU : k < U.length
              · have hkUI : (k : Int) < (MU : Int) := by have := HM.out.2.2.2.1; omega
                obtain ⟨ub, uo, rfl, huc⟩ := prs_at HU.out.1 hkU
                obtain ⟨g0, g1, w0, w1'⟩ := huc wc (HX.out.1.trans (lower' HZ2.out HX.out.1.size))
                have hsu := HSO.out hkU
                generalize U[k].1 = uk at g0 w0 hsu
                have hs5 : ∀ n, (convert 27 9 (.slice uk.A uk.l.length uk.c)).run Try.prog (wc.drewN n) = .ok (.string ⟨uk.l.toArray⟩) (wc.drewN n) := fun n => strAt (w0.1.1.drewN n) rfl
                have e3 : (uk.l == pk.l) = true := by rw [hsu]; simp
                clear huc g1 w0 w1' hsu hkU
                go_upto_region 23 with (fail)
                go_quiet (fail)
                go_wp2_with (fail)
                exact ⟨⟨k + 1, HX.out.2, by simp, Below.drewN' (HX.out.1.trans (lower' HZ2.out HX.out.1.size)) nq⟩, by simp [intOf]; have := HX.out.2; omega⟩
              · have hkUI : ¬ (k : Int) < (MU : Int) := by have := HM.out.2.2.2.1; omega
                clear hkU
                go_upto_region 23 with (fail)
                go_quiet (fail)
                go_wp2_with (fail)
                exact ⟨⟨k + 1, HX.out.2, by simp, Below.drewN' (HX.out.1.trans (lower' HZ2.out HX.out.1.size)) nq⟩, by simp [intOf]; have := HX.out.2; omega⟩
            case first =>
              rcases HSRC.out with ⟨s1, s2, s3, s4⟩ | ⟨s1, j, s5, s2, s3, s4⟩
              · have hkQ : (k : Int) < (MQ : Int) := by omega
                obtain ⟨qb, qo, rfl, hqc⟩ := prs_at HQ.out.1 s2
                obtain ⟨d0, d1, u0, u1⟩ := hqc wy (HBQ.out.trans (lower' (HX.out.1.trans (lower' HBY.out HX.out.1.size)) HBQ.out.size))
                generalize Q[k].1 = qk at d0 u0 s3
                generalize Q[k].2 = qv at d1 u1 s4
                have HU1 := Lib.hid (And.intro u0 (And.intro u1 (And.intro s3 s4)))
                clear hqc u0 u1 s3 s4 s1 s2
                go_wp2_with (fail)
                obtain ⟨hgz, hfz⟩ := set_pair HG.out.1 (.slice qk.A qk.l.length qk.c) (.slice qv.A qv.l.length qv.c)
                have hN := pair_noBytes HG.out.1
                have hbz : Below wr.heap.size wr ((wy.setCell ⟨bq, 0, none⟩ (.slice qk.A qk.l.length qk.c)).setCell ⟨bq, 1, none⟩ (.slice qv.A qv.l.length qv.c)) := HBY.out.trans (hfz.below HBY.out.size (by simp; exact BQ.out))
                have hgp := (hfz.block bp (heap_lt HG.out.2.1) (by simp; exact HG.out.2.2.1)).trans HG.out.2.1
                go_meet
                case rel => exact ⟨rfl, hbz, qk, qv, HU1.out.2.2.1, HU1.out.2.2.2, HG.out.2.2.2.1.fr hfz hN, HG.out.2.2.2.2.fr hfz hN, HU1.out.1.fr hfz hN, HU1.out.2.1.fr hfz hN, hgp, hgz⟩
              · have hkQ : ¬ (k : Int) < (MQ : Int) := by omega
                have hjR : (j : Int) < (MR : Int) := by have := HM.out.2.2.1; omega
                obtain ⟨qb, qo, rfl, hqc⟩ := prs_at HRR.out.1 s2
                obtain ⟨d0, d1, u0, u1⟩ := hqc wy (HBR.out.trans (lower' (HX.out.1.trans (lower' HBY.out HX.out.1.size)) HBR.out.size))
                generalize R[j].1 = qk at d0 u0 s3
                generalize R[j].2 = qv at d1 u1 s4
                have HU1 := Lib.hid (And.intro u0 (And.intro u1 (And.intro s3 s4)))
                clear hqc u0 u1 s3 s4 s1 s2
                go_wp2_with (fail)
                obtain ⟨hgz, hfz⟩ := set_pair HG.out.1 (.slice qk.A qk.l.length qk.c) (.slice qv.A qv.l.length qv.c)
                have hN := pair_noBytes HG.out.1
                have hbz : Below wr.heap.size wr ((wy.setCell ⟨bq, 0, none⟩ (.slice qk.A qk.l.length qk.c)).setCell ⟨bq, 1, none⟩ (.slice qv.A qv.l.length qv.c)) := HBY.out.trans (hfz.below HBY.out.size (by simp; exact BQ.out))
                have hgp := (hfz.block bp (heap_lt HG.out.2.1) (by simp; exact HG.out.2.2.1)).trans HG.out.2.1
                go_meet
                case rel => exact ⟨rfl, hbz, qk, qv, HU1.out.2.2.1, HU1.out.2.2.2, HG.out.2.2.2.1.fr hfz hN, HG.out.2.2.2.2.fr hfz hN, HU1.out.1.fr hfz hN, HU1.out.2.1.fr hfz hN, hgp, hgz⟩
          · have hkI : ¬ (k : Int) < (MP : Int) := by omega
            have hkI2 : ¬ (k : Int) < (MQ : Int) + (MR : Int) := by have := HQI.out; omega
            have HX := Lib.hid hb
            clear hb hk hkM
            go_wp2_with (fail)
            go_ret
            exact ⟨rfl, HBW.out.trans (lower' HX.out HBW.out.size)⟩
    case first =>
      obtain ⟨s1, s2, s3⟩ := HS.out
      rcases gtr_or rl sl with ⟨g1, g2⟩ | hge
      · go_wp2_with (fail)
        go_meet
        case rel => exact ⟨true, rfl, (fun h => by cases h), rfl⟩
      have HG1 := Lib.hid (not_gtr hge)
      by_cases h0t : tl.length = 0
      · have t1 : ¬ (0 : Int) < (tl.length : Int) := by omega
        have t2 : decide (0 < tl.length) = false := decide_eq_false (by omega)
        have HZ := Lib.hid (show tl = [] ∨ ¬ cmpB tl sl < 0 from .inl (List.eq_nil_of_length_eq_zero h0t))
        clear h0t
        rcases hge with ⟨g1, g2⟩ | ⟨g1, g2⟩
        all_goals
          by_cases h0s : sl.length = 0
          · have u1 : ((sl.length : Int) == 0) = true := beq_iff_eq.2 (by omega)
            clear h0s
            go_wp2_with (fail)
            go_meet
            case rel => exact ⟨true, rfl, (fun h => by cases h), rfl⟩
          · have u1 : ((sl.length : Int) == 0) = false := beq_eq_false_iff_ne.2 (by omega)
            have HN := Lib.hid (show sl ≠ [] from by rintro rfl; exact h0s rfl)
            clear h0s
            go_wp2_with (fail)
            go_meet
            case rel => exact ⟨false, rfl, fun _ => ⟨HG1.out, HZ.out, HN.out⟩, rfl⟩
      · have t1 : (0 : Int) < (tl.length : Int) := by omega
        have t2 : decide (0 < tl.length) = true := decide_eq_true (by omega)
        clear h0t
        rcases gtr_or sl tl with ⟨g3, g4⟩ | hge2
        · rcases hge with ⟨g1, g2⟩ | ⟨g1, g2⟩
          all_goals
            go_wp2_with (fail)
            go_meet
            case rel => exact ⟨true, rfl, (fun h => by cases h), rfl⟩
        have HZ := Lib.hid (show tl = [] ∨ ¬ cmpB tl sl < 0 from .inr (not_gtr hge2))
        rcases hge with ⟨g1, g2⟩ | ⟨g1, g2⟩
        all_goals
          rcases hge2 with ⟨g3, g4⟩ | ⟨g3, g4⟩
        all_goals
          by_cases h0s : sl.length = 0
          · have u1 : ((sl.length : Int) == 0) = true := beq_iff_eq.2 (by omega)
            clear h0s
            go_wp2_with (fail)
            go_meet
            case rel => exact ⟨true, rfl, (fun h => by cases h), rfl⟩
          · have u1 : ((sl.length : Int) == 0) = false := beq_eq_false_iff_ne.2 (by omega)
            have HN := Lib.hid (show sl ≠ [] from by rintro rfl; exact h0s rfl)
            clear h0s
            go_wp2_with (fail)
            go_meet
            case rel => exact ⟨false, rfl, fun _ => ⟨HG1.out, HZ.out, HN.out⟩, rfl⟩
  case first =>
    go_wp2_with (fail)
    go_loopw [8] (fun i wr => ∃ (k : Nat) (L : List Pr), k ≤ K.length ∧ k ≤ 80 ∧ i = .int .i64 (k : Int) ∧ TreeW wr W0.heap.size W0.heap.size L ∧ L.length ≤ k ∧ Below W0.heap.size W0 wr)
      (fun i _ => K.length - (intOf i).toNat)
    case atStart => exact ⟨0, [], by omega, by omega, rfl, H2.out.1, by simp, H2.out.2⟩
    case round =>
      obtain ⟨k, L, hk, hk3, rfl, hT, hLk, hb⟩ := hrel
      by_cases hgo : k < K.length ∧ k < 80
      · obtain ⟨hkl, hk9⟩ := hgo
        have hkI : (k : Int) < (K.length : Int) := by omega
        have hkJ : (k : Int) < 80 := by omega
        obtain ⟨r, hre⟩ : ∃ r, r = K[k] := ⟨_, rfl⟩
        have hro : r.ok wr W0.heap.size := by rw [hre]; exact (HR.out.2 _ (List.getElem_mem hkl)).below hb (Nat.le_refl _)
        obtain ⟨ab, ao, rfl, hab, hcell⟩ := HR.out.1.get (k := k) (by simpa using hkl)
        have hrow : W0.cell? ⟨ab, ao + k, none⟩ = some (.slice r.A r.l.length r.c) := by
          have h := hcell
          simp only [List.getElem_map, ← hre] at h
          exact h
        clear hre hcell
        obtain ⟨rA, rl, rc⟩ := r
        have hlc : (rl.length : Int) ≤ (rc : Int) := by have h : rl.length ≤ rc := hro.2.1; omega
        have hcb : (rc : Int) ≤ 140737488351232 := by have h : rc ≤ 140737488351232 := hro.2.2; omega
        obtain ⟨m, hm⟩ : ∃ m : Nat, (if (50 : Int) < (rl.length : Int) then (50 : Int) else (rl.length : Int)) = (m : Int) := ⟨min rl.length 50, by split <;> omega⟩
        have hmI : (m : Int) ≤ (rc : Int) := by rw [← hm]; split <;> omega
        have hd4 : (rl.take 50).length = m := by rw [List.length_take]; split at hm <;> omega
        obtain ⟨x, hx⟩ : ∃ x : UInt8, IntKind.u8.wrap (k : Int) = (x.toNat : Int) := ⟨UInt8.ofNat k, by rw [IntKind.wrap_u8]; simp [UInt8.toNat_ofNat']⟩
        have hput : Calls Try.prog 14 #[.pointer (some ⟨W0.heap.size, 0, none⟩), .slice rA m rc, .slice (some ⟨wr.heap.size, 0, none⟩) 1 1] (wr.alloc (.cells #[.int .u8 (IntKind.u8.wrap (k : Int))] 5)).drew (fun e w' => ∃ (z : Bool) (L' : List Pr), e = .returned (.bool z) ∧ TreeW w' W0.heap.size W0.heap.size L' ∧ L'.length ≤ k + 1 ∧ Below W0.heap.size W0 w') := by
          have hW : Below wr.heap.size wr (wr.alloc (.cells #[.int .u8 (IntKind.u8.wrap (k : Int))] 5)).drew := ((Below.refl _ _).alloc (Nat.le_refl _) _).drew
          have hv : Rd (wr.alloc (.cells #[.int .u8 (IntKind.u8.wrap (k : Int))] 5)).drew (wr.heap.size + 1) (some ⟨wr.heap.size, 0, none⟩) (u8s [x]) := by
            rw [hx]
            exact Rd.new wr #[.int .u8 (x.toNat : Int)] 5 (0, 0)
          have h := tput_any (hT.below hW) ⟨rA, rl.take 50, rc⟩ ⟨some ⟨wr.heap.size, 0, none⟩, [x], 1⟩ (wr.heap.size + 1) (by rw [u8s_take]; exact ((hro.1.below (C := wr.heap.size) hW hb.size).take 50).more (by have := hb.size; omega)) hv (by simp [World.drew]) (by rw [List.length_take]; show min 50 rl.length ≤ _; omega) (by simp) (Nat.le_trans hb.size hW.size) (by omega)
          rw [← hd4]
          refine h.mono ?_
          rintro e w' ⟨rfl, p1, p2⟩
          exact ⟨_, _, rfl, p1, by have := insL_len (k := rl.take 50) (v := [x]) L; show (insL (rl.take 50) [x] L).length ≤ _; omega, hb.trans ((lower' hW hb.size).trans p2)⟩
        have HPUT := Lib.hid hput
        have HX := Lib.hid (And.intro hT (And.intro hLk (And.intro hb hkl)))
        have hks0 : ∀ w' : World, Below W0.heap.size W0 w' → w'.cell? ⟨ab, ao + k, none⟩ = some (.slice rA rl.length rc) := fun w' h => (h.cell (p := ⟨ab, ao + k, none⟩) hab).trans hrow
        have hks : ∀ w' : World, Below wr.heap.size wr w' → w'.cell? ⟨ab, ao + k, none⟩ = some (.slice rA rl.length rc) := fun w' h => hks0 w' (hb.trans (lower' h hb.size))
        have KS0 := Lib.hid hks0
        have KS := Lib.hid hks
        clear hx hd4 hput hT hLk hb hkl hro hks hks0 hrow
        have hrow := KS.out _ (Below.refl _ _)
        go_upto_region 7 with (fail)
        go_region_held3 (fun w' => w'.cell? ⟨ab, ao + k, none⟩ = some (.slice rA rl.length rc)) (first | assumption | exact KS0.out _ H9.out.2.2 | (refine KS.out _ ?_; repeat (first | with_reducible exact Below.refl _ _ | (with_reducible refine Below.drew ?_) | (with_reducible refine Below.alloc ?_ (Nat.le_refl _) _)))) ((go_at_call 14; (with_reducible refine HPUT.out.mono ?_); rintro e w9 ⟨z, L', rfl, p1, p2, p3⟩; have H9 := Lib.hid (And.intro p1 (And.intro p2 p3)); clear p1 p2 p3))
        all_goals
          go_wp2_with (fail)
          exact ⟨⟨k + 1, L', by have := HX.out.2.2.2; omega, by omega, by simp, H9.out.1, H9.out.2.1, H9.out.2.2⟩, by simp [intOf]; have := HX.out.2.2.2; omega⟩
      · have hx' : (¬ (k : Int) < (K.length : Int)) ∨ ((k : Int) < (K.length : Int) ∧ ¬ (k : Int) < 80) := by omega
        have HL := Lib.hid (And.intro hT (And.intro (Nat.le_trans hLk hk3) hb))
        clear hT hLk hb hgo hk hk3
        rcases hx' with h1 | ⟨h1, h2⟩
        all_goals
          go_wp2_with (fail)
          go_meet
          case rel => exact ⟨L, HL.out.1, HL.out.2.1, HL.out.2.2⟩
end Go.Proofs.Ytclkpoobbbnkjaa
