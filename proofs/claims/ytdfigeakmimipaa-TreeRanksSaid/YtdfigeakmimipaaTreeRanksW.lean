/- TreeRanks: the walk. -/
import Derived.Test.YtdfigeakmimipaaTreO
import Derived.Test.YtdfigeakmimipaaTreR
import Derived.Test.YtdfigeakmimipaaDskX
import Derived.IntWalk
import Derived.Deep.CutRange
import Derived.Deep.CutBlock
namespace Go.Proofs.Ytdfigeakmimipaa
open Go.RowKit Go.Maps

def lastK (L : List Pr) : Nat → List UInt8
  | 0 => []
  | j + 1 => ((L[j]?).map Prod.fst).getD []
theorem lastK_next {L : List Pr} {k : Nat} (hk : k < L.length) : lastK L (k + 1) = L[k].1 := by
  simp [lastK, List.getElem?_eq_getElem hk]
theorem lastK_less {L : List Pr} (hr : Rises L) {k : Nat} (h0 : 0 < k) (hk : k < L.length) : cmpB (lastK L k) L[k].1 < 0 := by
  obtain ⟨j, rfl⟩ : ∃ j, k = j + 1 := ⟨k - 1, by omega⟩
  rw [lastK_next (by omega)]
  exact rises_at hr (by omega) hk
theorem leq_str (w : World) {a b : List UInt8} (h : cmpB b a < 0) : (binOp .leq 9 (.string ⟨a.toArray⟩) (.string ⟨b.toArray⟩)).run Try.prog w = .ok (.bool false) w := by
  have h1 := not_le h
  rw [binOp_string_leq]
  have e1 : (ByteArray.mk a.toArray).toList = a := by simp
  have e2 : (ByteArray.mk b.toArray).toList = b := by simp
  rw [e1, e2, h1]
  rfl
theorem neq_str (w : World) (a : List UInt8) : (binOp .neq 9 (.string ⟨a.toArray⟩) (.string ⟨a.toArray⟩)).run Try.prog w = .ok (.bool false) w := by
  rw [binOp_string_neq]
  simp
/-- The box of a pair. -/
theorem pair_box {w : World} (r x : Bs) (h : r.ok w) (hx : x.ok w) : ∃ w', w' = (w.alloc (.cells #[.slice r.A r.l.length r.c, .slice x.A x.l.length x.c] 40)) ∧ (∀ W, Below w'.heap.size w' W → W.cell? ⟨w.heap.size, 0, none⟩ = some (.slice r.A r.l.length r.c) ∧ W.cell? ⟨w.heap.size, 1, none⟩ = some (.slice x.A x.l.length x.c)) ∧ r.ok w' ∧ x.ok w' ∧ Below w.heap.size w w' := by
  have hb : Below w.heap.size w (w.alloc (.cells #[.slice r.A r.l.length r.c, .slice x.A x.l.length x.c] 40)) := (Below.refl _ _).alloc (Nat.le_refl _) _
  refine ⟨_, rfl, fun W hW => ?_, h.below hb, hx.below hb, hb⟩
  have hg := (hW.block w.heap.size (by simp)).trans (heap_alloc_new w _)
  exact ⟨cell_of_row W w.heap.size 0 _ _ _ hg, cell_of_row W w.heap.size 1 _ _ _ hg⟩
theorem prC_at : ∀ (P : List (Bs × Bs)) (i : Nat) (h : i < P.length), (prC P)[2 * i]? = some (.slice P[i].1.A P[i].1.l.length P[i].1.c)
  | [], _, h => by cases h
  | p :: P, 0, _ => rfl
  | p :: P, i + 1, h => by
    have ih := prC_at P i (by simpa using h)
    simp only [prC, List.flatMap_cons] at ih ⊢
    rw [show 2 * (i + 1) = 2 * i + 1 + 1 by omega]
    simpa using ih
set_option maxRecDepth 100000 in
set_option maxHeartbeats 4000000 in
theorem treeRanks_walk (A : Option Addr) (K : List RowB) (c : Nat) (A1 : Option Addr) (l1 : List UInt8) (c1 : Nat) (A2 : Option Addr) (l2 : List UInt8) (c2 : Nat) (w : World) (hr : Rd w w.heap.size A (K.map RowB.v)) (hk : ∀ r ∈ K, r.ok w w.heap.size)
    (h1 : Rd w w.heap.size A1 (u8s l1)) (h2 : Rd w w.heap.size A2 (u8s l2)) (hl2 : l2.length ≤ c2) (hc2 : c2 ≤ 140737488351232) :
    Calls Try.prog 5 #[.slice A K.length c, .slice A1 l1.length c1, .slice A2 l2.length c2] w fun e w' => e = .returned (.bool true) ∧ Below w.heap.size w w' := by
  have hnew := tnew_any w w.heap.size (Nat.le_refl _)
  have HNEW := Lib.hid hnew
  have HAW := Lib.hid (fun W => treeAwake_any W)
  have HR := Lib.hid (And.intro hr hk)
  have H12 := Lib.hid (And.intro h1 (And.intro h2 (And.intro hl2 hc2)))
  clear hnew hr hk h1 h2 hl2 hc2
  go_enter Try.func5, Try.ntmps5
  go_upto_region 2 with (go_at_call 9; (with_reducible refine HNEW.out.mono ?_); rintro e w1 ⟨rfl, h1, hb1⟩)
  have H1 := Lib.hid (And.intro h1 hb1)
  clear h1 hb1
  go_upto_region 4 with (go_at_call 10; (with_reducible refine (HAW.out w1).mono ?_); rintro e w2 ⟨rfl, hb2⟩; have H2 := Lib.hid (And.intro (H1.out.1.below hb2) (H1.out.2.trans (lower' hb2 H1.out.2.size))); clear hb2)
  go_upto_block 0 with (fail)
  go_cut [8] from 21 (fun i w' => ∃ L : List Pr, TreeW w' w.heap.size w.heap.size L ∧ L.length ≤ 100 ∧ Below w.heap.size w w')
  case rest =>
    obtain ⟨L, hT, hLn, hb⟩ := hcut
    have hris := hT.ris
    have HL := Lib.hid (And.intro hLn hris)
    have HT := Lib.hid (And.intro hT hb)
    clear hT hLn hb hris
    go_upto_block 2 with (fail)
    go_cut [9, 10, 11, 12, 13, 14] from 21 (fun s i p e v o w' => TreeW w' w.heap.size w.heap.size L ∧ Below w.heap.size w w')
    case rest =>
      obtain ⟨hT, hb⟩ := hcut
      obtain ⟨F, hF⟩ : ∃ F, F = rankL l1 L := ⟨_, rfl⟩
      obtain ⟨N, hN⟩ : ∃ N, N = L.length := ⟨_, rfl⟩
      obtain ⟨E, hE⟩ : ∃ E, E = endL l2 L := ⟨_, rfl⟩
      have hN1 : N ≤ 100 := by rw [hN]; exact HL.out.1
      have hFN : F ≤ N := by rw [hF, hN]; exact rankL_le _ _
      have hEN : E ≤ N := by rw [hE, hN]; exact endL_le _ _
      have hr1 := trank_any hT ⟨A1, l1, c1⟩ _ (H12.out.1.below hb (Nat.le_refl _)) (by omega)
      have hr2 := trank_any hT ⟨A2, l2, c2⟩ _ (H12.out.2.1.below hb (Nat.le_refl _)) (by omega)
      have hlen := tlen_any hT
      have hrng := trange_any hT ⟨A1, l1, c1⟩ ⟨A2, l2, c2⟩ _ (H12.out.1.below hb (Nat.le_refl _)) (H12.out.2.1.below hb (Nat.le_refl _)) 1000 (by omega) (by have := H12.out.2.2.1; have := H12.out.2.2.2; show l2.length ≤ _; omega) (by omega)
      have hRL := rng_len l1 l2 L (by omega)
      rw [← hF, ← hE] at hRL
      rw [← hN] at hlen
      simp only at hr1 hr2 hrng
      rw [← hF] at hr1
      have hcs : (l2.length = 0 ∧ E = N) ∨ (0 < l2.length ∧ rankL l2 L = E) := by
        rw [hE, hN]
        unfold endL
        cases l2 with
        | nil => left; exact ⟨rfl, by rw [if_pos rfl]⟩
        | cons x r => right; exact ⟨by simp, by rw [if_neg (by simp)]⟩
      have HR1 := Lib.hid hr1
      have HR2 := Lib.hid hr2
      have HLEN := Lib.hid hlen
      have HRNG := Lib.hid hrng
      have HW := Lib.hid (And.intro hT (And.intro hb (And.intro hF (And.intro hN (And.intro hE hRL)))))
      have HN := Lib.hid (And.intro hN1 (And.intro hFN hEN))
      clear hr1 hr2 hlen hrng hT hb hF hN hE hRL hN1 hFN hEN
      have hmid : ∀ G : Nat, G ≤ 100 → G = E → True := fun _ _ _ => trivial
      clear hmid
      go_upto_if 114 with (first
        | (go_at_call 20; (with_reducible refine HR1.out.mono ?_); rintro e wa ⟨rfl, rfl⟩)
        | (go_at_call 12; (with_reducible refine HLEN.out.mono ?_); rintro e wa ⟨rfl, rfl⟩))
      go_cut [16] from 21 (fun h w' => h = .int .i64 (E : Int) ∧ wc = w')
      case first =>
        rcases hcs with ⟨h0, h1⟩ | ⟨h0, h1⟩
        · have t1 : ¬ (0 : Int) < (l2.length : Int) := by omega
          have t2 : decide (0 < l2.length) = false := by rw [h0]; rfl
          have H1' := Lib.hid h1
          clear h0 h1
          go_wp2_with (fail)
          go_meet
          case rel => exact ⟨by rw [H1'.out], rfl⟩
        · have t1 : (0 : Int) < (l2.length : Int) := by omega
          have t2 : decide (0 < l2.length) = true := decide_eq_true h0
          have H1' := Lib.hid h1
          clear h1
          go_wp2_with (go_at_call 20; (with_reducible refine HR2.out.mono ?_); rintro e wa ⟨rfl, rfl⟩)
          go_meet
          case rel => exact ⟨by rw [H1'.out], rfl⟩
      case rest =>
        obtain ⟨rfl, rfl⟩ := hcut
        clear hcs
        go_upto_region 23 with (go_at_call 14; (with_reducible refine HRNG.out.mono ?_); rintro e wd ⟨v, P, rfl, p1, p2, p3⟩; obtain ⟨A', c', rfl, _, _, hrd⟩ := own_shape p1.row; have HP := Lib.hid (And.intro p1 (And.intro p2 (And.intro p3 hrd))); clear p1 p2 p3 hrd)
        obtain ⟨M, hM⟩ : ∃ M, M = P.length := ⟨_, rfl⟩
        have hME : M = E - F := by
          have h := congrArg List.length HP.out.2.1
          rw [HW.out.2.2.2.2.2] at h
          rw [hM, ← h]
          simp [prL]
        rw [← hM]
        have hMI : (M : Int) ≤ 100 := by have := HN.out.1; have := HN.out.2.2; omega
        have hFI : (F : Int) ≤ 100 := by have := HN.out.1; have := HN.out.2.1; omega
        have hEI : (E : Int) ≤ 100 := by have := HN.out.1; have := HN.out.2.2; omega
        have hF0 : (0 : Int) ≤ (F : Int) := by omega
        have hE0 : (0 : Int) ≤ (E : Int) := by omega
        have x1 : (if (0 : Int) < (E : Int) - (F : Int) then (E : Int) - (F : Int) else 0) = (M : Int) := by split <;> omega
        have x2 : (if (E : Int) - (F : Int) < 0 then 0 else (E : Int) - (F : Int)) = (M : Int) := by split <;> omega
        have x3 : (if (F : Int) < (E : Int) then (E : Int) - (F : Int) else 0) = (M : Int) := by split <;> omega
        have HM := Lib.hid (And.intro hM hME)
        clear hM hME
        go_wp2_with (fail)
        all_goals
          clear x1 x2 x3
          go_loopw [131] (fun i wr => ∃ k : Nat, k ≤ M ∧ i = .int .i64 (k : Int) ∧ TreeW wr w.heap.size w.heap.size L ∧ Below wd.heap.size wd wr)
            (fun i _ => M - (intOf i).toNat)
          case atStart => exact ⟨0, by omega, rfl, HW.out.1.below (lower' HP.out.2.2.1 (Nat.le_refl _)), Below.refl _ _⟩
          case round =>
            obtain ⟨k, hk, rfl, hT, hb⟩ := hrel
            by_cases hkM : k < M
            · have hkI : (k : Int) < (M : Int) := by omega
              have hkL : F + k < L.length := by
                have h1 := HM.out.2
                have h2 := HN.out.2.2
                have h3 := HW.out.2.2.2.1
                omega
              have hat := tat_any hT (F + k) hkL (by have := HL.out.1; omega)
              rw [Int.natCast_add] at hat
              have hkP : k < P.length := by rw [← HM.out.1]; exact hkM
              have hpk : P[k].1.l = L[F + k].1 := by
                have h1 := rng_at l1 l2 L (by have := HL.out.1; omega) (j := k) (by rw [← HW.out.2.2.1, ← HW.out.2.2.2.2.1, ← HM.out.2]; exact hkM)
                rw [← HP.out.2.1, ← HW.out.2.2.1, List.getElem?_eq_getElem hkL] at h1
                unfold prL at h1
                rw [List.getElem?_map, List.getElem?_eq_getElem hkP] at h1
                simp only [Option.map_some, Option.some.injEq] at h1
                rw [← h1]
              obtain ⟨ab, ao, rfl, hab, hcell⟩ := HP.out.2.2.2.get (k := 2 * k) (by rw [prC_len]; omega)
              have hrow : wd.cell? ⟨ab, ao + 2 * k, none⟩ = some (.slice P[k].1.A P[k].1.l.length P[k].1.c) := by
                have h := prC_at P k hkP
                rw [hcell]
                have h5 := List.getElem?_eq_some_iff.1 h
                exact congrArg some h5.2
              have hok := (HP.out.1.key P[k] (List.getElem_mem hkP)).1
              have hcl : ∀ W, Below wd.heap.size wd W → W.cell? ⟨ab, ao + 2 * k, none⟩ = some (.slice P[k].1.A P[k].1.l.length P[k].1.c) ∧ P[k].1.ok W := fun W hW => ⟨(hW.cell (p := ⟨ab, ao + 2 * k, none⟩) hab).trans hrow, hok.below hW⟩
              generalize P[k].1 = pk at hpk hcl
              generalize L[F + k] = q at hat hpk
              have HAT := Lib.hid hat
              have HX := Lib.hid (And.intro hT (And.intro hb (And.intro hkM (And.intro hpk hcl))))
              clear hat hT hb hkM hpk hcl hok hrow hcell hkP hkL hk
              go_upto_region 29 with (go_at_call 15; (with_reducible refine HAT.out.mono ?_); rintro e wb ⟨kb, xb, rfl, q1, q2, q3, q4, q5, q6, q7⟩; have HQ := Lib.hid (And.intro q1 (And.intro q3 (And.intro q4 q7))); clear q1 q2 q3 q4 q5 q6 q7 HAT)
              obtain ⟨wx, hwx, hcells, hkc, hxc, hbc⟩ := pair_box kb xb HQ.out.2.1 HQ.out.2.2.1
              rw [← hwx]
              have hb2 : Below wr.heap.size wr wx := HQ.out.2.2.2.trans (lower' hbc HQ.out.2.2.2.size)
              have hb3 : Below wd.heap.size wd wx := HX.out.2.1.trans (lower' hb2 HX.out.2.1.size)
              generalize wb.heap.size = bp at hcells ⊢
              obtain ⟨c0, c1⟩ := hcells wx (Below.refl _ _)
              obtain ⟨d0, d1⟩ := HX.out.2.2.2.2 wx hb3
              have hs1 : ∀ n, (convert 27 9 (.slice kb.A kb.l.length kb.c)).run Try.prog (wx.drewN n) = .ok (.string ⟨kb.l.toArray⟩) (wx.drewN n) := fun n => strAt (hkc.1.1.drewN n) rfl
              have hs2 : ∀ n, (convert 27 9 (.slice pk.A pk.l.length pk.c)).run Try.prog (wx.drewN n) = .ok (.string ⟨pk.l.toArray⟩) (wx.drewN n) := fun n => strAt (d1.1.1.drewN n) rfl
              have hne : (kb.l == pk.l) = true := by rw [HQ.out.1, HX.out.2.2.2.1]; simp
              have d2 : wx.cell? ⟨ab, ao + k * 2, none⟩ = some (.slice pk.A pk.l.length pk.c) := by rw [Nat.mul_comm k 2]; exact d0
              have HB := Lib.hid (And.intro hb2 hb3)
              clear hwx hcells hkc hxc hbc hb2 hb3 d1 c1
              go_quiet (fail)
              go_wp2_with (fail)
              have hb9 : Below wr.heap.size wr (wx.drewN nq) := Below.drewN' HB.out.1 nq
              exact ⟨⟨k + 1, HX.out.2.2.1, by simp, HX.out.1.below hb9, Below.drewN' HB.out.2 nq⟩, by simp [intOf]; have := HX.out.2.2.1; omega⟩
            · have hkI : ¬ (k : Int) < (M : Int) := by omega
              have HX := Lib.hid (And.intro hT hb)
              clear hT hb hk hkM
              go_wp2_with (fail)
              go_ret
              exact ⟨rfl, HW.out.2.1.trans (lower' (HP.out.2.2.1.trans (lower' HX.out.2 HP.out.2.2.1.size)) HW.out.2.1.size)⟩
    case first =>
      go_wp2_with (fail)
      go_loopw [9, 10] (fun s i wr => ∃ k : Nat, k ≤ L.length ∧ i = .int .i64 (k : Int) ∧ s = .string ⟨(lastK L k).toArray⟩ ∧ TreeW wr w.heap.size w.heap.size L ∧ Below w.heap.size w wr)
        (fun _ i _ => L.length - (intOf i).toNat)
      case atStart => exact ⟨0, by omega, rfl, rfl, HT.out.1, HT.out.2⟩
      case round =>
        obtain ⟨k, hk, rfl, rfl, hT, hb⟩ := hrel
        have hlen := tlen_any hT
        obtain ⟨N, hN⟩ : ∃ N, N = L.length := ⟨_, rfl⟩
        have hNI : (N : Int) ≤ 100 := by have := HL.out.1; omega
        by_cases hkN : k < L.length
        · have hat := tat_any hT k hkN (by have := HL.out.1; omega)
          have f1 := rankL_at HL.out.2 hkN
          have f2 := getL_at HL.out.2 hkN
          have f3 : 0 < k → cmpB (lastK L k) L[k].1 < 0 := fun h => lastK_less HL.out.2 h hkN
          have f4 := lastK_next hkN
          have hkI : (k : Int) < (N : Int) := by omega
          generalize L[k] = q at hat f1 f2 f3 f4
          rw [← hN] at hlen
          have HLEN := Lib.hid hlen
          have HAT := Lib.hid hat
          have HF := Lib.hid (And.intro f1 (And.intro f2 (And.intro f3 f4)))
          have HX := Lib.hid (And.intro hT (And.intro hb (And.intro hkN hN)))
          clear hlen hat f1 f2 f3 f4 hT hb hkN hk hN
          obtain ⟨S, hS⟩ : ∃ S, S = lastK L k := ⟨_, rfl⟩
          rw [← hS]
          have HS := Lib.hid hS
          clear hS
          go_upto_region 13 with (first
            | (go_at_call 12; (with_reducible refine HLEN.out.mono ?_); rintro e wa ⟨rfl, rfl⟩; clear HLEN)
            | (go_at_call 15; (with_reducible refine HAT.out.mono ?_); rintro e wb ⟨kb, xb, rfl, q1, q2, q3, q4, q5, q6, q7⟩; have HQ := Lib.hid (And.intro q1 (And.intro q2 (And.intro q3 (And.intro q4 q7)))); clear q1 q2 q3 q4 q5 q6 q7 HAT))
          obtain ⟨wc, hwc, hcells, hkc, hxc, hbc⟩ := pair_box kb xb HQ.out.2.2.1 HQ.out.2.2.2.1
          rw [← hwc]
          have hb2 : Below wr.heap.size wr wc := HQ.out.2.2.2.2.trans (lower' hbc HQ.out.2.2.2.2.size)
          generalize wb.heap.size = bp at hcells ⊢
          have hTc := HX.out.1.below hb2
          have e1 : rankL kb.l L = k := by rw [HQ.out.1]; exact HF.out.1
          have e2 : getL kb.l L = some q.2 := by rw [HQ.out.1]; exact HF.out.2.1
          have hrank := trank_any hTc kb _ hkc.1.1 (by have := HL.out.1; omega)
          have hget : Calls Try.prog 21 #[.pointer (some ⟨w.heap.size, 0, none⟩), .slice kb.A kb.l.length kb.c] wc (fun e w' => ∃ v : Bs, e = .returned (.tuple #[.slice v.A v.l.length v.c, .bool true]) ∧ v.l = q.2 ∧ v.ok w' ∧ Below wc.heap.size wc w') := (tget_any hTc kb _ hkc.1.1).mono (by
            rintro e w' (⟨h0, _⟩ | ⟨v, hv, he, h1, h2, h3⟩)
            · rw [e2] at h0; cases h0
            · rw [e2] at hv; injection hv with hv; exact ⟨v, he, hv.symm, h1, h3⟩)
          rw [e1] at hrank
          have hs1 := strAt hkc.1.1 rfl (c := kb.c)
          obtain ⟨c0, c1⟩ := hcells wc (Below.refl _ _)
          have HRK := Lib.hid hrank
          have HGT := Lib.hid hget
          have HC := Lib.hid (And.intro hcells (And.intro hkc (And.intro hxc (And.intro hb2 hTc))))
          have hle : 0 < k → Op.bytesLess kb.l S = false ∧ (kb.l == S) = false := fun h => by
            have h2 := not_le (a := kb.l) (b := S) (by rw [HS.out, HQ.out.1]; exact HF.out.2.2.1 h)
            simpa using h2
          have hk0 : ¬ (0 : Int) < (k : Int) ∨ (0 : Int) < (k : Int) ∧ 0 < k := by omega
          clear hwc hbc hcells hkc hxc hb2 hTc e1 e2 hrank hget
          rcases hk0 with k0 | ⟨k0, k1⟩
          all_goals
            first
              | (have hle0 := hle k1; obtain ⟨l1, l2⟩ := hle0; clear k1)
              | skip
            clear hle
            go_upto_region 15 with (go_at_call 20; (with_reducible refine HRK.out.mono ?_); rintro e wd ⟨rfl, rfl⟩)
            go_upto_region 16 with (go_at_call 21; (with_reducible refine HGT.out.mono ?_); rintro e wd ⟨v, rfl, v1, v2, v3⟩; have HV := Lib.hid (And.intro v1 (And.intro v2 v3)); clear v1 v2 v3)
            obtain ⟨d0, d1⟩ := HC.out.1 wd HV.out.2.2
            have hs2 := strAt HV.out.2.1.1.1 rfl (c := v.c)
            have hs3 := strAt (HC.out.2.2.1.below HV.out.2.2).1.1 rfl (c := xb.c)
            have hs4 := strAt (HC.out.2.1.below HV.out.2.2).1.1 rfl (c := kb.c)
            have hne : (v.l == xb.l) = true := by rw [HV.out.1, HQ.out.2.1]; simp
            clear c0 c1 hs1
            go_wp2_with (fail)
            have hb9 : Below wr.heap.size wr wd := HC.out.2.2.2.1.trans (lower' HV.out.2.2 HC.out.2.2.2.1.size)
            exact ⟨⟨k + 1, HX.out.2.2.1, by simp, by rw [HF.out.2.2.2, HQ.out.1], HX.out.1.below hb9, HX.out.2.1.trans (lower' hb9 HX.out.2.1.size)⟩, by simp [intOf]; have := HX.out.2.2.1; omega⟩
        · have hkN' : ¬ (k : Int) < (N : Int) := by omega
          rw [← hN] at hlen
          have HLEN := Lib.hid hlen
          have HX := Lib.hid (And.intro hT hb)
          clear hlen hT hb hkN hk hN
          go_wp2_with (go_at_call 12; (with_reducible refine HLEN.out.mono ?_); rintro e wa ⟨rfl, rfl⟩; clear HLEN)
          go_meet
          case rel => exact HX.out
  case first =>
    go_wp2_with (fail)
    go_loopw [8] (fun i wr => ∃ (k : Nat) (L : List Pr), k ≤ K.length ∧ k ≤ 100 ∧ i = .int .i64 (k : Int) ∧ TreeW wr w.heap.size w.heap.size L ∧ L.length ≤ k ∧ Below w.heap.size w wr)
      (fun i _ => K.length - (intOf i).toNat)
    case atStart => exact ⟨0, [], by omega, by omega, rfl, H2.out.1, by simp, H2.out.2⟩
    case round =>
      obtain ⟨k, L, hk, hk3, rfl, hT, hLk, hb⟩ := hrel
      by_cases hgo : k < K.length ∧ k < 100
      · obtain ⟨hkl, hk9⟩ := hgo
        have hkI : (k : Int) < (K.length : Int) := by omega
        have hkJ : (k : Int) < 100 := by omega
        obtain ⟨r, hre⟩ : ∃ r, r = K[k] := ⟨_, rfl⟩
        have hro : r.ok wr w.heap.size := by rw [hre]; exact (HR.out.2 _ (List.getElem_mem hkl)).below hb (Nat.le_refl _)
        obtain ⟨ab, ao, rfl, hab, hcell⟩ := HR.out.1.get (k := k) (by simpa using hkl)
        have hrow : w.cell? ⟨ab, ao + k, none⟩ = some (.slice r.A r.l.length r.c) := by
          have h := hcell
          simp only [List.getElem_map, ← hre] at h
          exact h
        clear hre hcell
        obtain ⟨rA, rl, rc⟩ := r
        have hlc : (rl.length : Int) ≤ (rc : Int) := by have h : rl.length ≤ rc := hro.2.1; omega
        have hcb : (rc : Int) ≤ 140737488351232 := by have h : rc ≤ 140737488351232 := hro.2.2; omega
        obtain ⟨m, hm⟩ : ∃ m : Nat, (if (50 : Int) < (rl.length : Int) then (50 : Int) else (rl.length : Int)) = (m : Int) := ⟨min rl.length 50, by split <;> omega⟩
        have hmI : (m : Int) ≤ (rc : Int) := by rw [← hm]; split <;> omega
        have hd4 : (rl.take 50).length = m := by rw [List.length_take]; split at hm <;> omega
        obtain ⟨x, hx⟩ : ∃ x : UInt8, IntKind.u8.wrap (k : Int) = (x.toNat : Int) := ⟨UInt8.ofNat k, by rw [IntKind.wrap_u8]; simp [UInt8.toNat_ofNat']⟩
        have hput : Calls Try.prog 17 #[.pointer (some ⟨w.heap.size, 0, none⟩), .slice rA m rc, .slice (some ⟨wr.heap.size, 0, none⟩) 1 1] (wr.alloc (.cells #[.int .u8 (IntKind.u8.wrap (k : Int))] 5)).drew (fun e w' => ∃ (z : Bool) (L' : List Pr), e = .returned (.bool z) ∧ TreeW w' w.heap.size w.heap.size L' ∧ L'.length ≤ k + 1 ∧ Below w.heap.size w w') := by
          have hW : Below wr.heap.size wr (wr.alloc (.cells #[.int .u8 (IntKind.u8.wrap (k : Int))] 5)).drew := ((Below.refl _ _).alloc (Nat.le_refl _) _).drew
          have hv : Rd (wr.alloc (.cells #[.int .u8 (IntKind.u8.wrap (k : Int))] 5)).drew (wr.heap.size + 1) (some ⟨wr.heap.size, 0, none⟩) (u8s [x]) := by
            rw [hx]
            exact Rd.new wr #[.int .u8 (x.toNat : Int)] 5 (0, 0)
          have h := tput_any (hT.below hW) ⟨rA, rl.take 50, rc⟩ ⟨some ⟨wr.heap.size, 0, none⟩, [x], 1⟩ (wr.heap.size + 1) (by rw [u8s_take]; exact ((hro.1.below (C := wr.heap.size) hW hb.size).take 50).more (by have := hb.size; omega)) hv (by simp [World.drew]) (by rw [List.length_take]; show min 50 rl.length ≤ _; omega) (by simp) (Nat.le_trans hb.size hW.size) (by omega)
          rw [← hd4]
          refine h.mono ?_
          rintro e w' ⟨rfl, p1, p2⟩
          exact ⟨_, _, rfl, p1, by have := insL_len (k := rl.take 50) (v := [x]) L; show (insL (rl.take 50) [x] L).length ≤ _; omega, hb.trans ((lower' hW hb.size).trans p2)⟩
        have HPUT := Lib.hid hput
        have HX := Lib.hid (And.intro hT (And.intro hLk (And.intro hb hkl)))
        have hks0 : ∀ w' : World, Below w.heap.size w w' → w'.cell? ⟨ab, ao + k, none⟩ = some (.slice rA rl.length rc) := fun w' h => (h.cell (p := ⟨ab, ao + k, none⟩) hab).trans hrow
        have hks : ∀ w' : World, Below wr.heap.size wr w' → w'.cell? ⟨ab, ao + k, none⟩ = some (.slice rA rl.length rc) := fun w' h => hks0 w' (hb.trans (lower' h hb.size))
        have KS0 := Lib.hid hks0
        have KS := Lib.hid hks
        clear hx hd4 hput hT hLk hb hkl hro hks hks0 hrow
        have hrow := KS.out _ (Below.refl _ _)
        go_upto_region 7 with (fail)
        go_region_held3 (fun w' => w'.cell? ⟨ab, ao + k, none⟩ = some (.slice rA rl.length rc)) (first | assumption | exact KS0.out _ H9.out.2.2 | (refine KS.out _ ?_; repeat (first | with_reducible exact Below.refl _ _ | (with_reducible refine Below.drew ?_) | (with_reducible refine Below.alloc ?_ (Nat.le_refl _) _)))) ((go_at_call 17; (with_reducible refine HPUT.out.mono ?_); rintro e w9 ⟨z, L', rfl, p1, p2, p3⟩; have H9 := Lib.hid (And.intro p1 (And.intro p2 p3)); clear p1 p2 p3))
        all_goals
          go_wp2_with (fail)
          exact ⟨⟨k + 1, L', by have := HX.out.2.2.2; omega, by omega, by simp, H9.out.1, H9.out.2.1, H9.out.2.2⟩, by simp [intOf]; have := HX.out.2.2.2; omega⟩
      · have hx' : (¬ (k : Int) < (K.length : Int)) ∨ ((k : Int) < (K.length : Int) ∧ ¬ (k : Int) < 100) := by omega
        have HL := Lib.hid (And.intro hT (And.intro (Nat.le_trans hLk hk3) hb))
        have hlen := tlen_any hT
        clear hT hLk hb hgo hk hk3 hlen
        rcases hx' with h1 | ⟨h1, h2⟩
        all_goals
          go_wp2_with (fail)
          go_meet
          case rel => exact ⟨L, HL.out.1, HL.out.2.1, HL.out.2.2⟩
end Go.Proofs.Ytdfigeakmimipaa
