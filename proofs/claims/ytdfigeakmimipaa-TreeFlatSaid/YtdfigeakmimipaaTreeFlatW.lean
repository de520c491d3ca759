/- TreeFlat: the walk. -/
import Derived.Test.YtdfigeakmimipaaTreO
import Derived.IntWalk
import Derived.Deep.CutRange
namespace Go.Proofs.Ytdfigeakmimipaa
open Go.RowKit Go.Maps

theorem rem_t (n : Int) (m : Nat) (h0 : 0 < m) (h1 : m < 1000000000) : ∃ k : Nat, k < m ∧ wrap64 ((IntKind.u64.wrap n).tmod (m : Int)) = (k : Int) := by
  have h2 : 0 ≤ IntKind.u64.wrap n := by
    rw [IntKind.wrap_u64]
    omega
  generalize IntKind.u64.wrap n = u at h2
  have h3 := Int.tmod_lt_of_pos u (show (0 : Int) < (m : Int) by omega)
  have h4 := Int.tmod_nonneg (m : Int) h2
  refine ⟨(u.tmod m).toNat, by omega, ?_⟩
  unfold wrap64
  omega
theorem rem_t' (n : Int) (m : Nat) (h0 : 0 < m) (h1 : m < 1000000000) : ∃ k : Nat, k < m ∧ IntKind.i64.wrap ((IntKind.u64.wrap n).tmod (m : Int)) = (k : Int) := by
  have h2 : 0 ≤ IntKind.u64.wrap n := by
    rw [IntKind.wrap_u64]
    omega
  generalize IntKind.u64.wrap n = u at h2
  have h3 := Int.tmod_lt_of_pos u (show (0 : Int) < (m : Int) by omega)
  have h4 := Int.tmod_nonneg (m : Int) h2
  refine ⟨(u.tmod m).toNat, by omega, ?_⟩
  rw [IntWalk.i64_in _ (by omega)]
  omega
/-- The key of a step. -/
theorem key_two (K : Int) (h0 : 0 ≤ K) (h1 : K < 1000) : ∃ x y : UInt8, K / 256 = (x.toNat : Int) ∧ K % 256 = (y.toNat : Int) :=
  ⟨UInt8.ofNat (K / 256).toNat, UInt8.ofNat (K % 256).toNat, by simp [UInt8.toNat_ofNat']; omega, by simp [UInt8.toNat_ofNat']; omega⟩
theorem delL_at {L : List Pr} (hr : Rises L) {i : Nat} (hi : i < L.length) : (delL L[i].1 L).length + 1 = L.length := by
  have e : L = L.take i ++ L[i] :: L.drop (i + 1) := by rw [← List.drop_eq_getElem_cons hi, List.take_append_drop]
  have h2 : Rises (L.take i ++ (L[i].1, L[i].2) :: L.drop (i + 1)) := by rw [← e]; exact hr
  have h3 := delL_same (k := L[i].1) h2 (cmp_refl _)
  have h4 : delL L[i].1 L = L.take i ++ L.drop (i + 1) := (congrArg (delL L[i].1) e).trans h3
  rw [h4, List.length_append, List.length_take, List.length_drop]
  omega
theorem bits_le (m : Nat) : bits m ≤ m := by
  induction m using Nat.strongRecOn with
  | _ m ih =>
    rw [bits]
    split
    · omega
    · have := ih (m / 2) (by omega); omega
/-- The box of a pair. -/
theorem box_new {w : World} {r : Bs} (h : r.ok w) (v : Value) : (w.alloc (.cells #[.slice r.A r.l.length r.c, v] 40)).heap[w.heap.size]? = some (.cells #[.slice r.A r.l.length r.c, v] 40 (0, 0)) ∧ r.ok (w.alloc (.cells #[.slice r.A r.l.length r.c, v] 40)) ∧ Below w.heap.size w (w.alloc (.cells #[.slice r.A r.l.length r.c, v] 40)) :=
  have hb : Below w.heap.size w (w.alloc (.cells #[.slice r.A r.l.length r.c, v] 40)) := (Below.refl _ _).alloc (Nat.le_refl _) _
  ⟨heap_alloc_new w _, h.below hb, hb⟩
theorem box_set {w : World} {b : Nat} {a c : Value} (hg : w.heap[b]? = some (.cells #[a, c] 40 (0, 0))) {r : Bs} (h : r.ok w) (v : Value) : ((w.setCell ⟨b, 0, none⟩ (.slice r.A r.l.length r.c)).setCell ⟨b, 1, none⟩ v).heap[b]? = some (.cells #[.slice r.A r.l.length r.c, v] 40 (0, 0)) ∧ r.ok ((w.setCell ⟨b, 0, none⟩ (.slice r.A r.l.length r.c)).setCell ⟨b, 1, none⟩ v) ∧ Below b w ((w.setCell ⟨b, 0, none⟩ (.slice r.A r.l.length r.c)).setCell ⟨b, 1, none⟩ v) := by
  have h1 := heap_setCell_same w b 0 _ _ (.slice r.A r.l.length r.c) hg
  have h2 := heap_setCell_same _ b 1 _ _ v h1
  have hf : Fr w ((w.setCell ⟨b, 0, none⟩ (.slice r.A r.l.length r.c)).setCell ⟨b, 1, none⟩ v) [b] := ((Fr.refl w [b]).setCell (by simp) _).setCell (by simp) _
  have hN : ∀ z ∈ [b], NoBytes w z := by intro z hz cs fr hz2; simp at hz; subst hz; rw [hg] at hz2; cases hz2
  exact ⟨by simpa using h2, h.fr hf hN, hf.below (Nat.le_of_lt (heap_lt hg)) (by simp)⟩
/-- What the law asks behind each step. -/
theorem flat_asks {w : World} {lo p M : Nat} {L : List Pr} (h : TreeW w lo p L) (hM : L.length = M) (hm : M ≤ 1000) :
    (Calls Try.prog 12 #[.pointer (some ⟨p, 0, none⟩)] w fun e w' => e = .returned (.int .i64 (M : Int)) ∧ w = w') ∧
    (Calls Try.prog 18 #[.pointer (some ⟨p, 0, none⟩)] w fun e w' => ∃ d : Nat, e = .returned (.int .i64 (d : Int)) ∧ (¬ 2 * (bits M : Int) < (d : Int)) ∧ (((d : Int) == 0) = ((M : Int) == 0)) ∧ w = w') ∧
    (Calls Try.prog 19 #[.int .i64 (M : Int)] w fun e w' => e = .returned (.int .i64 (bits M : Int)) ∧ w = w') := by
  subst hM
  refine ⟨tlen_any h, (tdepth_any h).mono ?_, bits_any _ w (by omega)⟩
  rintro e w' ⟨d, rfl, h1, h2, h3, rfl⟩
  refine ⟨d, rfl, by omega, ?_, rfl⟩
  by_cases h0 : d = 0
  · rw [h2.1 h0, h0]
  · have h9 : L.length ≠ 0 := fun e => h0 (h2.2 e)
    rw [beq_eq_false_iff_ne.2 (by omega), beq_eq_false_iff_ne.2 (by omega)]
set_option maxRecDepth 100000 in
set_option maxHeartbeats 4000000 in
theorem treeFlat_walk (A : Option Addr) (l : List Int) (c : Nat) (how : Int) (w : World) (hr : Rd w w.heap.size A (l.map (Value.int .i64))) :
    Calls Try.prog 4 #[.slice A l.length c, .int .i64 how] w fun e w' => e = .returned (.bool true) ∧ Below w.heap.size w w' := by
  have hnew := tnew_any w w.heap.size (Nat.le_refl _)
  have HNEW := Lib.hid hnew
  have HAW := Lib.hid (fun W => treeAwake_any W)
  have HR := Lib.hid hr
  obtain ⟨hw3, hh3, hhE⟩ : ∃ k : Nat, k < 3 ∧ wrap64 ((IntKind.u64.wrap how).tmod 3) = (k : Int) := rem_t how 3 (by omega) (by omega)
  have HHE := Lib.hid hhE
  clear hnew hr hhE
  go_enter Try.func4, Try.ntmps4
  go_upto_region 2 with (go_at_call 9; (with_reducible refine HNEW.out.mono ?_); rintro e w1 ⟨rfl, h1, hb1⟩)
  have H1 := Lib.hid (And.intro h1 hb1)
  clear h1 hb1
  go_upto_region 4 with (go_at_call 10; (with_reducible refine (HAW.out w1).mono ?_); rintro e w2 ⟨rfl, hb2⟩; have H2 := Lib.hid (And.intro (H1.out.1.below hb2) (H1.out.2.trans (lower' hb2 H1.out.2.size))); clear hb2)
  go_wp2_with (fail)
  go_loopw [6, 7] (fun n i wr => ∃ (k : Nat) (L : List Pr), k ≤ l.length ∧ k ≤ 300 ∧ i = .int .i64 (k : Int) ∧ n = .int .i64 (L.length : Int) ∧ TreeW wr w.heap.size w.heap.size L ∧ L.length ≤ k ∧ Below w.heap.size w wr)
    (fun _ i _ => l.length - (intOf i).toNat)
  case atStart => exact ⟨0, [], by omega, by omega, rfl, rfl, H2.out.1, by simp, H2.out.2⟩
  case round =>
    obtain ⟨k, L, hk, hk3, rfl, rfl, hT, hLk, hb⟩ := hrel
    by_cases hgo : k < l.length ∧ k < 300
    · obtain ⟨hkl, hk9⟩ := hgo
      have hkI : (k : Int) < (l.length : Int) := by omega
      have hkJ : (k : Int) < 300 := by omega
      obtain ⟨ab, ao, rfl, hab, hcell⟩ := HR.out.get (k := k) (by simpa using hkl)
      have hc0 : wr.cell? ⟨ab, ao + k, none⟩ = some (.int .i64 l[k]) := by
        have h := hcell
        simp only [List.getElem_map] at h
        rw [← h]
        exact hb.cell (p := ⟨ab, ao + k, none⟩) hab
      have HX := Lib.hid (And.intro hT (And.intro hLk (And.intro hb hkl)))
      generalize l[k] = s at hc0
      clear hT hLk hb hcell hkl hk hk3 hk9
      obtain ⟨k1, hk1, hk1E⟩ : ∃ k : Nat, k < 1000 ∧ wrap64 ((IntKind.u64.wrap s).tmod 1000) = (k : Int) := rem_t s 1000 (by omega) (by omega)
      have hhE := HHE.out
      go_upto_region 14 with (fail)
      all_goals
        go_upto_region 15 with (fail)
      all_goals
        first
          | (obtain ⟨x, y, hx, hy⟩ := key_two (k : Int) (by omega) (by omega); rw [hx, hy]; clear hx hy)
          | (obtain ⟨x, y, hx, hy⟩ := key_two (999 - (k : Int)) (by omega) (by omega); rw [hx, hy]; clear hx hy)
          | (obtain ⟨x, y, hx, hy⟩ := key_two (k1 : Int) (by omega) (by omega); rw [hx, hy]; clear hx hy)
        have hb1 : Below wr.heap.size wr (wr.alloc (.cells #[.int .u8 (x.toNat : Int), .int .u8 (y.toNat : Int)] 5)) := (Below.refl _ _).alloc (Nat.le_refl _) _
        have hrd : Rd (wr.alloc (.cells #[.int .u8 (x.toNat : Int), .int .u8 (y.toNat : Int)] 5)) (wr.heap.size + 1) (some ⟨wr.heap.size, 0, none⟩) (u8s [x, y]) := Rd.new wr #[.int .u8 (x.toNat : Int), .int .u8 (y.toNat : Int)] 5 (0, 0)
        have hT1 := HX.out.1.below hb1
        have hbW := HX.out.2.2.1.trans (lower' hb1 HX.out.2.2.1.size)
        have hc1 : (wr.alloc (.cells #[.int .u8 (x.toNat : Int), .int .u8 (y.toNat : Int)] 5)).cell? ⟨ab, ao + k, none⟩ = some (.int .i64 s) := (hb1.cell (p := ⟨ab, ao + k, none⟩) (by have := HX.out.2.2.1.size; show ab < wr.heap.size; omega)).trans hc0
        have hsz1 : (wr.alloc (.cells #[.int .u8 (x.toNat : Int), .int .u8 (y.toNat : Int)] 5)).heap.size = wr.heap.size + 1 := by simp
        generalize wr.alloc (.cells #[.int .u8 (x.toNat : Int), .int .u8 (y.toNat : Int)] 5) = W1 at hb1 hrd hT1 hbW hc1 hsz1 ⊢
        have HW := Lib.hid (And.intro hT1 (And.intro hbW (And.intro hrd hsz1)))
        clear hb1 hrd hT1 hbW hc0 hsz1 hk1E hhE
        go_upto_if 59 with (fail)
        go_cut [6, 10, 11] from 19 to 110 (fun n p e w' => ∃ L' : List Pr, n = .int .i64 (L'.length : Int) ∧ TreeW w' w.heap.size w.heap.size L' ∧ L'.length ≤ k + 1 ∧ Below w.heap.size w w')
        case rest =>
          obtain ⟨L', rfl, hT9, hMk, hb9⟩ := hcut
          obtain ⟨M, hMe⟩ : ∃ M, M = L'.length := ⟨_, rfl⟩
          have hM : L'.length = M := hMe.symm
          rw [← hMe] at hMk
          rw [← hMe]
          clear hMe
          obtain ⟨hlen, hdep, hbit⟩ := flat_asks hT9 hM (by have := HX.out.2.1; have := HX.out.2.2.2; omega)
          have HLEN := Lib.hid hlen
          have HDEP := Lib.hid hdep
          have HBIT := Lib.hid hbit
          have H9 := Lib.hid (And.intro hT9 (And.intro hM (And.intro hb9 hMk)))
          have bI : (bits M : Int) ≤ 1000 := by have := bits_le M; have := HX.out.2.1; omega
          have b0 : (0 : Int) ≤ (bits M : Int) := by omega
          have hcz : M = 0 ∨ M ≠ 0 := by omega
          clear hlen hdep hbit hT9 hM hb9 hMk
          have hz2 : ∃ z : Bool, ((M : Int) == 0) = z := ⟨_, rfl⟩
          clear hcz
          obtain ⟨z, n0⟩ := hz2
          cases z
          all_goals
            go_wp2_with (first
              | (go_at_call 12; (with_reducible refine HLEN.out.mono ?_); rintro e wa ⟨rfl, rfl⟩)
              | (go_at_call 18; (with_reducible refine HDEP.out.mono ?_); rintro e wa ⟨d, rfl, d1, d2, rfl⟩; rw [n0] at d2)
              | (go_at_call 19; (with_reducible refine HBIT.out.mono ?_); rintro e wa ⟨rfl, rfl⟩))
            exact ⟨⟨k + 1, _, by have := HX.out.2.2.2; omega, by omega, by simp, by rw [H9.out.2.1], H9.out.1, by have := H9.out.2.1; have := H9.out.2.2.2; omega, H9.out.2.2.1⟩, by simp [intOf]; have := HX.out.2.2.2; omega⟩
        case first =>
          by_cases h5 : s.tmod 5 = 0
          · have h5t : (s.tmod 5 == 0) = true := beq_iff_eq.2 h5
            obtain ⟨N, hN⟩ : ∃ N, N = L.length := ⟨_, rfl⟩
            have hN3 : N ≤ k := by rw [hN]; exact HX.out.2.1
            obtain ⟨i, hi, hiE⟩ : ∃ i : Nat, i < N + 1 ∧ IntKind.i64.wrap ((IntKind.u64.wrap s).tmod ((N : Int) + 1)) = (i : Int) := rem_t' s (N + 1) (by omega) (by omega)
            have hTd := HW.out.1.below ((Below.refl _ W1).drew)
            have hlen : ∀ W, Below W1.heap.size W1 W → Calls Try.prog 12 #[.pointer (some ⟨w.heap.size, 0, none⟩)] W fun e w' => e = .returned (.int .i64 (N : Int)) ∧ W = w' := fun W hW => by
              have := tlen_any (HW.out.1.below hW)
              rw [← hN] at this
              exact this
            have HL1 := Lib.hid hlen
            have hNI : (N : Int) ≤ 300 := by omega
            have HNN := Lib.hid (And.intro hN hN3)
            rw [← hN]
            clear hlen h5 hN hN3
            rcases (show i < N ∨ i = N by omega) with hiN | hiN
            · have hat : ∀ W, Below W1.heap.size W1 W → Calls Try.prog 15 #[.pointer (some ⟨w.heap.size, 0, none⟩), .int .i64 (i : Int)] W _ := fun W hW => tat_any (HW.out.1.below hW) i (by have := HNN.out.1; omega) (by have := HNN.out.1; have := HNN.out.2; omega)
              have hdl := delL_at HX.out.1.ris (i := i) (by have := HNN.out.1; omega)
              generalize L[i]'(by have := HNN.out.1; omega) = q at hat hdl
              have HAT := Lib.hid hat
              have HT1 := Lib.hid (And.intro hTd hdl)
              clear hat hTd hiN hi hdl
              have hc2 : (W1.alloc (.cells #[.slice none 0 0, .slice none 0 0] 40)).cell? ⟨ab, ao + k, none⟩ = some (.int .i64 s) := (((Below.refl _ W1).alloc (Nat.le_refl _) _).cell (p := ⟨ab, ao + k, none⟩) (by have := HW.out.2.1.size; show ab < W1.heap.size; omega)).trans hc1
              go_upto_region 16 with (fail)
              have u1 : IntKind.i64.wrap ((N : Int) + 1) = (N : Int) + 1 := IntWalk.i64_in _ (by omega)
              have u2 : IntKind.u64.wrap ((N : Int) + 1) = (N : Int) + 1 := by rw [IntKind.wrap_u64]; omega
              have nz : ((N : Int) + 1 == 0) = false := beq_eq_false_iff_ne.2 (by omega)
              have nz2 : ¬ ((N : Int) + 1 = 0) := by omega
              have hKS : ∀ w' : World, Below W1.heap.size W1 w' → w'.cell? ⟨ab, ao + k, none⟩ = some (.int .i64 s) := fun w' h => (h.cell (p := ⟨ab, ao + k, none⟩) (by have := HW.out.2.1.size; show ab < W1.heap.size; omega)).trans hc1
              have KS := Lib.hid hKS
              clear hKS hc2
              go_region_held3 (fun w' => w'.cell? ⟨ab, ao + k, none⟩ = some (.int .i64 s))
                (first
                  | assumption
                  | exact KS.out _ HQ.out.2.2.2.2
                  | (refine KS.out _ ?_; repeat (first | with_reducible exact Below.refl _ _ | with_reducible exact HQ.out.2.2.2.2 | (with_reducible refine Below.drew ?_) | (with_reducible refine Below.setCell ?_ (Nat.le_refl W1.heap.size) _) | (with_reducible refine Below.setCell ?_ HQ.out.2.2.2.2.size _) | (with_reducible refine Below.alloc ?_ (Nat.le_refl _) _) | (with_reducible refine Below.alloc ?_ HQ.out.2.2.2.2.size _))))
                (first
                | (go_at_call 12; (with_reducible refine (HL1.out _ (by first | exact (Below.refl _ _).drew | exact ((Below.refl _ _).alloc (Nat.le_refl _) _).drew)).mono ?_); rintro e wa ⟨rfl, rfl⟩)
                | (go_at_call 15; (with_reducible refine (HAT.out W1.drew (Below.refl _ _).drew).mono ?_); rintro e wb ⟨kb, xb, rfl, q1, q2, q3, q4, q5, q6, q7⟩; have HQ := Lib.hid (And.intro q1 (And.intro q2 (And.intro q3 (And.intro q4 (show Below W1.heap.size W1 wb from (Below.refl _ _).drew.trans q7))))); clear q1 q2 q3 q4 q5 q6 q7)
                | (go_at_call 15; (with_reducible refine (HAT.out _ ((Below.refl _ _).alloc (Nat.le_refl _) _).drew).mono ?_); rintro e wb ⟨kb, xb, rfl, q1, q2, q3, q4, q5, q6, q7⟩; have hgb : wb.heap[W1.heap.size]? = some (.cells #[.slice none 0 0, .slice none 0 0] 40 (0, 0)) := (q7.block W1.heap.size (by simp [World.drew])).trans (heap_alloc_new W1 _); have g0 := cell_of_row wb W1.heap.size 0 _ _ _ hgb; have g1 := cell_of_row wb W1.heap.size 1 _ _ _ hgb; have e0 := frozen_of_row wb W1.heap.size 0 _ _ hgb; have e1 := frozen_of_row wb W1.heap.size 1 _ _ hgb; have HQ := Lib.hid (And.intro q1 (And.intro q2 (And.intro q3 (And.intro q4 (show Below W1.heap.size W1 wb from (((Below.refl _ _).alloc (Nat.le_refl _) _).drew).trans (lower' q7 (by simp [World.drew]))))))); have HGB := Lib.hid hgb; clear q1 q2 q3 q4 q5 q6 q7 hgb))
              all_goals
                first
                  | (have hbx := box_set HGB.out HQ.out.2.2.1 (.slice xb.A xb.l.length xb.c)
                     obtain ⟨hg, hkb, hbc⟩ := hbx
                     replace hbc := HQ.out.2.2.2.2.trans hbc
                     generalize (wb.setCell ⟨W1.heap.size, 0, none⟩ (.slice kb.A kb.l.length kb.c)).setCell ⟨W1.heap.size, 1, none⟩ (.slice xb.A xb.l.length xb.c) = wc at hg hkb hbc ⊢
                     generalize W1.heap.size = bp at hg ⊢)
                  | (obtain ⟨hg, hkb, hbc⟩ := box_new HQ.out.2.2.1 (.slice xb.A xb.l.length xb.c)
                     replace hbc := HQ.out.2.2.2.2.trans (lower' hbc HQ.out.2.2.2.2.size)
                     generalize wb.alloc (.cells #[.slice kb.A kb.l.length kb.c, .slice xb.A xb.l.length xb.c] 40) = wc at hg hkb hbc ⊢
                     generalize wb.heap.size = bp at hg ⊢)
                have c0 := cell_of_row wc bp 0 _ _ _ hg
                obtain ⟨D, hD⟩ : ∃ D, D = delL kb.l L := ⟨_, rfl⟩
                have hdk : D.length + 1 = N := by rw [hD, HQ.out.1, HNN.out.1]; exact HT1.out.2
                have hdel := tdel_any (HW.out.1.below hbc) kb _ hkb.1.1 (Nat.le_trans HW.out.2.1.size hbc.size) (by have := HNN.out.1; omega)
                rw [← hD, show decide (D.length < L.length) = true from decide_eq_true (by have := HNN.out.1; omega)] at hdel
                have HDEL := Lib.hid hdel
                obtain ⟨M, hMe⟩ : ∃ M, M = D.length := ⟨_, rfl⟩
                have hMs : (N : Int) - 1 = (M : Int) := by omega
                have HC := Lib.hid (And.intro hbc (And.intro hMe hdk))
                clear hdel hg hkb hbc hD hdk hMe
                go_wp2_with (go_at_call 16; (with_reducible refine HDEL.out.mono ?_); rintro e w9 ⟨rfl, hT9, hb9⟩; clear HDEL)
                go_meet
                case rel => exact ⟨D, by rw [HC.out.2.1], hT9, by have := HNN.out.2; have := HC.out.2.2; omega, HW.out.2.1.trans ((lower' HC.out.1 HW.out.2.1.size).trans hb9)⟩
            · have hat : ∀ W, Below W1.heap.size W1 W → Calls Try.prog 15 #[.pointer (some ⟨w.heap.size, 0, none⟩), .int .i64 (i : Int)] W _ := fun W hW => tat_bad (HW.out.1.below hW) (i : Int) (.inr (by have := HNN.out.1; omega))
              have HAT := Lib.hid hat
              clear hat hTd hiN hi
              have hc2 : (W1.alloc (.cells #[.slice none 0 0, .slice none 0 0] 40)).cell? ⟨ab, ao + k, none⟩ = some (.int .i64 s) := (((Below.refl _ W1).alloc (Nat.le_refl _) _).cell (p := ⟨ab, ao + k, none⟩) (by have := HW.out.2.1.size; show ab < W1.heap.size; omega)).trans hc1
              go_upto_region 16 with (fail)
              have u1 : IntKind.i64.wrap ((N : Int) + 1) = (N : Int) + 1 := IntWalk.i64_in _ (by omega)
              have u2 : IntKind.u64.wrap ((N : Int) + 1) = (N : Int) + 1 := by rw [IntKind.wrap_u64]; omega
              have nz : ((N : Int) + 1 == 0) = false := beq_eq_false_iff_ne.2 (by omega)
              have nz2 : ¬ ((N : Int) + 1 = 0) := by omega
              have hKS : ∀ w' : World, Below W1.heap.size W1 w' → w'.cell? ⟨ab, ao + k, none⟩ = some (.int .i64 s) := fun w' h => (h.cell (p := ⟨ab, ao + k, none⟩) (by have := HW.out.2.1.size; show ab < W1.heap.size; omega)).trans hc1
              have KS := Lib.hid hKS
              clear hKS hc2
              go_region_held3 (fun w' => w'.cell? ⟨ab, ao + k, none⟩ = some (.int .i64 s))
                (first
                  | assumption
                  | exact KS.out _ HQ.out
                  | (refine KS.out _ ?_; repeat (first | with_reducible exact Below.refl _ _ | with_reducible exact HQ.out | (with_reducible refine Below.drew ?_) | (with_reducible refine Below.setCell ?_ (Nat.le_refl W1.heap.size) _) | (with_reducible refine Below.setCell ?_ HQ.out.size _) | (with_reducible refine Below.alloc ?_ (Nat.le_refl _) _) | (with_reducible refine Below.alloc ?_ HQ.out.size _))))
                (first
                | (go_at_call 12; (with_reducible refine (HL1.out _ (by first | exact (Below.refl _ _).drew | exact ((Below.refl _ _).alloc (Nat.le_refl _) _).drew)).mono ?_); rintro e wa ⟨rfl, rfl⟩)
                | (go_at_call 15; (with_reducible refine (HAT.out W1.drew (Below.refl _ _).drew).mono ?_); rintro e wb ⟨rfl, q7⟩; have HQ := Lib.hid (show Below W1.heap.size W1 wb from (Below.refl _ _).drew.trans q7); clear q7)
                | (go_at_call 15; (with_reducible refine (HAT.out _ ((Below.refl _ _).alloc (Nat.le_refl _) _).drew).mono ?_); rintro e wb ⟨rfl, q7⟩; have hgb : wb.heap[W1.heap.size]? = some (.cells #[.slice none 0 0, .slice none 0 0] 40 (0, 0)) := (q7.block W1.heap.size (by simp [World.drew])).trans (heap_alloc_new W1 _); have g0 := cell_of_row wb W1.heap.size 0 _ _ _ hgb; have g1 := cell_of_row wb W1.heap.size 1 _ _ _ hgb; have e0 := frozen_of_row wb W1.heap.size 0 _ _ hgb; have e1 := frozen_of_row wb W1.heap.size 1 _ _ hgb; have HQ := Lib.hid (show Below W1.heap.size W1 wb from (((Below.refl _ _).alloc (Nat.le_refl _) _).drew).trans (lower' q7 (by simp [World.drew]))); have HGB := Lib.hid hgb; clear q7 hgb))
              all_goals
                first
                  | (have hbc := HQ.out.trans (box_set (r := ⟨none, [], 0⟩) HGB.out ⟨⟨Rd.emp _ _ _, fun a ha => by cases ha⟩, by simp, by simp, by simp⟩ (.slice none 0 0)).2.2
                     change Below W1.heap.size W1 ((wb.setCell ⟨W1.heap.size, 0, none⟩ (.slice none 0 0)).setCell ⟨W1.heap.size, 1, none⟩ (.slice none 0 0)) at hbc
                     generalize (wb.setCell ⟨W1.heap.size, 0, none⟩ (.slice none 0 0)).setCell ⟨W1.heap.size, 1, none⟩ (.slice none 0 0) = wc at hbc ⊢)
                  | (have hbc : Below W1.heap.size W1 (wb.alloc (.cells #[.slice none 0 0, .slice none 0 0] 40)) := HQ.out.alloc HQ.out.size _
                     generalize wb.alloc (.cells #[.slice none 0 0, .slice none 0 0] 40) = wc at hbc ⊢)
                have HC := Lib.hid hbc
                clear hbc
                go_wp2_with (fail)
                go_meet
                case rel => exact ⟨L, by rw [HNN.out.1], HW.out.1.below HC.out, by have := HNN.out.2; have := HNN.out.1; omega, HW.out.2.1.trans (lower' HC.out HW.out.2.1.size)⟩
          · have h5f : (s.tmod 5 == 0) = false := beq_eq_false_iff_ne.2 h5
            clear h5
            have hput : Calls Try.prog 17 #[.pointer (some ⟨w.heap.size, 0, none⟩), .slice (some ⟨wr.heap.size, 0, none⟩) 2 2, .slice none 0 0] W1 _ := tput_any HW.out.1 ⟨some ⟨wr.heap.size, 0, none⟩, [x, y], 2⟩ ⟨none, [], 0⟩ (wr.heap.size + 1) HW.out.2.2.1 (Rd.emp _ _ _) (by have := HW.out.2.2.2; omega) (by simp) (by simp) HW.out.2.1.size (by have := HX.out.2.1; omega)
            have hil := insL_len (k := [x, y]) (v := []) L
            obtain ⟨Q, hQ⟩ : ∃ Q, Q = insL [x, y] [] L := ⟨_, rfl⟩
            change Calls _ _ _ _ (fun e w' => e = .returned (.bool (decide (L.length < (insL [x, y] [] L).length))) ∧ TreeW w' w.heap.size w.heap.size (insL [x, y] [] L) ∧ Below w.heap.size W1 w') at hput
            rw [← hQ] at hput hil
            have hcs : Q.length = L.length ∨ Q.length = L.length + 1 := by omega
            clear hil hQ
            rcases hcs with hq | hq
            · have hcode : decide (L.length < Q.length) = false := decide_eq_false (by omega)
              rw [hcode] at hput
              have HPUT := Lib.hid hput
              have HQ := Lib.hid hq
              clear hput hcode hq
              go_wp2_with (go_at_call 17; (with_reducible refine HPUT.out.mono ?_); rintro e w9 ⟨rfl, hT9, hb9⟩; clear HPUT)
              go_meet
              case rel => exact ⟨Q, by rw [HQ.out], hT9, by have := HQ.out; have := HX.out.2.1; omega, HW.out.2.1.trans hb9⟩
            · have hcode : decide (L.length < Q.length) = true := decide_eq_true (by omega)
              rw [hcode] at hput
              have HPUT := Lib.hid hput
              obtain ⟨M, hMe⟩ : ∃ M, M = Q.length := ⟨_, rfl⟩
              have hMs : (L.length : Int) + 1 = (M : Int) := by omega
              have hLI : (L.length : Int) ≤ 1000 := by have := HX.out.2.1; omega
              have HQ := Lib.hid (And.intro hq hMe)
              clear hput hcode hq hMe
              go_wp2_with (go_at_call 17; (with_reducible refine HPUT.out.mono ?_); rintro e w9 ⟨rfl, hT9, hb9⟩; clear HPUT)
              go_meet
              case rel => exact ⟨Q, by rw [HQ.out.2], hT9, by have := HQ.out.1; have := HX.out.2.1; omega, HW.out.2.1.trans hb9⟩
    · have hx' : (¬ (k : Int) < (l.length : Int)) ∨ ((k : Int) < (l.length : Int) ∧ ¬ (k : Int) < 300) := by omega
      have HB := Lib.hid hb
      clear hT hLk hb hgo hk hk3
      rcases hx' with h1 | ⟨h1, h2⟩
      all_goals
        go_wp2_with (fail)
        go_ret
        exact ⟨rfl, HB.out⟩
end Go.Proofs.Ytdfigeakmimipaa
