/- ImageSizes: the walk. -/
import Derived.Test.YtnjljalihjkmcaaImgM
import Derived.Deep.CutBlock
import Derived.Deep.CutRange
namespace Go.Proofs.Ytnjljalihjkmcaa
open Go.RowKit Go.Maps

theorem rem_k (n : Int) (m : Nat) (h0 : 0 < m) (h1 : m < 1000) : ∃ k : Nat, k < m ∧ wrap64 ((IntKind.u64.wrap n).tmod (m : Int)) = (k : Int) := by
  have h2 : 0 ≤ IntKind.u64.wrap n := by
    rw [IntKind.wrap_u64]
    omega
  generalize IntKind.u64.wrap n = u at h2
  have h3 := Int.tmod_lt_of_pos u (show (0 : Int) < (m : Int) by omega)
  have h4 := Int.tmod_nonneg (m : Int) h2
  refine ⟨(u.tmod m).toNat, by omega, ?_⟩
  unfold wrap64
  omega
set_option maxRecDepth 100000 in
set_option maxHeartbeats 4000000 in
theorem imageSizes_walk (n0 n1 : Int) (A : Option Addr) (l : List UInt8) (c : Nat) (w : World) (_ : -9223372036854775808 ≤ n0) (_ : n0 ≤ 9223372036854775807) (_ : -9223372036854775808 ≤ n1) (_ : n1 ≤ 9223372036854775807) (hr : Rd w w.heap.size A (u8s l)) (hc : l.length ≤ c) (hm : c ≤ 140737488351232) :
    Calls Try.prog 9 #[.int .i64 n0, .int .i64 n1, .slice A l.length c] w fun e w' => e = .returned (.bool true) ∧ Below w.heap.size w w' := by
  have H1 := Lib.hid (imgAwake_any w)
  obtain ⟨k0, hk0, hE0⟩ : ∃ k : Nat, k < 8 ∧ wrap64 ((IntKind.u64.wrap n0).tmod 8) = (k : Int) := rem_k n0 8 (by omega) (by omega)
  obtain ⟨k1, hk1, hE1⟩ : ∃ k : Nat, k < 130 ∧ wrap64 ((IntKind.u64.wrap n1).tmod 130) = (k : Int) := rem_k n1 130 (by omega) (by omega)
  have HE1 := Lib.hid hE1
  have HR := Lib.hid (And.intro hr (And.intro hc hm))
  have hlI : (l.length : Int) ≤ 140737488351232 := by omega
  clear hr hc hm hE1
  go_enter Try.func9, Try.ntmps9
  go_upto_region 3 with (first
    | (go_at_call 32; (refine H1.out.mono ?_); rintro e w1 ⟨rfl, hb1⟩; have HB1 := Lib.hid hb1; clear hb1)
    | go_in)
  have hk0I : (k0 : Int) < 8 := by omega
  go_upto_region 4 with go_in
  obtain ⟨C, hC⟩ : ∃ C : Nat, C = k0 + 2 := ⟨_, rfl⟩
  have hCI : (k0 : Int) + 2 = (C : Int) := by omega
  have hC2 : 2 ≤ C ∧ C ≤ 9 := by omega
  rw [hCI]
  clear hE0 hk0I hk0 hC hCI
  have hCa : (2 : Int) ≤ (C : Int) := by omega
  have hCb : (C : Int) ≤ 9 := by omega
  have hnw := newM (2 * C) w1 (by omega) (by omega)
  rw [show ((2 * C : Nat) : Int) = 2 * (C : Int) by omega] at hnw
  have HNW := Lib.hid hnw
  have HC2 := Lib.hid hC2
  clear hnw hC2
  go_upto_region 7 with (first
    | (go_at_call 11; (with_reducible refine HNW.out.mono ?_); rintro e w2 ⟨rfl, hD, hF⟩)
    | go_in)
  have HF2 := Lib.hid (hF.below (B := w1.heap.size) (Nat.le_refl _) (by simp))
  have hsz : (DM.new (2 * C)).size = 2 * C := rfl
  have hop := openD (first := 0) (count := C) hD (by rw [hsz]; have := HC2.out; omega) (by rw [hsz]; unfold FitsI; have := HC2.out; omega)
  rw [show ((0 : Nat) : Int) = 0 from rfl] at hop
  have HO := Lib.hid hop
  clear hD hF hop hsz
  go_upto_region 10 with (first
    | (go_at_call 33; (with_reducible refine HO.out.mono ?_); rintro e w3 ⟨q, rfl, hq, hI, hb3⟩)
    | go_in)
  have HI := Lib.hid (And.intro hI (And.intro hq hb3))
  have hE1 := HE1.out
  have hk1I : (k1 : Int) < 130 := by omega
  clear hI hq hb3 HO HNW H1
  go_upto_region 11 with go_in
  obtain ⟨N, hN⟩ : ∃ N : Nat, max 0 (64 * ((C : Int) - 1) - (k1 : Int)) = (N : Int) := ⟨(max 0 (64 * ((C : Int) - 1) - (k1 : Int))).toNat, by omega⟩
  have hNr : N ≤ roomI C := by unfold roomI; omega
  have hN5 : (N : Int) ≤ 512 := by omega
  rw [hN]
  have hmk := makeBytes N (by omega) w3
  have hg0 := heap_alloc_new w3 (.cells (u8s (List.replicate N 0)).toArray 5)
  have hb0 : Below w3.heap.size w3 (w3.alloc (.cells (u8s (List.replicate N 0)).toArray 5)) := (Below.refl _ _).alloc (Nat.le_refl _) _
  have hs0 : (w3.alloc (.cells (u8s (List.replicate N 0)).toArray 5)).heap.size = w3.heap.size + 1 := by simp
  have HG := Lib.hid (And.intro hg0 (And.intro hb0 (And.intro hs0 hNr)))
  clear hE1 hk1I hN hNr hg0 hb0 hs0
  go_upto_region 12 with go_in
  clear hmk
  generalize w3.alloc (.cells (u8s (List.replicate N 0)).toArray 5) = W4 at HG ⊢
  go_wp2_with go_in
  go_loopw [12, 61] (fun _ i wr => ∃ (k : Nat) (L : List UInt8), k ≤ N ∧ i = .int .i64 (k : Int) ∧ L.length = N ∧ wr.heap[w3.heap.size]? = some (.cells (u8s L).toArray 5 (0, 0)) ∧ Below w3.heap.size w3 wr ∧ w3.heap.size < wr.heap.size)
    (fun _ i _ => N - (intOf i).toNat)
  case atStart => exact ⟨0, _, Nat.zero_le _, rfl, List.length_replicate, HG.out.1, HG.out.2.1, by have := HG.out.2.2.1; omega⟩
  case round =>
    obtain ⟨k, L, hk, rfl, hL, hg, hb, hlt⟩ := hrel
    by_cases hkN : k < N
    · have hkI : (k : Int) < (N : Int) := by omega
      by_cases hl : l.length = 0
      · have hl0 : ¬ (0 : Int) < (l.length : Int) := by omega
        have HX := Lib.hid (And.intro hL (And.intro hg (And.intro hb (And.intro hlt hkN))))
        clear hL hg hb hlt hkN hl
        go_wp2_with go_in
        have hx := HX.out
        exact ⟨⟨k + 1, L, by omega, by simp, hx.1, hx.2.1, hx.2.2.1, hx.2.2.2.1⟩, by simp [intOf]; omega⟩
      · have hl0 : (0 : Int) < (l.length : Int) := by omega
        have hlb : ((l.length : Int) == 0) = false := by rw [beq_eq_false_iff_ne]; omega
        have hln : ¬ (l.length : Int) = 0 := by omega
        obtain ⟨j, hj⟩ : ∃ j, j = k % l.length := ⟨_, rfl⟩
        have hjl : j < l.length := by rw [hj]; exact Nat.mod_lt _ (by omega)
        have hmod : (k : Int).tmod (l.length : Int) = (j : Int) := by
          rw [Int.tmod_eq_emod_of_nonneg (by omega), hj]; exact (Int.natCast_emod _ _).symm
        have hjI : (j : Int) < (l.length : Int) := by omega
        obtain ⟨ab, ao, rfl, hab, hcell⟩ := HR.out.1.get (k := j) (by rw [u8s_len]; exact hjl)
        rw [u8s_get l j hjl] at hcell
        obtain ⟨x, hx⟩ : ∃ x, x = l[j] := ⟨_, rfl⟩
        rw [← hx] at hcell
        have hww : Below w.heap.size w wr := HB1.out.trans (lower' HF2.out HB1.out.size |>.trans (lower' HI.out.2.2 (Nat.le_trans HB1.out.size HF2.out.size) |>.trans (lower' hb (Nat.le_trans HB1.out.size (Nat.le_trans HF2.out.size HI.out.2.2.size)))))
        have hcell2 : wr.cell? ⟨ab, ao + j, none⟩ = some (.int .u8 (x.toNat : Int)) := (hww.cell (p := ⟨ab, ao + j, none⟩) hab).trans hcell
        obtain ⟨v1, hv1⟩ := row_cell (i := k) hg (by rw [hL]; exact hkN)
        have zf1 := frozen_of_row wr w3.heap.size k _ _ hg
        have hg2 := row_set (i := k) hg x
        have HX := Lib.hid (And.intro hL (And.intro hg2 (And.intro hb (And.intro hlt hkN))))
        clear hL hg hb hlt hkN hl hj hjl hcell hx hww hg2
        go_wp2_with go_in
        have hx := HX.out
        exact ⟨⟨k + 1, L.set k x, by omega, by simp, by rw [List.length_set]; exact hx.1, hx.2.1, hx.2.2.1.setCell (p := ⟨w3.heap.size, k, none⟩) (Nat.le_refl _) _, by simpa [World.setCell] using hx.2.2.2.1⟩, by simp [intOf]; omega⟩
    · have hkI : ¬ (k : Int) < (N : Int) := by omega
      obtain rfl : k = N := by omega
      have hCC := HC2.out
      obtain ⟨m, hm⟩ : ∃ m : Nat, m = 64 * (C - 1) + 1 := ⟨_, rfl⟩
      have hmI : 64 * ((C : Int) - 1) + 1 = (m : Int) := by omega
      have hm5 : m ≤ 1000 := by omega
      have h0 : seqI (imgOf (DM.new (2 * C)).get 0 C) = 0 := by rw [img_new0]; rfl
      have hM1 : saveR (DM.new (2 * C)) 0 C 1 (List.replicate m 0) = (3, DM.new (2 * C)) := by
        unfold saveR
        rw [h0, if_neg (by omega), if_neg (by omega), if_pos (by rw [List.length_replicate]; unfold roomI; omega)]
      have hI := HI.out.1.below hb
      have hfit0 : Fit (DM.new (2 * C)) 0 5000 := ⟨by show 2 * C ≤ 4096; omega, by show 0 + 5000 ≤ _; omega, by show 0 ≤ _; omega, by omega⟩
      have hfit5 : Fit (DM.new (2 * C)) (0 + 5000) 5000 := ⟨by show 2 * C ≤ 4096; omega, by show 0 + 5000 ≤ _; omega, by show 0 ≤ _; omega, by omega⟩
      have hs1 := save_new hI 1 (List.replicate m 0) (n := m) List.length_replicate (by omega) hfit0 (0, 0)
      rw [hM1] at hs1
      dsimp only at hs1
      obtain ⟨hz0, hok⟩ := save_run (M := DM.new (2 * C)) (first := 0) (count := C) (s := 1) (d := L) (calm_new _) rfl hCC.1 (by omega) (by omega) (by omega) (by rw [hL]; exact HG.out.2.2.2) (by rw [h0]; omega)
      have hmk := makeBytes m (by omega) wr
      have hnext : ∀ w5, Saved wr w5 q (w1.heap.size + 2) w1.heap.size (w1.heap.size + 1) 0 0 C (DM.new (2 * C)) → w5.heap[w3.heap.size]? = some (.cells (u8s L).toArray 5 (0, 0)) ∧ Fr wr w5 [w1.heap.size + 2, w1.heap.size, w1.heap.size + 1] ∧
          Calls Try.prog 35 #[.pointer (some ⟨q, 0, none⟩), .int .i64 1, .slice (some ⟨w3.heap.size, 0, none⟩) k k] w5 fun e w' => e = .returned (.int .i64 0) ∧ Saved w5 w' q (w1.heap.size + 2) w1.heap.size (w1.heap.size + 1) (0 + 5000) 0 C (saveR (DM.new (2 * C)) 0 C 1 L).2 := fun w5 h5 => by
        have hl3 := HI.out.1.disk.lt
        have hg5 := (h5.2.block _ (heap_lt hg) (by simp <;> omega)).trans hg
        have hr5 : Rd w5 w5.heap.size (some ⟨w3.heap.size, 0, none⟩) (u8s L) := fun _ => ⟨_, 0, rfl, heap_lt hg5, fun j u hu => by rw [cell_of_row _ _ _ _ _ _ hg5]; simpa using hu⟩
        have hs2 := saveD h5.1 1 (some ⟨w3.heap.size, 0, none⟩) L L.length _ hr5 (Nat.le_refl _) (fun _ a ha => by cases ha; dsimp only; omega) (Nat.le_refl _) (by omega) hfit5
        have hz : (saveR (DM.new (2 * C)) 0 C 1 L).1 = 0 := hz0
        rw [hz, hL] at hs2
        exact ⟨hg5, h5.2, hs2⟩
      have hok2 : SaveOk (DM.new (2 * C)) (saveR (DM.new (2 * C)) 0 C 1 L).2 0 C 1 L := hok
      obtain ⟨M', hM'⟩ : ∃ M', M' = (saveR (DM.new (2 * C)) 0 C 1 L).2 := ⟨_, rfl⟩
      rw [← hM'] at hnext hok2
      have HS1 := Lib.hid hs1
      have HNX := Lib.hid hnext
      have HOK := Lib.hid (And.intro hok2 (And.intro hL (And.intro hg (And.intro hb hlt))))
      clear hs1 hz0 hok hok2 hL hg hb hlt hfit0 hfit5 hM1 h0 hI hCC hkN hk hm hnext hM'
      go_upto_region 20 with (first
        | (go_at_call 35; (with_reducible refine HS1.out.mono ?_); rintro e w5 ⟨rfl, hI5⟩; have hs2 := HNX.out w5 hI5; have HS2 := Lib.hid hs2.2.2; have H5 := Lib.hid (And.intro hs2.1 hs2.2.1); clear hs2 hI5 HS1)
        | (go_at_call 35; (with_reducible refine HS2.out.mono ?_); rintro e w6 ⟨rfl, hI6, hf6⟩)
        | go_in)
      have hMs : M'.size = 2 * C := HOK.out.1.size
      have hld := loadI_any hI6
      rw [HOK.out.1.img] at hld
      have hob := fun (w7 : World) (hb7 : Below w6.heap.size w6 w7) => openI_bad (hI6.disk.kept hb7) hI6.size 0 ((C : Int) + 1) (by rw [hMs]; unfold FitsI; omega)
      have hg6 := (hf6.block _ (heap_lt H5.out.1) (by have := HI.out.1.disk.lt; simp <;> omega)).trans H5.out.1
      have hst6 : ∀ w7, Below w6.heap.size w6 w7 → (convert 45 9 (.slice (some ⟨w3.heap.size, 0, none⟩) k k)).run Try.prog w7 = .ok (.string ⟨L.toArray⟩) w7 := fun w7 hb7 => by
        have hg7 := keep0 hb7 hg6
        exact strAt (n := k) (c := k) (B := w7.heap.size) (fun _ => ⟨_, 0, rfl, heap_lt hg7, fun j u hu => by rw [cell_of_row _ _ _ _ _ _ hg7]; simpa using hu⟩) HOK.out.2.1.symm
      have HLD := Lib.hid hld
      have HOB := Lib.hid hob
      have HST := Lib.hid hst6
      have HF6 := Lib.hid hf6
      clear hMs hld hob hg6 hst6 hI6 hf6 HS2 HNX
      go_wp2_with (first
        | (go_at_call 37; (with_reducible refine HLD.out.mono ?_); rintro e w7 ⟨A7, c7, rfl, hO7⟩; obtain ⟨A8, c8, e8, ho1, ho2, ho3, ho4, hb7⟩ := hO7; cases e8; have hst7 := strAt (n := L.length) (c := c7) ho2 rfl; have hst8 := HST.out w7 hb7; have hob7 := HOB.out w7 hb7; have HOB7 := Lib.hid hob7; have HB7 := Lib.hid hb7; clear ho1 ho2 ho3 ho4 hb7 hob7 HOB HST)
        | (go_at_call 33; (with_reducible refine HOB7.out.mono ?_); rintro e w8 ⟨rfl, rfl⟩)
        | go_in)
      go_ret
      refine ⟨rfl, ?_⟩
      have z1 := HB1.out.size
      have z2 := HF2.out.size
      have z3 := HI.out.2.2.size
      have z4 := HOK.out.2.2.2.1.size
      have z5 := H5.out.2.size
      have z6 := HF6.out.size
      have hx : ∀ x ∈ [w1.heap.size + 2, w1.heap.size, w1.heap.size + 1], w.heap.size ≤ x := fun x hx => by simp at hx; omega
      exact HB1.out.trans ((lower' HF2.out z1).trans ((lower' HI.out.2.2 (by omega)).trans ((lower' HOK.out.2.2.2.1 (by omega)).trans ((H5.out.2.below (B := w.heap.size) (by omega) hx).trans ((HF6.out.below (B := w.heap.size) (by omega) hx).trans (lower' HB7.out (by omega)))))))
end Go.Proofs.Ytnjljalihjkmcaa
