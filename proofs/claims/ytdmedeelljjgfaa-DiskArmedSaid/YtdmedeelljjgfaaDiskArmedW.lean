/- DiskArmed: the walk. -/
import Derived.Test.YtdmedeelljjgfaaDskO
namespace Go.Proofs.Ytdmedeelljjgfaa
open Go.RowKit Go.Maps

theorem arm_n (n : Int) : ∃ m : Nat, m < 50 ∧ wrap64 ((IntKind.u64.wrap n).tmod 50) = (m : Int) := by
  have h0 : 0 ≤ IntKind.u64.wrap n := by
    rw [IntKind.wrap_u64]
    omega
  generalize IntKind.u64.wrap n = u at h0
  have h1 := Int.tmod_lt_of_pos u (show (0 : Int) < 50 by omega)
  have h2 := Int.tmod_nonneg 50 h0
  refine ⟨(u.tmod 50).toNat, by omega, ?_⟩
  unfold wrap64
  omega

/-- The disk behind k steps, armed with m. -/
structure ArmedAt (M : DM) (m k : Nat) : Prop where
  size : M.size = 60
  armed : M.armed = true
  left : M.left = m - k
  steps : M.steps = min k m
theorem ArmedAt.dead {M : DM} {m k : Nat} (h : ArmedAt M m k) : M.dead = decide (m ≤ k) := by
  unfold DM.dead
  rw [h.armed, h.left, Bool.true_and]
  by_cases e : m ≤ k
  · rw [decide_eq_true e, show m - k = 0 by omega]; rfl
  · rw [decide_eq_false e]
    exact beq_false_of_ne (by omega)
theorem ArmedAt.stay {M : DM} {m k : Nat} (h : ArmedAt M m k) (hk : m ≤ k) : ArmedAt M m (k + 1) := ⟨h.size, h.armed, by rw [h.left]; omega, by rw [h.steps]; omega⟩
theorem ArmedAt.step {M M' : DM} {m k : Nat} (h : ArmedAt M m k) (hk : k < m) (h1 : M'.size = M.size) (h2 : M'.armed = M.armed) (h3 : M'.left = M.stepped.left) (h4 : M'.steps = M.stepped.steps) : ArmedAt M' m (k + 1) := by
  refine ⟨h1.trans h.size, h2.trans h.armed, ?_, ?_⟩
  · rw [h3]; show (if M.armed then M.left - 1 else M.left) = _
    rw [h.armed, if_pos rfl, h.left]; omega
  · rw [h4]; show M.steps + 1 = _
    rw [h.steps]; omega
theorem ArmedAt.flush {M : DM} {m k : Nat} (h : ArmedAt M m k) : M.flushE = (if k < m then 0 else 30) ∧ ArmedAt M.flushM m (k + 1) := by
  unfold DM.flushE DM.flushM
  rw [h.dead]
  by_cases e : m ≤ k
  · rw [decide_eq_true e, if_neg (show ¬ k < m by omega)]; exact ⟨rfl, h.stay e⟩
  · rw [decide_eq_false e, if_pos (show k < m by omega)]; exact ⟨rfl, h.step (by omega) rfl rfl rfl rfl⟩
theorem ArmedAt.write {M : DM} {m k : Nat} (h : ArmedAt M m k) (hk : k < 60) (l : List UInt8) (hl : l.length = 64) : M.writeE k l = (if k < m then 0 else 30) ∧ ArmedAt (M.writeM k l) m (k + 1) := by
  unfold DM.writeE DM.writeM
  have hn : ¬ (¬ (0 ≤ (k : Int) ∧ (k : Int) < M.size) ∨ l.length ≠ 64) := by
    rw [h.size, hl]; omega
  rw [if_neg hn, if_neg hn, h.dead]
  by_cases e : m ≤ k
  · rw [decide_eq_true e, if_neg (show ¬ k < m by omega)]; exact ⟨rfl, h.stay e⟩
  · rw [decide_eq_false e, if_pos (show k < m by omega)]; exact ⟨rfl, h.step (by omega) rfl rfl rfl rfl⟩
theorem ArmedAt.ok {M : DM} {m k T : Nat} (h : ArmedAt M m k) (hm : m < 50) (hT : T ≤ 1000000000) : M.Ok T := ⟨by rw [h.size]; omega, by rw [h.steps]; omega, by rw [h.left]; omega, hT⟩

theorem arm60 (m : Nat) : (DM.new 60).armE (m : Int) = 0 ∧ ArmedAt ((DM.new 60).armM (m : Int)) m 0 := by
  have h : ¬ ((m : Int) < 0) := by omega
  unfold DM.armE DM.armM
  rw [if_neg h, if_neg h]
  exact ⟨rfl, rfl, rfl, by show ((m : Int)).toNat = m - 0; omega, by show 0 = min 0 m; omega⟩
theorem armed_done {M : DM} {m : Nat} (h : ArmedAt M m (m + 3)) : M.steps = m ∧ M.armE 5 = 30 ∧ M.armE (-1) = 1 ∧ M.armM 5 = M := by
  have hd : M.dead = true := by rw [h.dead]; exact decide_eq_true (by omega)
  refine ⟨by rw [h.steps]; omega, ?_, rfl, ?_⟩
  · unfold DM.armE; rw [hd]; rfl
  · unfold DM.armM; rw [hd]; rfl
theorem below_lower {B C : Nat} {a b : World} (h : Below B a b) (hB : C ≤ B) : Below C a b := ⟨h.os, h.tape, h.output, h.size, fun k hk => h.block k (by omega)⟩
theorem armed_end {w w3 : World} {p bs bw m k : Nat} {M : DM} (hk : k < m + 3) (ha : ArmedAt M m (k + 1)) (hD : DiskM w3 p bs bw M (k + 1)) (hb : Below w.heap.size w w3) :
    (∃ k_1 : Nat, k_1 ≤ m + 3 ∧ Value.int IntKind.i64 ((k : Int) + 1) = Value.int IntKind.i64 (k_1 : Int) ∧ ∃ M, ArmedAt M m k_1 ∧ DiskM w3 p bs bw M k_1 ∧ Below w.heap.size w w3) ∧
      m + 3 - (intOf (Value.int IntKind.i64 ((k : Int) + 1))).toNat < m + 3 - (intOf (Value.int IntKind.i64 (k : Int))).toNat :=
  ⟨⟨k + 1, hk, by simp, M, ha, hD, hb⟩, by simp [intOf]; omega⟩

set_option maxRecDepth 100000 in
set_option maxHeartbeats 2000000 in
theorem diskArmed_walk (n : Int) (A : Option Addr) (flush : List Bool) (c : Nat) (w : World) (hr : Rd w w.heap.size A (flush.map Value.bool)) :
    Calls Try.prog 6 #[.int .i64 n, .slice A flush.length c] w fun e w' => e = .returned (.bool true) ∧ Below w.heap.size w w' := by
  have H1 := Lib.hid (awake_any w)
  obtain ⟨m, hm, hmn⟩ := arm_n n
  have HR := Lib.hid hr
  have hmI : (m : Int) < 50 := by omega
  clear hr
  go_enter Try.func6, Try.ntmps6
  go_wp2_with (first
    | (go_at_call 9; (refine H1.out.mono ?_); rintro e w1 ⟨rfl, hb1⟩)
    | (go_at_call 10; (refine (newM 60 w1 (by omega) (by omega)).mono ?_); rintro e w2 ⟨rfl, hD, hF⟩)
    | (go_at_call 22; (refine (armM hD (m : Int)).mono ?_); rintro e w3 ⟨he, hD3, hF3⟩; rw [(arm60 m).1] at he; subst he)
    | go_in)
  have hA0 := (arm60 m).2
  have z1 := hb1.size
  have zD := hD.lt
  have f2 : Below w.heap.size w1 w2 := hF.below z1 (by simp)
  have f3 : Below w.heap.size w2 w3 := hF3.below (by have := f2.size; omega) (by simp; omega)
  have hbw : Below w.heap.size w w3 := hb1.trans (f2.trans f3)
  have HZ := Lib.hid (And.intro z1 hbw)
  have hD3' := hD3
  have HA0 := Lib.hid (And.intro hA0 hD3')
  clear hb1 hF hF3 hD3 hD3' hD z1 zD f2 f3 hbw hA0
  go_loopw [6, 7] (fun _ i wr => ∃ k : Nat, k ≤ m + 3 ∧ i = .int .i64 (k : Int) ∧ ∃ M, ArmedAt M m k ∧ DiskM wr (w1.heap.size + 2) w1.heap.size (w1.heap.size + 1) M k ∧ Below w.heap.size w wr)
    (fun _ i _ => m + 3 - (intOf i).toNat)
  case atStart => exact ⟨0, by omega, rfl, _, HA0.out.1, HA0.out.2, HZ.out.2⟩
  case round =>
    obtain ⟨k, hk, rfl, M, ha, hD, hb⟩ := hrel
    have hkI0 : (k : Int) ≤ (m : Int) + 3 := by omega
    by_cases hkl : k < m + 3
    · have hkI1 : (k : Int) < (m : Int) + 3 := by omega
      have hok := ha.ok (T := k) hm (by omega)
      have HK := Lib.hid hkl
      have HX := Lib.hid (show w.heap.size ≤ wr.heap.size ∧ Below w.heap.size w wr ∧ w1.heap.size + 2 < wr.heap.size ∧ DiskM wr (w1.heap.size + 2) w1.heap.size (w1.heap.size + 1) M k from ⟨hb.size, hb, hD.lt.1, hD⟩)
      have HW := Lib.hid HZ.out.1
      by_cases hkf : k < flush.length
      · obtain ⟨kb, ko, rfl, hkb, hck⟩ := HR.out.get (k := k) (by simpa using hkf)
        have hcw : wr.cell? ⟨kb, ko + k, none⟩ = some (.bool flush[k]) := by
          have h := hck
          simp only [List.getElem_map] at h
          rw [← h]; exact hb.cell (p := ⟨kb, ko + k, none⟩) hkb
        have hkK : (k : Int) < (flush.length : Int) := by omega
        obtain ⟨b, hbe⟩ : ∃ b, b = flush[k] := ⟨_, rfl⟩
        rw [← hbe] at hcw
        clear hbe hck hkb hkf hb hk
        cases b with
        | true =>
          have hst := ha.flush
          have hcall := flushM hD hok
          by_cases hkm : k < m
          · rw [if_pos hkm] at hst
            rw [hst.1] at hcall
            have HC := Lib.hid hcall
            have HE := Lib.hid hst
            have hkI : (k : Int) < (m : Int) := by omega
            clear hcall hst hkm hD ha hok
            go_wp2_with (first
              | (go_at_call 16; (refine HC.out.mono ?_); rintro e w3 ⟨rfl, hD3, hF3⟩)
              | go_in)
            exact armed_end HK.out HE.out.2 (hD3.mono (by omega)) (HX.out.2.1.trans (hF3.below HX.out.1 (by have hW := HW.out; simp; omega)))
          · rw [if_neg hkm] at hst
            rw [hst.1] at hcall
            have HC := Lib.hid hcall
            have HE := Lib.hid hst
            have hkI : ¬ ((k : Int) < (m : Int)) := by omega
            clear hcall hst hkm hD ha hok
            go_wp2_with (first
              | (go_at_call 16; (refine HC.out.mono ?_); rintro e w3 ⟨rfl, hD3, hF3⟩)
              | go_in)
            exact armed_end HK.out HE.out.2 (hD3.mono (by omega)) (HX.out.2.1.trans (hF3.below HX.out.1 (by have hW := HW.out; simp; omega)))
        | false =>
          have hst := ha.write (by omega) (bytesL [9]) (bytesL_len _)
          have hcall := fun (w3 : World) (g : Nat) (hg : g ≠ w1.heap.size + 2) (h : DiskM w3 (w1.heap.size + 2) w1.heap.size (w1.heap.size + 1) M k) (hr : Rd w3 w3.heap.size (some ⟨g, 0, none⟩) (u8s (bytesL [9]))) => writeC h hok (k : Int) g (bytesL [9]) (bytesL_len _) _ hr hg
          by_cases hkm : k < m
          · rw [if_pos hkm] at hst
            rw [hst.1] at hcall
            have HC := Lib.hid hcall
            have HE := Lib.hid hst
            have hkI : (k : Int) < (m : Int) := by omega
            clear hcall hst hkm hD ha hok
            go_wp2_with (first
              | (go_at_call 15; (refine (bytes_one 9 wr).mono ?_); rintro e w3 ⟨g, rfl, hg1, hg2, hr, hb3⟩)
                | (go_at_call 14; (refine (HC.out w3 g (by have := HX.out.2.2.1; omega) (HX.out.2.2.2.kept hb3) hr).mono ?_); rintro e w4 ⟨rfl, hD4, hF4⟩)
              | go_in)
            exact armed_end HK.out HE.out.2 hD4 (HX.out.2.1.trans ((below_lower hb3 HX.out.1).trans (hF4.below (by have := hb3.size; have := HX.out.1; omega) (by have hW := HW.out; simp; omega))))
          · rw [if_neg hkm] at hst
            rw [hst.1] at hcall
            have HC := Lib.hid hcall
            have HE := Lib.hid hst
            have hkI : ¬ ((k : Int) < (m : Int)) := by omega
            clear hcall hst hkm hD ha hok
            go_wp2_with (first
              | (go_at_call 15; (refine (bytes_one 9 wr).mono ?_); rintro e w3 ⟨g, rfl, hg1, hg2, hr, hb3⟩)
                | (go_at_call 14; (refine (HC.out w3 g (by have := HX.out.2.2.1; omega) (HX.out.2.2.2.kept hb3) hr).mono ?_); rintro e w4 ⟨rfl, hD4, hF4⟩)
              | go_in)
            exact armed_end HK.out HE.out.2 hD4 (HX.out.2.1.trans ((below_lower hb3 HX.out.1).trans (hF4.below (by have := hb3.size; have := HX.out.1; omega) (by have hW := HW.out; simp; omega))))
      · have hkK : ¬ ((k : Int) < (flush.length : Int)) := by omega
        clear hkf hb hk
        have hst := ha.write (by omega) (bytesL [9]) (bytesL_len _)
        have hcall := fun (w3 : World) (g : Nat) (hg : g ≠ w1.heap.size + 2) (h : DiskM w3 (w1.heap.size + 2) w1.heap.size (w1.heap.size + 1) M k) (hr : Rd w3 w3.heap.size (some ⟨g, 0, none⟩) (u8s (bytesL [9]))) => writeC h hok (k : Int) g (bytesL [9]) (bytesL_len _) _ hr hg
        by_cases hkm : k < m
        · rw [if_pos hkm] at hst
          rw [hst.1] at hcall
          have HC := Lib.hid hcall
          have HE := Lib.hid hst
          have hkI : (k : Int) < (m : Int) := by omega
          clear hcall hst hkm hD ha hok
          go_wp2_with (first
            | (go_at_call 15; (refine (bytes_one 9 wr).mono ?_); rintro e w3 ⟨g, rfl, hg1, hg2, hr, hb3⟩)
              | (go_at_call 14; (refine (HC.out w3 g (by have := HX.out.2.2.1; omega) (HX.out.2.2.2.kept hb3) hr).mono ?_); rintro e w4 ⟨rfl, hD4, hF4⟩)
            | go_in)
          exact armed_end HK.out HE.out.2 hD4 (HX.out.2.1.trans ((below_lower hb3 HX.out.1).trans (hF4.below (by have := hb3.size; have := HX.out.1; omega) (by have hW := HW.out; simp; omega))))
        · rw [if_neg hkm] at hst
          rw [hst.1] at hcall
          have HC := Lib.hid hcall
          have HE := Lib.hid hst
          have hkI : ¬ ((k : Int) < (m : Int)) := by omega
          clear hcall hst hkm hD ha hok
          go_wp2_with (first
            | (go_at_call 15; (refine (bytes_one 9 wr).mono ?_); rintro e w3 ⟨g, rfl, hg1, hg2, hr, hb3⟩)
              | (go_at_call 14; (refine (HC.out w3 g (by have := HX.out.2.2.1; omega) (HX.out.2.2.2.kept hb3) hr).mono ?_); rintro e w4 ⟨rfl, hD4, hF4⟩)
            | go_in)
          exact armed_end HK.out HE.out.2 hD4 (HX.out.2.1.trans ((below_lower hb3 HX.out.1).trans (hF4.below (by have := hb3.size; have := HX.out.1; omega) (by have hW := HW.out; simp; omega))))
    · obtain rfl : k = m + 3 := by omega
      have hE := armed_done ha
      have HE := Lib.hid hE
      have hz60 : M.size ≤ 4096 := by rw [ha.size]; omega
      have hi59 : 59 < M.size := by rw [ha.size]; omega
      have HD := Lib.hid (And.intro hD (And.intro hb (And.intro hz60 hi59)))
      have HW := Lib.hid HZ.out.1
      have hkI1 : ¬ (((m + 3 : Nat) : Int) < (m : Int) + 3) := by omega
      have tok1 : True := trivial
      clear hE ha hD hb hk hz60 hi59 hkl
      go_wp2_with (first
        | (go_at_call 18; (refine (readC (i := 59) HD.out.1 HD.out.2.2.1 HD.out.2.2.2).mono ?_); rintro e w4 ⟨gA, rfl, hA1, hA2, hrA, _, hb4⟩; have hD4 := HD.out.1.kept hb4)
        | (go_at_call 20; (refine (stepsM hD4).mono ?_); rintro e w5 ⟨he, rfl⟩; rw [HE.out.1] at he; subst he)
        | (go_at_call 22; have _t := tok1; (refine (armM hD4 5).mono ?_); rintro e w6 ⟨he, hD6, hF6⟩; rw [HE.out.2.1] at he; subst he; rw [HE.out.2.2.2] at hD6; clear tok1 _t)
        | (go_at_call 22; (refine (armM hD6 (-1)).mono ?_); rintro e w7 ⟨he, hD7, hF7⟩; rw [HE.out.2.2.1] at he; subst he)
        | go_in)
      go_ret
      refine ⟨rfl, ?_⟩
      have hW := HW.out
      have hb := HD.out.2.1
      have z1 := hb.size
      have z4 := hb4.size
      have f6 : Below w.heap.size w4 w6 := hF6.below (by omega) (by simp; omega)
      have z6 := f6.size
      have f7 : Below w.heap.size w6 w7 := hF7.below (by omega) (by simp; omega)
      exact hb.trans ((below_lower hb4 z1).trans (f6.trans f7))
end Go.Proofs.Ytdmedeelljjgfaa
