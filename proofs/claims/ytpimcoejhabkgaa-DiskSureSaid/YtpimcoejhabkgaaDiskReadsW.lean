/- DiskReads: the walk. -/
import Derived.Test.YtpimcoejhabkgaaDskO
namespace Go.Proofs.Ytpimcoejhabkgaa
open Go.RowKit Go.Maps

theorem reads_n (n : Int) : ∃ m : Nat, m < 4096 ∧ wrap64 ((IntKind.u64.wrap n).tmod 4096) = (m : Int) := by
  have h0 : 0 ≤ IntKind.u64.wrap n := by
    rw [IntKind.wrap_u64]
    omega
  generalize IntKind.u64.wrap n = u at h0
  have h1 := Int.tmod_lt_of_pos u (show (0 : Int) < 4096 by omega)
  have h2 := Int.tmod_nonneg 4096 h0
  refine ⟨(u.tmod 4096).toNat, by omega, ?_⟩
  unfold wrap64
  omega
theorem newS (m : Nat) (w : World) (hm : m < 4096) :
    Calls Try.prog 16 #[.int .i64 ((m : Int) + 1)] w fun e w' => e = .returned (.tuple #[.pointer (some ⟨w.heap.size + 2, 0, none⟩), .int .i64 0]) ∧ DiskM w' (w.heap.size + 2) w.heap.size (w.heap.size + 1) (DM.new (m + 1)) 0 ∧ Fr w w' [] :=
  newM (m + 1) w (by omega) (by omega)
theorem sizeS {w : World} {p bs bw T : Nat} (m : Nat) (h : DiskM w p bs bw (DM.new (m + 1)) T) : Calls Try.prog 27 #[.pointer (some ⟨p, 0, none⟩)] w fun e w' => e = .returned (.int .i64 ((m : Int) + 1)) ∧ w = w' := sizeM h
theorem newOk (m : Nat) (hm : m < 4096) : (DM.new (m + 1)).Ok 0 := ⟨by show m + 1 ≤ 4096; omega, by show 0 ≤ _; omega, by show 0 ≤ _; omega, by omega⟩
theorem bytesC (A : Option Addr) (b : List UInt8) (c B : Nat) (w : World) (hr : Rd w B A (u8s b)) (hB : B ≤ w.heap.size) (hb : b.length ≤ 4611686018427387904) :
    Calls Try.prog 21 #[.slice A b.length c] w fun e w' => ∃ g, e = .returned (.slice (some ⟨g, 0, none⟩) 64 64) ∧ w.heap.size ≤ g ∧ g < w'.heap.size ∧ Rd w' w'.heap.size (some ⟨g, 0, none⟩) (u8s (bytesL b)) ∧ Below w.heap.size w w' := by
  refine (bytes_any A b c B w hr hB hb).mono ?_
  rintro e w' ⟨rfl, hg, hb⟩
  have hlt := (Array.getElem?_eq_some_iff.1 hg).1
  refine ⟨_, rfl, Nat.le_refl _, hlt, fun _ => ⟨_, 0, rfl, hlt, fun j u hu => ?_⟩, hb⟩
  rw [cell_of_row _ _ _ _ _ _ hg]
  simpa using hu

theorem lower {B C : Nat} {a b : World} (h : Below B a b) (hB : C ≤ B) : Below C a b := ⟨h.os, h.tape, h.output, h.size, fun k hk => h.block k (by omega)⟩
theorem Fr.lower {a b : World} {S : List Nat} {C : Nat} (h : Fr a b S) (hC : C ≤ a.heap.size) (hS : ∀ x ∈ S, C ≤ x) : Below C a b := h.below hC hS

set_option maxRecDepth 100000 in
set_option maxHeartbeats 2000000 in
theorem diskReads_out (n i : Int) (A : Option Addr) (b : List UInt8) (c m : Nat) (w : World) (hm : m < 4096) (hmn : wrap64 ((IntKind.u64.wrap n).tmod 4096) = (m : Int)) (hi : ¬ (0 ≤ i ∧ i < (m : Int) + 1)) (hr : Rd w w.heap.size A (u8s b)) (hb : b.length ≤ 4611686018427387904) :
    Calls Try.prog 5 #[.int .i64 n, .int .i64 i, .slice A b.length c] w fun e w' => e = .returned (.bool true) ∧ Below w.heap.size w w' := by
  have H1 := Lib.hid (awake_any w)
  have HR := Lib.hid hr
  have HB := Lib.hid hb
  have HI := Lib.hid hi
  have HM := Lib.hid hm
  have hmI : (m : Int) < 4096 := by omega
  have hE : (DM.new (m + 1)).writeE i (bytesL b) = 1 := if_pos (.inl hi)
  have HE := Lib.hid hE
  have hS : (((DM.new (m + 1)).writeM i (bytesL b)).steps : Int) = 0 := by unfold DM.writeM; rw [if_pos (.inl hi)]; rfl
  have HS := Lib.hid hS
  clear hr hb hi hm hE hS
  by_cases hneg : i < 0
  · go_enter Try.func5, Try.ntmps5
    go_wp2_with (first
      | (go_at_call 15; (refine H1.out.mono ?_); rintro e w1 ⟨rfl, hb1⟩)
      | (go_at_call 16; (refine (newS m w1 HM.out).mono ?_); rintro e w2 ⟨rfl, hD, hF⟩)
      | (go_at_call 27; (refine (sizeS m hD).mono ?_); rintro e w3 ⟨rfl, rfl⟩)
      | (go_at_call 24; (refine (readM_bad hD HI.out).mono ?_); rintro e w3 ⟨rfl, rfl⟩)
      | (go_at_call 21; (refine (bytesC A b c w.heap.size w2 ((HR.out.below hb1 (Nat.le_refl _)).below (hF.lower (C := w1.heap.size) (Nat.le_refl _) (by simp)) hb1.size) (by have := hb1.size; have := hF.size; omega) HB.out).mono ?_); rintro e w3 ⟨g, rfl, hg1, hg2, hr3, hb3⟩)
      | (go_at_call 20; (refine (writeC (hD.kept hb3) (newOk m HM.out) i g (bytesL b) (bytesL_len _) _ hr3 (by have := hD.lt; omega)).mono ?_); rintro e w4 ⟨he, hD4, hF4⟩; rw [HE.out] at he; subst he)
      | (go_at_call 26; (refine (stepsM hD4).mono ?_); rintro e w5 ⟨he, rfl⟩; rw [HS.out] at he; subst he)
      | go_in)
    go_ret
    refine ⟨rfl, ?_⟩
    have z1 := hb1.size
    have z2 := hF.size
    have z3 := hb3.size
    exact hb1.trans ((hF.lower z1 (by simp)).trans ((lower hb3 (by omega)).trans (hF4.lower (by omega) (by simp; omega))))
  · have hge : (m : Int) + 1 ≤ i := by have := HI.out; omega
    go_enter Try.func5, Try.ntmps5
    go_wp2_with (first
      | (go_at_call 15; (refine H1.out.mono ?_); rintro e w1 ⟨rfl, hb1⟩)
      | (go_at_call 16; (refine (newS m w1 HM.out).mono ?_); rintro e w2 ⟨rfl, hD, hF⟩)
      | (go_at_call 27; (refine (sizeS m hD).mono ?_); rintro e w3 ⟨rfl, rfl⟩)
      | (go_at_call 24; (refine (readM_bad hD HI.out).mono ?_); rintro e w3 ⟨rfl, rfl⟩)
      | (go_at_call 21; (refine (bytesC A b c w.heap.size w2 ((HR.out.below hb1 (Nat.le_refl _)).below (hF.lower (C := w1.heap.size) (Nat.le_refl _) (by simp)) hb1.size) (by have := hb1.size; have := hF.size; omega) HB.out).mono ?_); rintro e w3 ⟨g, rfl, hg1, hg2, hr3, hb3⟩)
      | (go_at_call 20; (refine (writeC (hD.kept hb3) (newOk m HM.out) i g (bytesL b) (bytesL_len _) _ hr3 (by have := hD.lt; omega)).mono ?_); rintro e w4 ⟨he, hD4, hF4⟩; rw [HE.out] at he; subst he)
      | (go_at_call 26; (refine (stepsM hD4).mono ?_); rintro e w5 ⟨he, rfl⟩; rw [HS.out] at he; subst he)
      | go_in)
    go_ret
    refine ⟨rfl, ?_⟩
    have z1 := hb1.size
    have z2 := hF.size
    have z3 := hb3.size
    exact hb1.trans ((hF.lower z1 (by simp)).trans ((lower hb3 (by omega)).trans (hF4.lower (by omega) (by simp; omega))))
end Go.Proofs.Ytpimcoejhabkgaa
