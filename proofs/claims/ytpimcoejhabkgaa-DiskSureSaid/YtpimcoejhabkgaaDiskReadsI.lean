/- DiskReads: a sector that is there. -/
import Derived.Test.YtpimcoejhabkgaaDiskReadsW
import Derived.Deep.RegionHeld
import Derived.Deep.RegionWith
namespace Go.Proofs.Ytpimcoejhabkgaa
open Go.RowKit Go.Maps

theorem strAt {w : World} {A : Option Addr} {n c B : Nat} {l : List UInt8} (hr : Rd w B A (u8s l)) (hn : n = l.length) :
    (convert 36 9 (.slice A n c)).run Try.prog w = .ok (.string ⟨l.toArray⟩) w :=
  run_strB (P := Try.prog) w 36 9 5 A n c B l Try.underlying36 Try.underlying5 Try.underlying9 hn hr
theorem newGet (m i : Nat) : (DM.new (m + 1)).get i = zero64 := rfl
theorem make64 (w : World) : (Instr.makeSlice 36 (.int .i64 64) (.int .i64 64)).run Try.prog w = .ok (.slice (some ⟨w.heap.size, 0, none⟩) 64 64) (w.alloc (.cells (u8s zero64).toArray 5)) := by
  have h := run_make_row' (P := Try.prog) 36 5 (.int .u8 0) 1 Try.underlying36 infoU8 rfl .i64 .i64 64 (by omega) (by omega) w
  rw [made64] at h
  exact h
theorem filter_one (i : Nat) : ∀ n : Nat, ((List.range n).filter fun j => decide (j = i)).length = if i < n then 1 else 0
  | 0 => by simp
  | n + 1 => by
    rw [List.range_succ, List.filter_append, List.length_append, filter_one i n]
    by_cases h : i < n
    · rw [if_pos h, if_pos (by omega), List.filter_cons, if_neg (by simp; omega)]; rfl
    · by_cases e : n = i
      · rw [if_neg h, if_pos (by omega), List.filter_cons, if_pos (by simp [e])]; rfl
      · rw [if_neg h, if_neg (by omega), List.filter_cons, if_neg (by simpa using e)]; rfl
theorem written_new (m i : Nat) (b : List UInt8) (hi : i < m + 1) (M : DM) (hM : M = (DM.new (m + 1)).writeM (i : Int) (bytesL b)) : M.size = m + 1 ∧ M.get i = bytesL b ∧ M.fresh.length = 1 := by
  have e : M = (DM.new (m + 1)).written i (bytesL b) := by
    rw [hM]
    unfold DM.writeM
    rw [if_neg (by rw [bytesL_len]; show ¬ (¬ (0 ≤ (i : Int) ∧ (i : Int) < ((m + 1 : Nat) : Int)) ∨ (64 : Nat) ≠ 64); omega)]
    rfl
  subst e
  refine ⟨rfl, by simp [DM.get, DM.written], ?_⟩
  have h := filter_one i (m + 1)
  rw [if_pos hi] at h
  refine Eq.trans (congrArg List.length ?_) h
  show (List.range (m + 1)).filter _ = _
  apply List.filter_congr
  intro j _
  by_cases e : j = i <;> simp [DM.written, DM.stepped, DM.new, e]
set_option maxRecDepth 100000 in
set_option maxHeartbeats 2000000 in
theorem diskReads_in (n : Int) (i : Nat) (A : Option Addr) (b : List UInt8) (c m : Nat) (w : World) (hm : m < 4096) (hmn : wrap64 ((IntKind.u64.wrap n).tmod 4096) = (m : Int)) (hi : i < m + 1) (hr : Rd w w.heap.size A (u8s b)) (hb : b.length ≤ 4611686018427387904) :
    Calls Try.prog 5 #[.int .i64 n, .int .i64 (i : Int), .slice A b.length c] w fun e w' => e = .returned (.bool true) ∧ Below w.heap.size w w' := by
  have H1 := Lib.hid (awake_any w)
  have HR := Lib.hid hr
  have HB := Lib.hid hb
  have HB' := HB
  have HI := Lib.hid hi
  have HM := Lib.hid hm
  have hmI : (m : Int) < 4096 := by omega
  have hiI : (i : Int) < (m : Int) + 1 := by omega
  have hE : (DM.new (m + 1)).writeE (i : Int) (bytesL b) = 0 := by
    unfold DM.writeE
    rw [if_neg (by rw [bytesL_len]; show ¬ (¬ (0 ≤ (i : Int) ∧ (i : Int) < ((m + 1 : Nat) : Int)) ∨ (64 : Nat) ≠ 64); omega)]
    rfl
  have HE := Lib.hid hE
  clear hr hb hi hm hE
  go_enter Try.func5, Try.ntmps5
  go_wp2_with (first
    | (go_at_call 15; (refine H1.out.mono ?_); rintro e w1 ⟨rfl, hb1⟩)
    | (go_at_call 16; (refine (newS m w1 HM.out).mono ?_); rintro e w2 ⟨rfl, hD, hF⟩)
    | (go_at_call 27; (refine (sizeS m hD).mono ?_); rintro e w3 ⟨rfl, rfl⟩)
    | (go_at_call 24; (refine (readC (i := i) hD (newOk m HM.out).size HI.out).mono ?_); rintro e w3 ⟨gA, rfl, hA1, hA2, hrA, _, hb2⟩)
    | (go_at_call 21; (refine (bytesC A b c w.heap.size w3 (((HR.out.below hb1 (Nat.le_refl _)).below (hF.lower (C := w1.heap.size) (Nat.le_refl _) (by simp)) hb1.size).below hb2 (by have := hb1.size; have := hF.size; omega)) (by have := hb1.size; have := hF.size; have := hb2.size; omega) HB.out).mono ?_); rintro e w4 ⟨g, rfl, hg1, hg2, hr3, hb3⟩)
    | (go_at_call 20; (refine (writeC ((hD.kept hb2).kept hb3) (newOk m HM.out) (i : Int) g (bytesL b) (bytesL_len _) _ hr3 (by have := hD.lt; have := hb2.size; omega)).mono ?_); rintro e w5 ⟨he, hD5, hF5⟩; rw [HE.out] at he; subst he)
    | go_in)
  have lD := hD.lt
  have z2 := hb2.size
  have z3 := hb3.size
  have rA5 : Rd w5 w3.heap.size (some ⟨gA, 0, none⟩) (u8s zero64) := by
    have h := hrA.below hb3 (Nat.le_refl _)
    rw [newGet] at h
    refine fun hn => ?_
    obtain ⟨b', o', e', hb', hc'⟩ := h hn
    cases e'
    exact ⟨gA, 0, rfl, hb', fun j u hu => by rw [← hc' j u hu]; exact World.cell?_of_block (hF5.block gA (by omega) (by simp; omega))⟩
  have z5 := hF5.size
  have z45 : w3.heap.size ≤ w5.heap.size := by omega
  have hmk := make64 w5.drew
  have hsz : (w5.drew.alloc (.cells (u8s zero64).toArray 5)).heap.size = w5.heap.size + 1 := by simp
  have rN : Rd (w5.drew.alloc (.cells (u8s zero64).toArray 5)) (w5.heap.size + 1) (some ⟨w5.heap.size, 0, none⟩) (u8s zero64) := Rd.new w5.drew (u8s zero64).toArray 5 (0, 0)
  have q1 := strAt (n := 64) (c := 64) rA5.drew zero64_len.symm
  have q2 := strAt (n := 64) (c := 64) (rA5.drew.alloc (by show w3.heap.size ≤ w5.heap.size; omega) (.cells (u8s zero64).toArray 5)) zero64_len.symm
  have q3 := strAt (n := 64) (c := 64) rN zero64_len.symm
  have rN2 : Rd (w5.alloc (.cells (u8s zero64).toArray 5)).drew (w5.heap.size + 1) (some ⟨w5.heap.size, 0, none⟩) (u8s zero64) := (Rd.new w5 (u8s zero64).toArray 5 (0, 0)).drew
  have q4 := strAt (n := 64) (c := 64) rN2 zero64_len.symm
  have q5 := strAt (n := 64) (c := 64) (rA5.alloc z45 (.cells (u8s zero64).toArray 5)).drew zero64_len.symm
  have hDZ : DiskM (w5.alloc (.cells (u8s zero64).toArray 5)).drew (w1.heap.size + 2) w1.heap.size (w1.heap.size + 1) ((DM.new (m + 1)).writeM (i : Int) (bytesL b)) 1 := hD5.alloc _
  have hBZ : Below w.heap.size w (w5.alloc (.cells (u8s zero64).toArray 5)).drew := ((((hb1.trans (hF.lower hb1.size (by simp))).trans ((lower hb2 (by have := hb1.size; have := hF.size; omega)).trans (lower hb3 (by have := hb1.size; have := hF.size; omega)))).trans (hF5.lower (by have := hb1.size; have := hF.size; omega) (by have := hb1.size; simp; omega))).alloc (by have := hb1.size; have := hF.size; omega) _).drew
  have HZ := Lib.hid (And.intro hDZ (And.intro hBZ (HR.out.below hBZ (Nat.le_refl _))))
  clear hDZ hBZ
  clear rN2 hrA rA5 rN hr3 hD hF hb2 hb3 hb1 hD5 hF5 lD z2 z3 z5 hsz HR H1 HB HE
  go_region_held (fun w' => (convert 36 9 (.slice (some ⟨gA, 0, none⟩) 64 64)).run Try.prog w' = .ok (.string ⟨zero64.toArray⟩) w')
    (first
      | exact q1
      | exact q2
      | exact q5)
    (fail)
  generalize (w5.alloc (.cells (u8s zero64).toArray 5)).drew = W6 at HZ ⊢
  obtain ⟨M, hM⟩ : ∃ M, M = (DM.new (m + 1)).writeM (i : Int) (bytesL b) := ⟨_, rfl⟩
  rw [← hM] at HZ
  obtain ⟨hMs, hMg, hMf⟩ := written_new m i b HI.out M hM
  have hrd := fun (W : World) (h : DiskM W (w1.heap.size + 2) w1.heap.size (w1.heap.size + 1) M 1) => readM (i := i) h (by rw [hMs]; have := HM.out; omega) (by rw [hMs]; exact HI.out)
  rw [hMg] at hrd
  have HRD := Lib.hid hrd
  have HMF := Lib.hid hMf
  clear hrd hM hMs hMg hMf q1 q2 q3 q4 q5
  go_upto_region 16 with (first
    | (go_at_call 24; (refine (HRD.out W6 HZ.out.1).mono ?_); rintro e w7 ⟨rfl, rfl, hl7⟩)
    | go_in)
  have hB7 : Below W6.heap.size W6 (W6.alloc (.cells (u8s (bytesL b)).toArray 101)) := (Below.refl _ _).alloc (Nat.le_refl _) _
  have hg7 : (W6.alloc (.cells (u8s (bytesL b)).toArray 101)).heap[W6.heap.size]? = some (.cells (u8s (bytesL b)).toArray 101) := heap_alloc_new W6 _
  have H7 := Lib.hid (And.intro hB7 hg7)
  clear hB7 hg7
  go_loopw [14, 96] (fun _ i wr => ∃ k : Nat, k ≤ 64 ∧ i = .int .i64 (k : Int) ∧ (∃ xs : Array Value, wr.heap[W6.heap.size]? = some (.cells xs 101) ∧ xs.size = 64 ∧ ∀ j (h : j < xs.size), ∃ x : Int, xs[j] = .int .u8 x) ∧ Below W6.heap.size W6 wr)
    (fun _ i _ => 64 - (intOf i).toNat)
  case atStart => exact ⟨0, by omega, rfl, ⟨_, H7.out.2, by rw [List.size_toArray, u8s_len, bytesL_len], fun j h => ⟨_, by rw [List.getElem_toArray]; exact u8s_get _ j (by simpa [u8s_len] using h)⟩⟩, H7.out.1⟩
  case round =>
    obtain ⟨k, hk, rfl, ⟨xs, hg, hxs, hx⟩, hb⟩ := hrel
    have hkI : (k : Int) ≤ 64 := by omega
    by_cases hk64 : k < 64
    · have hkl : (k : Int) < 64 := by omega
      obtain ⟨x, hxk⟩ := hx k (by omega)
      have hold : wr.cell? ⟨W6.heap.size, k, none⟩ = some (.int .u8 x) := by
        rw [cell_of_row wr W6.heap.size k _ _ _ hg, Array.getElem?_eq_getElem (by omega), hxk]
      have hfz := frozen_of_row wr W6.heap.size k _ _ hg
      have HK := Lib.hid (And.intro hg (And.intro hxs (And.intro hx hb)))
      clear hg hxs hx hb hxk
      go_wp2_with go_in
      have hgs := HK.out.1
      have hsz := HK.out.2.1
      have hxx := HK.out.2.2.1
      refine ⟨⟨k + 1, hk64, by simp, ⟨_, heap_setCell_same wr W6.heap.size k xs _ _ hgs, by simpa using hsz, fun j h => ?_⟩, HK.out.2.2.2.setCell (Nat.le_refl _) _⟩, by simp [intOf]; omega⟩
      rw [Array.getElem_setIfInBounds]
      split
      · exact ⟨_, rfl⟩
      · exact hxx j (by simpa using h)
    · obtain rfl : k = 64 := by omega
      have hBw : Below w.heap.size w wr := HZ.out.2.1.trans (lower hb HZ.out.2.1.size)
      have hDw : DiskM wr (w1.heap.size + 2) w1.heap.size (w1.heap.size + 1) M 1 := HZ.out.1.kept hb
      have hRw := HZ.out.2.2.below hb HZ.out.2.1.size
      have HW := Lib.hid (And.intro hDw (And.intro hBw hRw))
      clear hg hxs hx hb hBw hDw hRw
      go_upto_region 21 with (first
        | (go_at_call 24; (refine (HRD.out wr HW.out.1).mono ?_); rintro e w8 ⟨rfl, rfl, hl8⟩)
        | go_in)
      have rz : Rd (wr.alloc (.cells (u8s (bytesL b)).toArray 101)) (wr.heap.size + 1) (some ⟨wr.heap.size, 0, none⟩) (u8s (bytesL b)) := Rd.new wr (u8s (bytesL b)).toArray 101 (0, 0)
      have b8 : Below wr.heap.size wr (wr.alloc (.cells (u8s (bytesL b)).toArray 101)) := (Below.refl _ _).alloc (Nat.le_refl _) _
      have s8 : (wr.alloc (.cells (u8s (bytesL b)).toArray 101)).heap.size = wr.heap.size + 1 := by simp
      have hD8 := HW.out.1.kept b8
      have hR8 := HW.out.2.2.below b8 HW.out.2.1.size
      have hB8 := HW.out.2.1.trans (lower b8 HW.out.2.1.size)
      generalize wr.alloc (.cells (u8s (bytesL b)).toArray 101) = W8 at rz b8 s8 hD8 hR8 hB8 ⊢
      rw [← s8] at rz
      have hKS : ∀ w', Below W8.heap.size W8 w' → (Below W8.heap.size W8 w' ∧ (convert 36 9 (.slice (some ⟨wr.heap.size, 0, none⟩) 64 64)).run Try.prog w' = .ok (.string ⟨(bytesL b).toArray⟩) w') := fun w' h =>
        ⟨h, strAt (rz.below h (Nat.le_refl _)) (bytesL_len b).symm⟩
      have KS := Lib.hid hKS
      have HW8 := Lib.hid (And.intro hD8 (And.intro hR8 hB8))
      have HBC := Lib.hid (bytesC A b c w.heap.size W8.drew hR8.drew hB8.size HB'.out)
      clear rz b8 s8 hD8 hR8 hB8 hKS
      go_region_held (fun w' => Below W8.heap.size W8 w' ∧ (convert 36 9 (.slice (some ⟨wr.heap.size, 0, none⟩) 64 64)).run Try.prog w' = .ok (.string ⟨(bytesL b).toArray⟩) w')
        (first
          | exact KS.out _ (Below.refl _ _).drew
          | exact KS.out _ hB10
          | exact KS.out _ hB9
          | assumption)
        (first
          | (go_at_call 21; (with_reducible refine HBC.out.mono ?_); rintro e w9 ⟨g9, rfl, hg91, hg92, hr9, hb9⟩; have hB9 : Below W8.heap.size W8 w9 := (Below.refl _ _).drew.trans hb9; have hcv9 := strAt (n := 64) (c := 64) hr9 (bytesL_len b).symm)
          | (go_at_call 25; have hun := unsureM (HW8.out.1.kept hB9) (by omega); rw [HMF.out] at hun; (with_reducible refine hun.mono ?_); clear hun; rintro e w10 ⟨v10, rfl, hrow, hb10⟩; obtain ⟨A10, c10, rfl, _, _, _⟩ := own_shape hrow; have hB10 : Below W8.heap.size W8 w10 := hB9.trans (lower hb10 hB9.size)))
      all_goals
        go_wp2
        go_ret
        exact ⟨rfl, HW8.out.2.2.trans (lower hB10 HW8.out.2.2.size)⟩
theorem diskReads_walk (n i : Int) (A : Option Addr) (b : List UInt8) (c : Nat) (w : World) (hr : Rd w w.heap.size A (u8s b)) (hbc : b.length ≤ c) (hc : c ≤ 140737488351232) :
    Calls Try.prog 5 #[.int .i64 n, .int .i64 i, .slice A b.length c] w fun e w' => e = .returned (.bool true) ∧ Below w.heap.size w w' := by
  obtain ⟨m, hm, hmn⟩ := reads_n n
  by_cases hi : 0 ≤ i ∧ i < (m : Int) + 1
  · obtain ⟨k, rfl⟩ : ∃ k : Nat, i = k := ⟨i.toNat, by omega⟩
    exact diskReads_in n k A b c m w hm hmn (by omega) hr (by omega)
  · exact diskReads_out n i A b c m w hm hmn hi hr (by omega)
end Go.Proofs.Ytpimcoejhabkgaa
