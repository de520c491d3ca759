/- The law's Tells. -/
import Derived.Test.YtdjcpjfomgfjlaaRefH
import Derived.Deep.RegionHeld3
namespace Go.Proofs.Ytdjcpjfomgfjlaa
open Go.RowKit Go.Maps

/-- A disk, and the document's of the same. -/
structure Both (w : World) (p bs bw T : Nat) (M : DM) (v : Value) : Prop where
  disk : DiskM w p bs bw M T
  ref : RefV w [p, bs, bw] (refOf M) v
  ok : M.Ok T
theorem Both.below {w w' : World} {p bs bw T : Nat} {M : DM} {v : Value} (h : Both w p bs bw T M v) (hb : Below w.heap.size w w') : Both w' p bs bw T M v := ⟨h.disk.kept hb, h.ref.below hb, h.ok⟩
theorem ints_map (L : List Nat) : (L.map fun (i : Nat) => Value.int .i64 (i : Int)) = ints L := rfl

set_option maxRecDepth 100000 in
set_option maxHeartbeats 4000000 in
theorem tells_any (w : World) (p bs bw T : Nat) (M : DM) (v : Value) (h : Both w p bs bw T M v) :
    Calls Try.prog 23 #[.pointer (some ⟨p, 0, none⟩), v] w fun e w' => e = .returned (.bool true) ∧ Below w.heap.size w w' := by
  have hh := h
  obtain ⟨hD, ⟨A1, A2, A3, c1, c2, c3, rfl, h1, h2, h3⟩, hk⟩ := h
  have hl1 : (refOf M).sure.length = M.size := by simp [refOf]
  have hl2 : (refOf M).now.length = M.size := by simp [refOf]
  have hl3 : (refOf M).fresh.length = M.size := by simp [refOf]
  have hst : (refOf M).steps = (M.steps : Int) := rfl
  rw [hl1, hl2, hl3, hst] at hh ⊢
  have hb0 : Below w.heap.size w (w.alloc (.cells #[.slice A1 M.size c1, .slice A2 M.size c2, .slice A3 M.size c3, .int .i64 (M.steps : Int), .int .i64 (refOf M).left] 33)) := (Below.refl _ _).alloc (Nat.le_refl _) _
  have g0 := heap_alloc_new w (.cells #[.slice A1 M.size c1, .slice A2 M.size c2, .slice A3 M.size c3, .int .i64 (M.steps : Int), .int .i64 (refOf M).left] 33)
  have s0 := alloc1_size w (.cells #[.slice A1 M.size c1, .slice A2 M.size c2, .slice A3 M.size c3, .int .i64 (M.steps : Int), .int .i64 (refOf M).left] 33)
  have hh2 := hh.below hb0
  have HB := Lib.hid (And.intro hb0 s0)
  have HL0 := Lib.hid (And.intro hl1 (And.intro hl2 (And.intro hl3 hst)))
  clear hD h1 h2 h3 hk hh hl1 hl2 hl3 hst
  go_enter Try.func23, Try.ntmps23
  go_upto_region 1 with go_in
  generalize w.alloc (.cells #[.slice A1 M.size c1, .slice A2 M.size c2, .slice A3 M.size c3, .int .i64 (M.steps : Int), .int .i64 (refOf M).left] 33) = W at HB hb0 g0 s0 hh2 ⊢
  obtain ⟨b0, hbe⟩ : ∃ b0, b0 = w.heap.size := ⟨_, rfl⟩
  rw [← hbe] at g0 ⊢
  have hbl : b0 < W.heap.size := by omega
  have HBE := Lib.hid hbe
  clear hbe
  have hKS : ∀ w' : World, Below W.heap.size W w' → (Below W.heap.size W w' ∧ w'.cell? ⟨b0, 0, none⟩ = some (.slice A1 M.size c1) ∧ w'.cell? ⟨b0, 1, none⟩ = some (.slice A2 M.size c2) ∧ w'.cell? ⟨b0, 2, none⟩ = some (.slice A3 M.size c3) ∧ w'.cell? ⟨b0, 3, none⟩ = some (.int .i64 (M.steps : Int)) ∧ w'.cell? ⟨b0, 4, none⟩ = some (.int .i64 (refOf M).left)) := fun w' hb =>
    have hg := (hb.block b0 hbl).trans g0
    ⟨hb, cell_of_row w' b0 0 _ _ _ hg, cell_of_row w' b0 1 _ _ _ hg, cell_of_row w' b0 2 _ _ _ hg, cell_of_row w' b0 3 _ _ _ hg, cell_of_row w' b0 4 _ _ _ hg⟩
  have KS := Lib.hid hKS
  have hT : T ≤ 1000000000 := hh2.ok.T
  have hz : M.size ≤ 4096 := hh2.ok.size
  have hfl : M.fresh.length ≤ 4096 := by
    have : M.fresh.length ≤ M.size := by unfold DM.fresh; exact Nat.le_trans (List.length_filter_le _ _) (by simp)
    omega
  have hus := fun (W' : World) (hb : Below W.heap.size W W') => unsureM (hh2.disk.kept hb) hT
  have hru := fun (W' : World) (hb : Below W.heap.size W W') => runsure_any W' _ (refOf M) _ (hh2.ref.below hb) (by rw [HL0.out.2.2.1]; exact hz)
  rw [refOf_fresh] at hru
  have HUS := Lib.hid hus
  have HRU := Lib.hid hru
  have HT := Lib.hid (And.intro hT (And.intro hz hfl))
  have HH2 := Lib.hid hh2
  have hsz := sizeM (hh2.disk.kept ((Below.refl _ W).drew))
  have hsp := stepsM (hh2.disk.kept ((Below.refl _ W).drew))
  have HSZ := Lib.hid hsz
  have HSP := Lib.hid hsp
  clear hKS hus hru hT hz hfl hh2 hsz hsp g0 hb0
  go_region_held3 (fun w' => Below W.heap.size W w' ∧ w'.cell? ⟨b0, 0, none⟩ = some (.slice A1 M.size c1) ∧ w'.cell? ⟨b0, 1, none⟩ = some (.slice A2 M.size c2) ∧ w'.cell? ⟨b0, 2, none⟩ = some (.slice A3 M.size c3) ∧ w'.cell? ⟨b0, 3, none⟩ = some (.int .i64 (M.steps : Int)) ∧ w'.cell? ⟨b0, 4, none⟩ = some (.int .i64 (refOf M).left))
    (first
      | exact KS.out _ (Below.refl _ _).drew
      | exact KS.out _ hB5
      | exact KS.out _ hB4
      | exact KS.out _ hB3
      | assumption)
    (first
      | (go_at_call 38; (with_reducible refine HSZ.out.mono ?_); rintro e w1 ⟨rfl, rfl⟩)
      | (go_at_call 35; (with_reducible refine HSP.out.mono ?_); rintro e w1 ⟨rfl, rfl⟩)
      | (go_at_call 56; (with_reducible refine (HUS.out W.drew ((Below.refl _ _).drew)).mono ?_); rintro e w3 ⟨v3, rfl, hrow3, hb3⟩; obtain ⟨Au, cu, rfl, _, _, hu3⟩ := own_shape hrow3; have hB3 : Below W.heap.size W w3 := (Below.refl _ _).drew.trans hb3; clear hrow3)
      | (go_at_call 59; (with_reducible refine (HRU.out w3 hB3).mono ?_); rintro e w4 ⟨v4, rfl, hrow4, hb4⟩; obtain ⟨Ar, cr, rfl, _, _, hr4⟩ := own_shape hrow4; have hB4 : Below W.heap.size W w4 := hB3.trans (lower' hb4 hB3.size); have hu4 := hu3.below hb4 (Nat.le_refl _); clear hrow4)
      | (go_at_call 58; (refine (ints_same w4 Au Ar M.fresh cu cr _ _ hu4 hr4 hb4.size (Nat.le_refl _) HT.out.2.2).mono ?_); rintro e w5 ⟨rfl, hb5⟩; have hB5 : Below W.heap.size W w5 := hB4.trans (lower' hb5 hB4.size)))
  have hS5 := KS.out _ hB5
  have HB5 := Lib.hid hB5
  clear hB3 hB4 hB5 hu3 hr4 hu4 hb3 hb4 hb5
  go_wp2_with go_in
  go_loopw [5, 6, 7, 32] (fun _ _ _ i wr => ∃ k : Nat, k ≤ M.size ∧ i = .int .i64 (k : Int) ∧ Below w5.heap.size w5 wr)
    (fun _ _ _ i _ => M.size - (intOf i).toNat)
  case atStart => exact ⟨0, by omega, rfl, Below.refl _ _⟩
  case round =>
    obtain ⟨k, hk, rfl, hb⟩ := hrel
    have hB6 : Below W.heap.size W wr := HB5.out.trans (lower' hb HB5.out.size)
    have hkb : (k : Int) ≤ 4096 := by have := HT.out.2.1; omega
    by_cases hkl : k < M.size
    · have hkI : (k : Int) < (M.size : Int) := by omega
      have hRC := readC (i := k) (HH2.out.disk.kept hB6) HT.out.2.1 hkl
      have HRC := Lib.hid hRC
      obtain ⟨a1, a2, a3, d1, d2, d3, he, _, hs2, _⟩ := HH2.out.ref
      have ea : A2 = a2 := by
        have h3 := congrArg (fun v : Value => match v with | .agg cs => cs.getD 1 undef | _ => undef) he
        simp only [Array.getD] at h3
        simp at h3
        exact h3.1
      subst ea
      obtain ⟨p2, o2, rfl, hp2, hq2⟩ := hs2.1.get (k := k) (by rw [strs_len, refOf_len]; exact hkl)
      have hno : ∀ w' : World, Below W.heap.size W w' → w'.cell? ⟨p2, o2 + k, none⟩ = some (.string ⟨(M.get k).toArray⟩) := by
        intro w' hw'
        have e1 : (strs (refOf M).now)[k]'(by rw [strs_len, refOf_len]; exact hkl) = .string ⟨(M.get k).toArray⟩ := by simp [strs, refOf]
        rw [← e1, ← hq2]
        exact hw'.cell (p := ⟨p2, o2 + k, none⟩) hp2
      have HNO := Lib.hid hno
      have HX := Lib.hid (And.intro hb hkl)
      clear hRC he hs2 hp2 hq2 hno hb hkl
      go_upto_region 7 with (first
        | (go_at_call 60; (with_reducible refine HRC.out.mono ?_); rintro e w6 ⟨gb, rfl, hgb1, hgb2, hrb, hlb, hb6⟩)
        | go_in)
      have hB7 : Below W.heap.size W w6 := hB6.trans (lower' hb6 hB6.size)
      have q1 := fun n => strAt (n := 64) (c := 64) (hrb.drewN n) hlb.symm
      have c1 := HNO.out w6 hB7
      have c2 := (KS.out _ hB7).2.2.1
      have hb56 : Below w5.heap.size w5 w6 := HX.out.1.trans (lower' hb6 HX.out.1.size)
      have HY := Lib.hid hb56
      clear hrb hb6 hb56
      go_quiet (fail)
      go_wp2_with go_in
      exact ⟨⟨k + 1, HX.out.2, by simp, Below.drewN' HY.out _⟩, by simp [intOf]; have := HX.out.2; omega⟩
    · obtain rfl : k = M.size := by omega
      have HX := Lib.hid hB6
      clear hB6 hb
      go_wp2_with go_in
      go_ret
      exact ⟨rfl, HB.out.1.trans (lower' HX.out (by rw [HB.out.2]; omega))⟩
end Go.Proofs.Ytdjcpjfomgfjlaa
