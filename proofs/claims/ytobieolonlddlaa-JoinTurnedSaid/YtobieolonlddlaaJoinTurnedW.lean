/- The law JoinTurned, walked. -/
import Derived.Test.YtobieolonlddlaaJnD
import Derived.Test.YtobieolonlddlaaJoAB
import Derived.Test.YtobieolonlddlaaJoTL
namespace Go.Proofs.Ytobieolonlddlaa
open Go.RowKit Go.Maps

theorem rem8 (n : Int) : ∃ k : Nat, k < 8 ∧ wrap64 ((IntKind.u64.wrap n).tmod 8) = (k : Int) := by
  have h2 : 0 ≤ IntKind.u64.wrap n := by
    rw [IntKind.wrap_u64]
    omega
  generalize IntKind.u64.wrap n = u at h2
  refine ⟨(u % 8).toNat, by omega, ?_⟩
  have e : u.tmod 8 = u % 8 := Int.tmod_eq_emod_of_nonneg h2
  rw [e]
  unfold wrap64
  omega
theorem tmod_nat (a b n : Nat) : ((a : Int) + (b : Int)).tmod (n : Int) = (((a + b) % n : Nat) : Int) := by
  rw [Int.tmod_eq_emod_of_nonneg (by omega)]
  push_cast
  rfl
theorem atRow_some {lo : Nat} {w : World} {A : Option Addr} {c : Nat} {l : List Atm} (h : AtRow lo w (.slice A l.length c) l) (hl : 0 < l.length) : ∃ b, A = some ⟨b, 0, none⟩ := by
  rcases h.2 with ⟨_, hn⟩ | ⟨g, cap, cur, hv, _⟩
  · omega
  · injection hv with hv
    exact ⟨g, hv⟩
set_option maxRecDepth 100000 in
set_option maxHeartbeats 8000000 in
theorem joinTurned_walk (x : VW) (A : Option Addr) (l : List Ed) (c : Nat) (n2 : Int) (W : World) (hx : x.Raw W) (he : EdsRaw W A c l) : Calls Try.prog 5 #[.agg (vwA x), .slice A l.length c, .int .i64 n2] W fun e w' => e = .returned (.bool true) ∧ Below W.heap.size W w' := by
  have HAW := Lib.hid jawake_any
  have hfi := fits_any x A l.length c
  have hb1 : Below W.heap.size W (W.alloc (.cells (vwA x) 25)) := (Below.refl _ _).alloc (Nat.le_refl _) _
  have hg1 := heap_alloc_new W (.cells (vwA x) 25)
  cases hf : fitsB x l.length with
  | false =>
    rw [hf] at hfi
    unfold vwA at hb1 hg1 hfi ⊢
    have HFI := Lib.hid hfi
    have HBX := Lib.hid (And.intro hg1 hb1)
    clear hx he hf hfi hb1 hg1
    go_enter Try.func5, Try.ntmps5
    go_wp2_with (first
      | (go_at_call 9; (with_reducible refine (HAW.out _).mono ?_); rintro e w1 ⟨rfl, hb1⟩; have B1 := Lib.hid (HBX.out.2.trans (lower' hb1 HBX.out.2.size)); obtain ⟨q0, q1, q2, q3, q4⟩ := box5 ((hb1.block W.heap.size (by simp)).trans HBX.out.1); clear hb1)
      | (go_at_call 10; (with_reducible refine (HFI.out _).mono ?_); rintro e w2 ⟨rfl, hb2⟩; have B2 := Lib.hid (B1.out.trans (lower' hb2 B1.out.size)); clear hb2 HBX q0 q1 q2 q3 q4 HFI)
      | (go_at_call 9; (with_reducible refine (HAW.out _).mono ?_); rintro e w3 ⟨rfl, hb3⟩; have B3 := Lib.hid (B2.out.trans (lower' hb3 B2.out.size)); clear hb3))
    go_ret
    exact ⟨rfl, B3.out⟩
  | true =>
    rw [hf] at hfi
    obtain ⟨f1, f2, f3⟩ := fits_facts hf
    by_cases h0 : x.v.atoms.length = 0
    · have h0I : ((x.v.atoms.length : Int) == 0) = true := by simp [h0]
      unfold vwA at hb1 hg1 hfi ⊢
      have HFI := Lib.hid hfi
      have HBX := Lib.hid (And.intro hg1 hb1)
      clear hx he hf hfi hb1 hg1 h0 f1 f2 f3
      go_enter Try.func5, Try.ntmps5
      go_wp2_with (first
        | (go_at_call 9; (with_reducible refine (HAW.out _).mono ?_); rintro e w1 ⟨rfl, hb1⟩; have B1 := Lib.hid (And.intro hb1 (HBX.out.2.trans (lower' hb1 HBX.out.2.size))); obtain ⟨q0, q1, q2, q3, q4⟩ := box5 ((hb1.block W.heap.size (by simp)).trans HBX.out.1); clear hb1)
        | (go_at_call 10; (with_reducible refine (HFI.out _).mono ?_); rintro e w2 ⟨rfl, hb2⟩; have B2 := Lib.hid (B1.out.2.trans (lower' hb2 B1.out.2.size)); clear q0 q1 q2 q3 q4; obtain ⟨q0, q1, q2, q3, q4⟩ := box5 (((B1.out.1.trans (lower' hb2 B1.out.1.size)).block W.heap.size (by simp)).trans HBX.out.1); clear hb2 HFI)
        | (go_at_call 9; (with_reducible refine (HAW.out _).mono ?_); rintro e w3 ⟨rfl, hb3⟩; have B3 := Lib.hid (B2.out.trans (lower' hb3 B2.out.size)); clear hb3))
      go_ret
      exact ⟨rfl, B3.out⟩
    · have hnI : 1 ≤ x.v.atoms.length := by omega
      have h0I : ((x.v.atoms.length : Int) == 0) = false := by simp [h0]
      have hok : x.Ok W := hx.ok (by omega) (by omega)
      have hE := he.ok (by omega)
      obtain ⟨s, hs8, hsM⟩ := rem8 n2
      have hown := fun w (h : Below W.heap.size W w) => own_any x w (hok.below h)
      have hre := fun w (h : Below W.heap.size W w) => result_any x A c l w (hok.below h) (hE.below h)
      have H0 := Lib.hid (And.intro hok (And.intro hE f1))
      clear hx he hf hok hE h0 f1 f3
      unfold vwA at hb1 hg1 hfi hown hre ⊢
      have HFI := Lib.hid hfi
      have HBX := Lib.hid (And.intro hg1 hb1)
      have HOWN := Lib.hid hown
      have HRE := Lib.hid hre
      clear hfi hb1 hg1 hown hre
      go_enter Try.func5, Try.ntmps5
      go_upto_region 3 with (first
        | (go_at_call 9; (with_reducible refine (HAW.out _).mono ?_); rintro e w1 ⟨rfl, hb1⟩; have B1 := Lib.hid (And.intro hb1 (HBX.out.2.trans (lower' hb1 HBX.out.2.size))); obtain ⟨q0, q1, q2, q3, q4⟩ := box5 ((hb1.block W.heap.size (by simp)).trans HBX.out.1); clear hb1 HAW)
        | (go_at_call 10; (with_reducible refine (HFI.out _).mono ?_); rintro e w2 ⟨rfl, hb2⟩; have B2 := Lib.hid (And.intro (B1.out.1.trans (lower' hb2 B1.out.1.size)) (B1.out.2.trans (lower' hb2 B1.out.2.size))); clear hb2 B1 HFI q0 q1 q2 q3 q4; obtain ⟨q0, q1, q2, q3, q4⟩ := box5 ((B2.out.1.block W.heap.size (by simp)).trans HBX.out.1)))
      have hbx2 := (B2.out.1.block W.heap.size (by simp)).trans HBX.out.1
      have HO2 := Lib.hid (HOWN.out w2 B2.out.2)
      have BX2 := Lib.hid hbx2
      clear hbx2 HOWN
      go_upto_region 4 with (go_at_call 11; (with_reducible refine HO2.out.mono ?_); rintro e w4 ⟨⟨oA, oc, aA, ac, v⟩, hv, rfl, k4, hst4, hat4, b4⟩; dsimp only at hv; subst hv; dsimp only at hst4 hat4; (try unfold vwA); (try dsimp only); have K4 := Lib.hid (And.intro hst4 (And.intro hat4 b4)); clear k4 hst4 hat4 b4)
      obtain ⟨b, rfl⟩ := atRow_some K4.out.2.1 hnI
      clear q0 q1 q2 q3 q4 HO2
      have hb5 := (Below.refl w4.heap.size w4).alloc (Nat.le_refl _) (.cells #[.string ⟨x.v.name.toArray⟩, .int .i64 x.v.kind, .slice oA x.v.out.length oc, .slice (some ⟨b, 0, none⟩) x.v.atoms.length ac, .string ⟨x.v.label.toArray⟩] 25)
      have hg5 := heap_alloc_new w4 (.cells #[.string ⟨x.v.name.toArray⟩, .int .i64 x.v.kind, .slice oA x.v.out.length oc, .slice (some ⟨b, 0, none⟩) x.v.atoms.length ac, .string ⟨x.v.label.toArray⟩] 25)
      have T5 := Lib.hid (And.intro (show TuAt w2.heap.size W.heap.size w4.heap.size x oA oc _ (some ⟨b, 0, none⟩) ac x.v.atoms from ⟨own_below K4.out.2.1 hb5 (Nat.le_refl _), own_below K4.out.1 hb5 (Nat.le_refl _), ((K4.out.2.2.trans (lower' hb5 K4.out.2.2.size)).block _ (heap_lt BX2.out)).trans BX2.out, hg5⟩) (And.intro (K4.out.2.2.trans (lower' hb5 K4.out.2.2.size)) (B2.out.2.trans (lower' (K4.out.2.2.trans (lower' hb5 K4.out.2.2.size)) B2.out.2.size))))
      have hz2 := B2.out.2.size
      have hz3 : W.heap.size + 1 ≤ w2.heap.size := by have := B2.out.1.size; simpa using this
      have hz4 : w2.heap.size ≤ w4.heap.size := K4.out.2.2.size
      clear hb5 hg5 K4 BX2
      generalize (w4.alloc (.cells #[.string ⟨x.v.name.toArray⟩, .int .i64 x.v.kind, .slice oA x.v.out.length oc, .slice (some ⟨b, 0, none⟩) x.v.atoms.length ac, .string ⟨x.v.label.toArray⟩] 25)) = w5 at T5 ⊢
      generalize w4.heap.size = g at T5 hz4 ⊢
      generalize w2.heap.size = lo at T5 hz2 hz3 hz4
      clear B2
      obtain ⟨-, -, -, y3, -⟩ := box5 T5.out.1.bw
      go_wp2_with (fail)
      clear y3
      go_loopw [37] (fun i wr => ∃ k : Nat, k ≤ x.v.atoms.length ∧ i = .int .i64 (k : Int) ∧ Hid (TuAt lo W.heap.size g x oA oc wr (some ⟨b, 0, none⟩) ac (turnL x.v.atoms s k) ∧ Below W.heap.size W wr)) (fun i _ => x.v.atoms.length - (intOf i).toNat)
      case atStart => exact ⟨0, by omega, rfl, Lib.hid ⟨by rw [turn_zero]; exact T5.out.1, T5.out.2.2⟩⟩
      case round =>
        obtain ⟨k, hk, rfl, hrel⟩ := hrel
        by_cases hlt : k < x.v.atoms.length
        · have hkI : (k : Int) < (x.v.atoms.length : Int) := by omega
          have hn0 : ¬ (x.v.atoms.length : Int) = 0 := by omega
          have hmod := tmod_nat k s x.v.atoms.length
          have hne : ¬ x.v.atoms = [] := fun h => by rw [h] at hnI; simp at hnI
          have hsW : IntKind.i64.wrap ((IntKind.u64.wrap n2).tmod 8) = (s : Int) := (IntWalk.i64_left _).trans hsM
          have hkw : IntKind.i64.wrap ((k : Int) + (s : Int)) = (k : Int) + (s : Int) := IntWalk.i64_in _ (by omega)
          have hjl : (k + s) % x.v.atoms.length < x.v.atoms.length := Nat.mod_lt _ (by omega)
          have htn := turn_next (L := x.v.atoms) (s := s) (k := k)
          have hga : x.v.atoms.getD ((k + s) % x.v.atoms.length) default = x.v.atoms[(k + s) % x.v.atoms.length] := by rw [List.getD_eq_getElem?_getD, List.getElem?_eq_getElem hjl]; rfl
          rw [hga] at htn
          generalize (k + s) % x.v.atoms.length = j at hmod hjl htn
          have hjI : (j : Int) < (x.v.atoms.length : Int) := by omega
          obtain ⟨ab, ao, hAA, _, a0, a1, a2⟩ := (H0.out.1.below hrel.out.2).ats.cell hjl
          generalize x.v.atoms[j] = a at a0 a1 a2 htn
          have hD : Below wr.heap.size wr wr.drew := (Below.refl wr.heap.size wr).drew
          obtain ⟨⟨p0, p1, p2⟩, ⟨z0, z1, z2⟩, hput, hbp⟩ := (hrel.out.1.kept hD).put (i := k) (by rw [turn_len]; exact hlt) a
          rw [htn] at hput
          have p0 : wr.cell? ⟨b, k * 3, none⟩ = _ := p0
          have p1 : wr.cell? ⟨b, k * 3 + 1, none⟩ = _ := p1
          have p2 : wr.cell? ⟨b, k * 3 + 2, none⟩ = _ := p2
          have z0 : wr.frozen? ⟨b, k * 3, none⟩ = false := z0
          have z1 : wr.frozen? ⟨b, k * 3 + 1, none⟩ = false := z1
          have z2 : wr.frozen? ⟨b, k * 3 + 2, none⟩ = false := z2
          have q3 := (box5 hrel.out.1.bx).2.2.2.1
          have y3 := (box5 hrel.out.1.bw).2.2.2.1
          rw [turn_len] at y3
          rw [hAA] at q3 ⊢
          have HP := Lib.hid (And.intro hput (hrel.out.2.drew.trans (lower' hbp hz2)))
          have SS : (wr.cell? ⟨W.heap.size, 3, none⟩ = some (.slice (some ⟨ab, ao, none⟩) x.v.atoms.length x.ac) ∧ wr.cell? ⟨g, 3, none⟩ = some (.slice (some ⟨b, 0, none⟩) x.v.atoms.length ac)) ∧ (wr.cell? ⟨ab, ao + j * 3, none⟩ = some (.string ⟨a.fr.toArray⟩) ∧ wr.cell? ⟨ab, ao + j * 3 + 1, none⟩ = some (.string ⟨a.lab.toArray⟩) ∧ wr.cell? ⟨ab, ao + j * 3 + 2, none⟩ = some (.string ⟨a.to.toArray⟩)) := ⟨⟨q3, y3⟩, a0, a1, a2⟩
          have HS := Lib.hid SS
          clear hga htn hAA a0 a1 a2 hD hput hbp q3 y3 SS hrel
          go_upto_region 7 with (fail)
          have hS0 : (wr.drew.cell? ⟨W.heap.size, 3, none⟩ = some (.slice (some ⟨ab, ao, none⟩) x.v.atoms.length x.ac) ∧ wr.drew.cell? ⟨g, 3, none⟩ = some (.slice (some ⟨b, 0, none⟩) x.v.atoms.length ac)) ∧ (wr.drew.cell? ⟨ab, ao + j * 3, none⟩ = some (.string ⟨a.fr.toArray⟩) ∧ wr.drew.cell? ⟨ab, ao + j * 3 + 1, none⟩ = some (.string ⟨a.lab.toArray⟩) ∧ wr.drew.cell? ⟨ab, ao + j * 3 + 2, none⟩ = some (.string ⟨a.to.toArray⟩)) := HS.out
          refine wp_region_M (fun j => decide (j < 18)) (fun w' => (w'.cell? ⟨W.heap.size, 3, none⟩ = some (.slice (some ⟨ab, ao, none⟩) x.v.atoms.length x.ac) ∧ w'.cell? ⟨g, 3, none⟩ = some (.slice (some ⟨b, 0, none⟩) x.v.atoms.length ac)) ∧ (w'.cell? ⟨ab, ao + j * 3, none⟩ = some (.string ⟨a.fr.toArray⟩) ∧ w'.cell? ⟨ab, ao + j * 3 + 1, none⟩ = some (.string ⟨a.lab.toArray⟩) ∧ w'.cell? ⟨ab, ao + j * 3 + 2, none⟩ = some (.string ⟨a.to.toArray⟩))) (by kernel_rfl) ?_
          refine wpAnyM_take (i := 0) (v := ?_) rfl (by kernel_rfl) (by kernel_rfl) (by kernel_rfl) (by kernel_rfl) (fun _ _ _ h => h) (Or.inl ⟨by rfl, ?_⟩) hS0 ?_
          rotate_left
          · intro w hSw; (try dsimp only at hSw); go_simp; (try with_reducible rfl)
          simp only [Act.put, List.getElem_toArray, List.getElem_cons_zero, List.getElem_cons_succ, List.setIfInBounds_toArray, List.set_cons_zero, List.set_cons_succ]
          refine wpAnyM_take (i := 1) (v := ?_) rfl (by kernel_rfl) (by kernel_rfl) (by kernel_rfl) (by kernel_rfl) (fun _ _ _ h => h) (Or.inl ⟨by rfl, ?_⟩) hS0 ?_
          rotate_left
          · intro w hSw; (try dsimp only at hSw); go_simp; (try with_reducible rfl)
          simp only [Act.put, List.getElem_toArray, List.getElem_cons_zero, List.getElem_cons_succ, List.setIfInBounds_toArray, List.set_cons_zero, List.set_cons_succ]
          refine wpAnyM_take (i := 2) (v := ?_) rfl (by kernel_rfl) (by kernel_rfl) (by kernel_rfl) (by kernel_rfl) (fun _ _ _ h => h) (Or.inl ⟨by rfl, ?_⟩) hS0 ?_
          rotate_left
          · intro w hSw; (try dsimp only at hSw); go_simp; (try with_reducible rfl)
          simp only [Act.put, List.getElem_toArray, List.getElem_cons_zero, List.getElem_cons_succ, List.setIfInBounds_toArray, List.set_cons_zero, List.set_cons_succ]
          refine wpAnyM_take (i := 3) (v := ?_) rfl (by kernel_rfl) (by kernel_rfl) (by kernel_rfl) (by kernel_rfl) (fun _ _ _ h => h) (Or.inl ⟨by rfl, ?_⟩) hS0 ?_
          rotate_left
          · intro w hSw; (try dsimp only at hSw); go_simp; (try with_reducible rfl)
          simp only [Act.put, List.getElem_toArray, List.getElem_cons_zero, List.getElem_cons_succ, List.setIfInBounds_toArray, List.set_cons_zero, List.set_cons_succ]
          refine wpAnyM_take (i := 4) (v := ?_) rfl (by kernel_rfl) (by kernel_rfl) (by kernel_rfl) (by kernel_rfl) (fun _ _ _ h => h) (Or.inl ⟨by rfl, ?_⟩) hS0 ?_
          rotate_left
          · intro w hSw; (try dsimp only at hSw); go_simp; (try with_reducible rfl)
          simp only [Act.put, List.getElem_toArray, List.getElem_cons_zero, List.getElem_cons_succ, List.setIfInBounds_toArray, List.set_cons_zero, List.set_cons_succ]
          refine wpAnyM_take (i := 5) (v := ?_) rfl (by kernel_rfl) (by kernel_rfl) (by kernel_rfl) (by kernel_rfl) (fun _ _ _ h => h) (Or.inl ⟨by rfl, ?_⟩) hS0 ?_
          rotate_left
          · intro w hSw; (try dsimp only at hSw); go_simp; (try with_reducible rfl)
          simp only [Act.put, List.getElem_toArray, List.getElem_cons_zero, List.getElem_cons_succ, List.setIfInBounds_toArray, List.set_cons_zero, List.set_cons_succ]
          refine wpAnyM_take (i := 6) (v := ?_) rfl (by kernel_rfl) (by kernel_rfl) (by kernel_rfl) (by kernel_rfl) (fun _ _ _ h => h) (Or.inl ⟨by rfl, ?_⟩) hS0 ?_
          rotate_left
          · intro w hSw; (try dsimp only at hSw); go_simp; (try with_reducible rfl)
          simp only [Act.put, List.getElem_toArray, List.getElem_cons_zero, List.getElem_cons_succ, List.setIfInBounds_toArray, List.set_cons_zero, List.set_cons_succ]
          refine wpAnyM_take (i := 7) (v := ?_) rfl (by kernel_rfl) (by kernel_rfl) (by kernel_rfl) (by kernel_rfl) (fun _ _ _ h => h) (Or.inl ⟨by rfl, ?_⟩) hS0 ?_
          rotate_left
          · intro w hSw; (try dsimp only at hSw); go_simp; (try with_reducible rfl)
          simp only [Act.put, List.getElem_toArray, List.getElem_cons_zero, List.getElem_cons_succ, List.setIfInBounds_toArray, List.set_cons_zero, List.set_cons_succ]
          refine wpAnyM_take (i := 8) (v := ?_) rfl (by kernel_rfl) (by kernel_rfl) (by kernel_rfl) (by kernel_rfl) (fun _ _ _ h => h) (Or.inl ⟨by rfl, ?_⟩) hS0 ?_
          rotate_left
          · intro w hSw; (try dsimp only at hSw); go_simp; (try with_reducible rfl)
          simp only [Act.put, List.getElem_toArray, List.getElem_cons_zero, List.getElem_cons_succ, List.setIfInBounds_toArray, List.set_cons_zero, List.set_cons_succ]
          refine wpAnyM_take (i := 9) (v := ?_) rfl (by kernel_rfl) (by kernel_rfl) (by kernel_rfl) (by kernel_rfl) (fun _ _ _ h => h) (Or.inl ⟨by rfl, ?_⟩) hS0 ?_
          rotate_left
          · intro w hSw; (try dsimp only at hSw); go_simp; (try with_reducible rfl)
          simp only [Act.put, List.getElem_toArray, List.getElem_cons_zero, List.getElem_cons_succ, List.setIfInBounds_toArray, List.set_cons_zero, List.set_cons_succ]
          refine wpAnyM_take (i := 10) (v := ?_) rfl (by kernel_rfl) (by kernel_rfl) (by kernel_rfl) (by kernel_rfl) (fun _ _ _ h => h) (Or.inl ⟨by rfl, ?_⟩) hS0 ?_
          rotate_left
          · intro w hSw; (try dsimp only at hSw); go_simp; (try with_reducible rfl)
          simp only [Act.put, List.getElem_toArray, List.getElem_cons_zero, List.getElem_cons_succ, List.setIfInBounds_toArray, List.set_cons_zero, List.set_cons_succ]
          refine wpAnyM_take (i := 11) (v := ?_) rfl (by kernel_rfl) (by kernel_rfl) (by kernel_rfl) (by kernel_rfl) (fun _ _ _ h => h) (Or.inl ⟨by rfl, ?_⟩) hS0 ?_
          rotate_left
          · intro w hSw; (try dsimp only at hSw); go_simp; (try with_reducible rfl)
          simp only [Act.put, List.getElem_toArray, List.getElem_cons_zero, List.getElem_cons_succ, List.setIfInBounds_toArray, List.set_cons_zero, List.set_cons_succ]
          refine wpAnyM_take (i := 12) (v := ?_) rfl (by kernel_rfl) (by kernel_rfl) (by kernel_rfl) (by kernel_rfl) (fun _ _ _ h => h) (Or.inl ⟨by rfl, ?_⟩) hS0 ?_
          rotate_left
          · intro w hSw; (try dsimp only at hSw); go_simp; (try with_reducible rfl)
          simp only [Act.put, List.getElem_toArray, List.getElem_cons_zero, List.getElem_cons_succ, List.setIfInBounds_toArray, List.set_cons_zero, List.set_cons_succ]
          refine wpAnyM_take (i := 13) (v := ?_) rfl (by kernel_rfl) (by kernel_rfl) (by kernel_rfl) (by kernel_rfl) (fun _ _ _ h => h) (Or.inl ⟨by rfl, ?_⟩) hS0 ?_
          rotate_left
          · intro w hSw; (try dsimp only at hSw); go_simp; (try with_reducible rfl)
          simp only [Act.put, List.getElem_toArray, List.getElem_cons_zero, List.getElem_cons_succ, List.setIfInBounds_toArray, List.set_cons_zero, List.set_cons_succ]
          refine wpAnyM_take (i := 14) (v := ?_) rfl (by kernel_rfl) (by kernel_rfl) (by kernel_rfl) (by kernel_rfl) (fun _ _ _ h => h) (Or.inl ⟨by rfl, ?_⟩) hS0 ?_
          rotate_left
          · intro w hSw; (try dsimp only at hSw); go_simp; (try with_reducible rfl)
          simp only [Act.put, List.getElem_toArray, List.getElem_cons_zero, List.getElem_cons_succ, List.setIfInBounds_toArray, List.set_cons_zero, List.set_cons_succ]
          refine wpAnyM_take (i := 15) (v := ?_) rfl (by kernel_rfl) (by kernel_rfl) (by kernel_rfl) (by kernel_rfl) (fun _ _ _ h => h) (Or.inl ⟨by rfl, ?_⟩) hS0 ?_
          rotate_left
          · intro w hSw; (try dsimp only at hSw); go_simp; (try with_reducible rfl)
          simp only [Act.put, List.getElem_toArray, List.getElem_cons_zero, List.getElem_cons_succ, List.setIfInBounds_toArray, List.set_cons_zero, List.set_cons_succ]
          refine wpAnyM_take (i := 16) (v := ?_) rfl (by kernel_rfl) (by kernel_rfl) (by kernel_rfl) (by kernel_rfl) (fun _ _ _ h => h) (Or.inl ⟨by rfl, ?_⟩) hS0 ?_
          rotate_left
          · intro w hSw; (try dsimp only at hSw); go_simp; (try with_reducible rfl)
          simp only [Act.put, List.getElem_toArray, List.getElem_cons_zero, List.getElem_cons_succ, List.setIfInBounds_toArray, List.set_cons_zero, List.set_cons_succ]
          refine wpAnyM_take (i := 17) (v := ?_) rfl (by kernel_rfl) (by kernel_rfl) (by kernel_rfl) (by kernel_rfl) (fun _ _ _ h => h) (Or.inl ⟨by rfl, ?_⟩) hS0 ?_
          rotate_left
          · intro w hSw; (try dsimp only at hSw); go_simp; (try with_reducible rfl)
          simp only [Act.put, List.getElem_toArray, List.getElem_cons_zero, List.getElem_cons_succ, List.setIfInBounds_toArray, List.set_cons_zero, List.set_cons_succ]
          refine wpAnyM_one (i := 18) (by kernel_rfl) rfl (fun K hK => ?_)
          go_simp
          refine hK.out _ _ (fun h => absurd h (by decide)) ?_
          clear hK K
          refine wpAnyM_done (by kernel_rfl) ?_ _
          go_wp2_with (fail)
          go_roundw
          case rel => exact ⟨k + 1, by omega, by go_num, HP⟩
          case measure => simp [intOf]; omega
        · have hkI : ¬ (k : Int) < (x.v.atoms.length : Int) := by omega
          obtain rfl : k = x.v.atoms.length := by omega
          have HT := Lib.hid hrel.out
          clear hrel
          have hL : (turnL x.v.atoms s x.v.atoms.length).length = x.v.atoms.length := turn_len _ _ _
          have hmem : ∀ a, a ∈ turnL x.v.atoms s x.v.atoms.length ↔ a ∈ x.v.atoms := fun a => turn_mem
          generalize turnL x.v.atoms s x.v.atoms.length = L at HT hL hmem
          have HE := Lib.hid (And.intro H0.out.2.1.ok hz2)
          have hl25 : l.length ≤ 25 := H0.out.2.2
          have y3 := (box5 HT.out.1.bw).2.2.2.1
          rw [hL] at y3
          by_cases h8 : x.v.atoms.length < 8
          · have h8I : (x.v.atoms.length : Int) < 8 := by omega
            have hnP : 0 < x.v.atoms.length := by omega
            have h0L : 0 < L.length := by omega
            obtain ⟨b', o', hbo, _, c0, c1, c2⟩ := (AtRow.ats HT.out.1.row (by omega)).cell h0L
            injection hbo with hbo
            injection hbo with e8 e9
            subst e8 e9
            have ha0 := List.getElem_mem h0L
            generalize L[0] = a at c0 c1 c2 ha0
            have c0 : wr.cell? ⟨b, 0, none⟩ = _ := c0
            have c1 : wr.cell? ⟨b, 1, none⟩ = _ := c1
            have c2 : wr.cell? ⟨b, 2, none⟩ = _ := c2
            have hlt5 := World.ownsRow.lt HT.out.1.row b rfl
            have hD : Below wr.heap.size wr wr.drew := (Below.refl wr.heap.size wr).drew
            obtain ⟨aA9, ac9, w9, hrun, hy, hyf, hT9, hb9⟩ := (HT.out.1.kept hD).push (B := W.heap.size) (Nat.le_of_lt (Nat.lt_of_le_of_lt hlt5.1 hlt5.2)) hz2 (by omega) (by simp; omega) (by omega) a
            rw [hL] at hrun hy hT9 hb9
            have hrun : (Builtin.append_ #[23, 23] 23 #[.slice (some ⟨b, 0, none⟩) x.v.atoms.length ac, .slice (some ⟨wr.heap.size, 0, none⟩) 1 1]).run Try.prog (wr.alloc (.cells #[.string ⟨a.fr.toArray⟩, .string ⟨a.lab.toArray⟩, .string ⟨a.to.toArray⟩] 49)).drew = .ok (.slice aA9 (x.v.atoms.length + 1) ac9) w9 := hrun
            have HT9 := Lib.hid (And.intro hT9 (HT.out.2.drew.trans hb9))
            obtain ⟨L9, hL9⟩ : ∃ L9, L9 = L ++ [a] := ⟨_, rfl⟩
            have HM9 := Lib.hid (show (∀ q, q ∈ L9 ↔ q ∈ x.v.atoms) ∧ ((1 ≤ x.v.atoms.length ∧ x.v.atoms.length ≤ 8) ↔ (1 ≤ L9.length ∧ L9.length ≤ 8)) ∧ L9.length ≤ 13 from by
              rw [hL9, snoc_len, hL]
              refine ⟨fun q => ?_, by omega, by omega⟩
              rw [List.mem_append, List.mem_singleton, hmem]
              exact ⟨fun h => h.elim id (fun h => by rw [h]; exact (hmem a).1 ha0), .inl⟩)
            rw [← hL9] at HT9
            have KS := Lib.hid fun WW (hW : Below wr.heap.size wr WW) => (⟨(hW.cell (p := ⟨g, 3, none⟩) (World.block_lt_of_cell? wr _ y3)).trans y3, (hW.cell (p := ⟨b, 0, none⟩) (World.block_lt_of_cell? wr _ c0)).trans c0, (hW.cell (p := ⟨b, 1, none⟩) (World.block_lt_of_cell? wr _ c1)).trans c1, (hW.cell (p := ⟨b, 2, none⟩) (World.block_lt_of_cell? wr _ c2)).trans c2⟩ : WW.cell? ⟨g, 3, none⟩ = some (.slice (some ⟨b, 0, none⟩) x.v.atoms.length ac) ∧ (WW.cell? ⟨b, 0, none⟩ = some (.string ⟨a.fr.toArray⟩) ∧ WW.cell? ⟨b, 1, none⟩ = some (.string ⟨a.lab.toArray⟩) ∧ WW.cell? ⟨b, 2, none⟩ = some (.string ⟨a.to.toArray⟩)))
            have HD := Lib.hid hD
            clear c0 c1 c2 hlt5 hD hT9 hb9 ha0 hL9
            go_upto_region 10 with (fail)
            have hS0 := KS.out wr.drew HD.out
            refine wp_region_M (fun j => decide (j < 7)) (fun w' => w'.cell? ⟨g, 3, none⟩ = some (.slice (some ⟨b, 0, none⟩) x.v.atoms.length ac) ∧ (w'.cell? ⟨b, 0, none⟩ = some (.string ⟨a.fr.toArray⟩) ∧ w'.cell? ⟨b, 1, none⟩ = some (.string ⟨a.lab.toArray⟩) ∧ w'.cell? ⟨b, 2, none⟩ = some (.string ⟨a.to.toArray⟩))) (by kernel_rfl) ?_
            refine wpAnyM_take (i := 0) (v := ?_) rfl (by kernel_rfl) (by kernel_rfl) (by kernel_rfl) (by kernel_rfl) (fun _ _ _ h => h) (Or.inl ⟨by rfl, ?_⟩) hS0 ?_
            rotate_left
            · intro w hSw; (try dsimp only at hSw); go_simp; (try with_reducible rfl)
            simp only [Act.put, List.getElem_toArray, List.getElem_cons_zero, List.setIfInBounds_toArray, List.set_cons_zero, List.set_cons_succ]
            refine wpAnyM_take (i := 1) (v := ?_) rfl (by kernel_rfl) (by kernel_rfl) (by kernel_rfl) (by kernel_rfl) (fun _ _ _ h => h) (Or.inl ⟨by rfl, ?_⟩) hS0 ?_
            rotate_left
            · intro w hSw; (try dsimp only at hSw); go_simp; (try with_reducible rfl)
            simp only [Act.put, List.getElem_toArray, List.getElem_cons_zero, List.getElem_cons_succ, List.setIfInBounds_toArray, List.set_cons_zero, List.set_cons_succ]
            refine wpAnyM_take (i := 2) (v := ?_) rfl (by kernel_rfl) (by kernel_rfl) (by kernel_rfl) (by kernel_rfl) (fun _ _ _ h => h) (Or.inl ⟨by rfl, ?_⟩) hS0 ?_
            rotate_left
            · intro w hSw; (try dsimp only at hSw); go_simp; (try with_reducible rfl)
            simp only [Act.put, List.getElem_toArray, List.getElem_cons_zero, List.getElem_cons_succ, List.setIfInBounds_toArray, List.set_cons_zero, List.set_cons_succ]
            refine wpAnyM_take (i := 3) (v := ?_) rfl (by kernel_rfl) (by kernel_rfl) (by kernel_rfl) (by kernel_rfl) (fun _ _ _ h => h) (Or.inl ⟨by rfl, ?_⟩) hS0 ?_
            rotate_left
            · intro w hSw; (try dsimp only at hSw); go_simp; (try with_reducible rfl)
            simp only [Act.put, List.getElem_toArray, List.getElem_cons_zero, List.getElem_cons_succ, List.setIfInBounds_toArray, List.set_cons_zero, List.set_cons_succ]
            refine wpAnyM_take (i := 4) (v := ?_) rfl (by kernel_rfl) (by kernel_rfl) (by kernel_rfl) (by kernel_rfl) (fun _ _ _ h => h) (Or.inl ⟨by rfl, ?_⟩) hS0 ?_
            rotate_left
            · intro w hSw; (try dsimp only at hSw); go_simp; (try with_reducible rfl)
            simp only [Act.put, List.getElem_toArray, List.getElem_cons_zero, List.getElem_cons_succ, List.setIfInBounds_toArray, List.set_cons_zero, List.set_cons_succ]
            refine wpAnyM_take (i := 5) (v := ?_) rfl (by kernel_rfl) (by kernel_rfl) (by kernel_rfl) (by kernel_rfl) (fun _ _ _ h => h) (Or.inl ⟨by rfl, ?_⟩) hS0 ?_
            rotate_left
            · intro w hSw; (try dsimp only at hSw); go_simp; (try with_reducible rfl)
            simp only [Act.put, List.getElem_toArray, List.getElem_cons_zero, List.getElem_cons_succ, List.setIfInBounds_toArray, List.set_cons_zero, List.set_cons_succ]
            refine wpAnyM_one (i := 6) (by kernel_rfl) rfl (fun K hK => ?_)
            go_simp
            refine hK.out _ _ (fun _ => KS.out _ ((Below.refl _ _).alloc (Nat.le_refl _) _).drew) ?_
            clear hK K
            refine wpAnyM_one (i := 7) (by kernel_rfl) rfl (fun K hK => ?_)
            refine step_appK _ (by rfl) (.tmp 64) (.tmp 69) 23 rfl rfl _ _ _ _ rfl rfl hrun ?_
            refine hK.out _ _ (fun h => absurd h (by decide)) ?_
            clear hK K
            refine wpAnyM_one (i := 8) (by kernel_rfl) rfl (fun K hK => ?_)
            go_simp
            refine hK.out _ _ (fun h => absurd h (by decide)) ?_
            clear hK K
            refine wpAnyM_one (i := 9) (by kernel_rfl) rfl (fun K hK => ?_)
            go_simp
            refine hK.out _ _ (fun h => absurd h (by decide)) ?_
            clear hK K
            refine wpAnyM_done (by kernel_rfl) ?_ _
            clear hrun hy hyf y3 KS HD hS0 HT
            generalize w9.setCell ⟨g, 3, none⟩ (.slice aA9 (x.v.atoms.length + 1) ac9) = W9 at HT9 ⊢
            go_wp2_with (fail)
            go_loopw [9, 10] (fun s9 s10 wr => ∃ (j : Nat) (E : List Ed), j ≤ l.length ∧ s10 = .int .i64 ((j : Int) - 1) ∧ Hid (EdRow W9.heap.size wr s9 E ∧ E.length ≤ 2 * (l.length - j) ∧ (∀ e ∈ E, e ∈ l) ∧ (∀ e ∈ l.drop j, e ∈ E) ∧ Below W9.heap.size W9 wr)) (fun _ s10 _ => ((intOf s10) + 1).toNat)
            case atStart => exact ⟨l.length, [], by omega, rfl, Lib.hid ⟨EdRow.nil _ _, by simp, by simp, by simp, Below.refl _ _⟩⟩
            case round =>
              obtain ⟨j, E, hj, rfl, hrel⟩ := hrel
              rename World => wq
              by_cases hj0 : j = 0
              · subst hj0
                rw [show (((0 : Nat) : Int) - 1) = -1 from rfl]
                have hEk : ∀ e ∈ E, e.Ok := fun e h => HE.out.1 e (hrel.out.2.2.1 e h)
                have hEl : E.length ≤ 50 := by have := hrel.out.2.1; omega
                obtain ⟨A9, c9, rfl, hE9⟩ := hrel.out.1.eds hEk (by omega)
                have hTq := HT9.out.1.kept hrel.out.2.2.2.2
                have hBq := HT9.out.2.trans (lower' hrel.out.2.2.2.2 HT9.out.2.size)
                have hes : ∀ e, e ∈ l ↔ e ∈ E := fun e => ⟨fun h => hrel.out.2.2.2.1 e (by rw [List.drop_zero]; exact h), fun h => hrel.out.2.2.1 e h⟩
                obtain ⟨q0, q1, q2, q3, q4⟩ := box5 hTq.bx
                have HR1 := Lib.hid (HRE.out wq hBq)
                have TQ := Lib.hid (And.intro hTq (And.intro hBq (And.intro hE9 hes)))
                clear hEk hTq hBq hes hE9 hrel
                go_upto_region 17 with (go_at_call 13; (with_reducible refine HR1.out.mono ?_); rintro e w11 ⟨y1, m1, rfl, _, p2, p3, _, p5, p6, p7⟩; have P1 := Lib.hid (And.intro p2 (And.intro p3 (And.intro p5 (And.intro p6 p7)))); clear p2 p3 p5 p6 p7)
                clear q0 q1 q2 q3 q4 HR1
                have hTq := TQ.out.1.kept P1.out.2.2.2.2
                obtain ⟨q0, q1, q2, q3, q4⟩ := box5 hTq.bw
                have hr2 := result_any ⟨oA, oc, aA9, ac9, { x.v with atoms := L9 }⟩ A9 c9 E w11 (hTq.ok (by have := H0.out.1.out.sm; exact this) (by have := HM9.out.2.2; omega)) (TQ.out.2.2.1.below P1.out.2.2.2.2)
                unfold vwA at hr2
                dsimp only at hr2
                have HR2 := Lib.hid hr2
                clear hTq hr2
                go_upto_region 18 with (go_at_call 13; (with_reducible refine HR2.out.mono ?_); rintro e w12 ⟨y2, m2, rfl, _, p2, p3, _, p5, p6, p7⟩; have P2 := Lib.hid (And.intro p2 (And.intro p3 (And.intro p5 (And.intro p6 p7)))); clear p2 p3 p5 p6 p7)
                clear q0 q1 q2 q3 q4 HR2
                have hB12 := TQ.out.2.1.trans ((lower' P1.out.2.2.2.2 TQ.out.2.1.size).trans (lower' P2.out.2.2.2.2 (Nat.le_trans TQ.out.2.1.size P1.out.2.2.2.2.size)))
                have hts := fun h5 h6 => turned_same (v := x.v) (w := { x.v with atoms := L9 }) (es := l) (es' := E) rfl rfl rfl rfl (fun a => (HM9.out.1 a).symm) HM9.out.2.1 TQ.out.2.2.2 h5 h6
                have hk1 := rowsC_rng x.v l
                have hk2 := rowsC_rng { x.v with atoms := L9 } E
                by_cases h5 : rowsC x.v l = 5
                · rw [h5]
                  have B12 := Lib.hid hB12
                  clear hts hk1 hk2 hB12 h5
                  go_wp2_with (fail)
                  go_ret
                  exact ⟨rfl, B12.out⟩
                · by_cases h6 : rowsC { x.v with atoms := L9 } E = 5
                  · rw [h6]
                    have B12 := Lib.hid hB12
                    have h5b : (rowsC x.v l == 5) = false := by simp [h5]
                    clear hts hk1 hk2 hB12 h6
                    go_wp2_with (fail)
                    go_ret
                    exact ⟨rfl, B12.out⟩
                  · obtain ⟨t1, t2, t3⟩ := hts h5 h6
                    have h5b : (rowsC x.v l == 5) = false := by simp [h5]
                    have hsm := same10_any y1 y2 w12 (P1.out.1.below P2.out.2.2.2.2) P2.out.1
                    rw [P1.out.2.1, P2.out.2.1, t2, decide_eq_true rfl] at hsm
                    have HS := Lib.hid hsm
                    have hin := fun W' (h : Below w12.heap.size w12 W') => ints_any m1 m2 W' ((P1.out.2.2.1.below P2.out.2.2.2.2).below h) (P2.out.2.2.1.below h)
                    have hdd : decide (m1.l = m2.l) = true := decide_eq_true (by rw [P1.out.2.2.2.1, P2.out.2.2.2.1, t3])
                    simp only [hdd] at hin
                    have HI := Lib.hid hin
                    have B12 := Lib.hid hB12
                    rw [← t1]
                    generalize rowsC x.v l = code at h5b ⊢
                    clear hts hk1 hk2 hB12 h5 h6 t1 t2 t3 hsm hin hdd
                    go_wp2_with (first
                      | (go_at_call 15; (with_reducible refine HS.out.mono ?_); rintro e w13 ⟨rfl, hd⟩; have B13 := Lib.hid (below_drawn hd); clear hd)
                      | (go_at_call 17; (with_reducible refine (HI.out _ B13.out).mono ?_); rintro e w14 ⟨rfl, b14⟩; have B14 := Lib.hid (B12.out.trans (lower' (B13.out.trans (lower' b14 B13.out.size)) B12.out.size)); clear b14))
                    go_ret
                    exact ⟨rfl, B14.out⟩
              · obtain ⟨m, rfl⟩ : ∃ m, j = m + 1 := ⟨j - 1, by omega⟩
                rw [show (((m + 1 : Nat) : Int) - 1) = (m : Int) from by omega]
                have hml : m < l.length := by omega
                have h0l : 0 < l.length := by omega
                have hmI : (m : Int) < (l.length : Int) := by omega
                have h0I2 : (0 : Int) < (l.length : Int) := by omega
                have heq := H0.out.2.1.below (HT9.out.2.trans (lower' hrel.out.2.2.2.2 HT9.out.2.size))
                obtain ⟨eb, eo, hEA, _, c0, c1, c2⟩ := heq.cell hml
                obtain ⟨eb', eo', hEA', _, d0, d1, d2⟩ := heq.cell h0l
                rw [hEA] at hEA'
                injection hEA' with hEA'
                injection hEA' with e8 e9
                subst e8 e9
                rw [Nat.zero_mul, Nat.add_zero] at d0 d1 d2
                have hdm := List.drop_eq_getElem_cons hml
                have hym := List.getElem_mem hml
                have hzm := List.getElem_mem h0l
                rw [hEA]
                generalize l[m] = y at c0 c1 c2 hdm hym
                generalize l[0] = z at d0 d1 d2 hzm
                have hD : Below wq.heap.size wq wq.drew := (Below.refl wq.heap.size wq).drew
                obtain ⟨v5, w5x, hrun, h5, b5⟩ := (hrel.out.1.kept hD).push2 y z (by have := hrel.out.2.1; omega) (by have := hrel.out.2.2.2.2.size; exact this)
                have hrun : (Builtin.append_ #[26, 26] 26 #[u9, .slice (some ⟨wq.heap.size, 0, none⟩) 2 2]).run Try.prog (wq.alloc (.cells #[.int .i64 y.f, .string ⟨y.lab.toArray⟩, .int .i64 y.t, .int .i64 z.f, .string ⟨z.lab.toArray⟩, .int .i64 z.t] 52)).drew = .ok v5 w5x := hrun
                have HP := Lib.hid (show EdRow W9.heap.size w5x v5 (E ++ [y, z]) ∧ (E ++ [y, z]).length ≤ 2 * (l.length - m) ∧ (∀ e ∈ E ++ [y, z], e ∈ l) ∧ (∀ e ∈ l.drop m, e ∈ E ++ [y, z]) ∧ Below W9.heap.size W9 w5x from ⟨h5, by rw [List.length_append]; simp; have := hrel.out.2.1; omega, fun e h => by
                    rcases List.mem_append.1 h with h | h
                    · exact hrel.out.2.2.1 e h
                    · simp only [List.mem_cons, List.not_mem_nil, or_false] at h
                      rcases h with rfl | rfl
                      · exact hym
                      · exact hzm, fun e h => by
                    rw [hdm] at h
                    rcases List.mem_cons.1 h with rfl | h
                    · simp
                    · exact List.mem_append_left _ (hrel.out.2.2.2.1 e h), hrel.out.2.2.2.2.drew.trans b5⟩)
                have KS := Lib.hid fun WW (hW : Below wq.heap.size wq WW) => (⟨⟨(hW.cell (p := ⟨eb, eo + m * 3, none⟩) (World.block_lt_of_cell? wq _ c0)).trans c0, (hW.cell (p := ⟨eb, eo + m * 3 + 1, none⟩) (World.block_lt_of_cell? wq _ c1)).trans c1, (hW.cell (p := ⟨eb, eo + m * 3 + 2, none⟩) (World.block_lt_of_cell? wq _ c2)).trans c2⟩, (hW.cell (p := ⟨eb, eo, none⟩) (World.block_lt_of_cell? wq _ d0)).trans d0, (hW.cell (p := ⟨eb, eo + 1, none⟩) (World.block_lt_of_cell? wq _ d1)).trans d1, (hW.cell (p := ⟨eb, eo + 2, none⟩) (World.block_lt_of_cell? wq _ d2)).trans d2⟩ : (WW.cell? ⟨eb, eo + m * 3, none⟩ = some (.int .i64 y.f) ∧ WW.cell? ⟨eb, eo + m * 3 + 1, none⟩ = some (.string ⟨y.lab.toArray⟩) ∧ WW.cell? ⟨eb, eo + m * 3 + 2, none⟩ = some (.int .i64 y.t)) ∧ (WW.cell? ⟨eb, eo, none⟩ = some (.int .i64 z.f) ∧ WW.cell? ⟨eb, eo + 1, none⟩ = some (.string ⟨z.lab.toArray⟩) ∧ WW.cell? ⟨eb, eo + 2, none⟩ = some (.int .i64 z.t)))
                have HD := Lib.hid hD
                clear c0 c1 c2 d0 d1 d2 hEA heq hdm hym hzm h5 b5 hrel hD
                go_upto_region 15 with (fail)
                have hS0 := KS.out wq.drew HD.out
                refine wp_region_M (fun j => decide (j < 9)) (fun w' => (w'.cell? ⟨eb, eo + m * 3, none⟩ = some (.int .i64 y.f) ∧ w'.cell? ⟨eb, eo + m * 3 + 1, none⟩ = some (.string ⟨y.lab.toArray⟩) ∧ w'.cell? ⟨eb, eo + m * 3 + 2, none⟩ = some (.int .i64 y.t)) ∧ (w'.cell? ⟨eb, eo, none⟩ = some (.int .i64 z.f) ∧ w'.cell? ⟨eb, eo + 1, none⟩ = some (.string ⟨z.lab.toArray⟩) ∧ w'.cell? ⟨eb, eo + 2, none⟩ = some (.int .i64 z.t))) (by kernel_rfl) ?_
                refine wpAnyM_take (i := 0) (v := ?_) rfl (by kernel_rfl) (by kernel_rfl) (by kernel_rfl) (by kernel_rfl) (fun _ _ _ h => h) (Or.inl ⟨by rfl, ?_⟩) hS0 ?_
                rotate_left
                · intro w hSw; (try dsimp only at hSw); go_simp; (try with_reducible rfl)
                simp only [Act.put, List.getElem_toArray, List.getElem_cons_zero, List.setIfInBounds_toArray, List.set_cons_zero, List.set_cons_succ]
                refine wpAnyM_take (i := 1) (v := ?_) rfl (by kernel_rfl) (by kernel_rfl) (by kernel_rfl) (by kernel_rfl) (fun _ _ _ h => h) (Or.inl ⟨by rfl, ?_⟩) hS0 ?_
                rotate_left
                · intro w hSw; (try dsimp only at hSw); go_simp; (try with_reducible rfl)
                simp only [Act.put, List.getElem_toArray, List.getElem_cons_zero, List.getElem_cons_succ, List.setIfInBounds_toArray, List.set_cons_zero, List.set_cons_succ]
                refine wpAnyM_take (i := 2) (v := ?_) rfl (by kernel_rfl) (by kernel_rfl) (by kernel_rfl) (by kernel_rfl) (fun _ _ _ h => h) (Or.inl ⟨by rfl, ?_⟩) hS0 ?_
                rotate_left
                · intro w hSw; (try dsimp only at hSw); go_simp; (try with_reducible rfl)
                simp only [Act.put, List.getElem_toArray, List.getElem_cons_zero, List.getElem_cons_succ, List.setIfInBounds_toArray, List.set_cons_zero, List.set_cons_succ]
                refine wpAnyM_take (i := 3) (v := ?_) rfl (by kernel_rfl) (by kernel_rfl) (by kernel_rfl) (by kernel_rfl) (fun _ _ _ h => h) (Or.inl ⟨by rfl, ?_⟩) hS0 ?_
                rotate_left
                · intro w hSw; (try dsimp only at hSw); go_simp; (try with_reducible rfl)
                simp only [Act.put, List.getElem_toArray, List.getElem_cons_zero, List.getElem_cons_succ, List.setIfInBounds_toArray, List.set_cons_zero, List.set_cons_succ]
                refine wpAnyM_take (i := 4) (v := ?_) rfl (by kernel_rfl) (by kernel_rfl) (by kernel_rfl) (by kernel_rfl) (fun _ _ _ h => h) (Or.inl ⟨by rfl, ?_⟩) hS0 ?_
                rotate_left
                · intro w hSw; (try dsimp only at hSw); go_simp; (try with_reducible rfl)
                simp only [Act.put, List.getElem_toArray, List.getElem_cons_zero, List.getElem_cons_succ, List.setIfInBounds_toArray, List.set_cons_zero, List.set_cons_succ]
                refine wpAnyM_take (i := 5) (v := ?_) rfl (by kernel_rfl) (by kernel_rfl) (by kernel_rfl) (by kernel_rfl) (fun _ _ _ h => h) (Or.inl ⟨by rfl, ?_⟩) hS0 ?_
                rotate_left
                · intro w hSw; (try dsimp only at hSw); go_simp; (try with_reducible rfl)
                simp only [Act.put, List.getElem_toArray, List.getElem_cons_zero, List.getElem_cons_succ, List.setIfInBounds_toArray, List.set_cons_zero, List.set_cons_succ]
                refine wpAnyM_take (i := 6) (v := ?_) rfl (by kernel_rfl) (by kernel_rfl) (by kernel_rfl) (by kernel_rfl) (fun _ _ _ h => h) (Or.inl ⟨by rfl, ?_⟩) hS0 ?_
                rotate_left
                · intro w hSw; (try dsimp only at hSw); go_simp; (try with_reducible rfl)
                simp only [Act.put, List.getElem_toArray, List.getElem_cons_zero, List.getElem_cons_succ, List.setIfInBounds_toArray, List.set_cons_zero, List.set_cons_succ]
                refine wpAnyM_take (i := 7) (v := ?_) rfl (by kernel_rfl) (by kernel_rfl) (by kernel_rfl) (by kernel_rfl) (fun _ _ _ h => h) (Or.inl ⟨by rfl, ?_⟩) hS0 ?_
                rotate_left
                · intro w hSw; (try dsimp only at hSw); go_simp; (try with_reducible rfl)
                simp only [Act.put, List.getElem_toArray, List.getElem_cons_zero, List.getElem_cons_succ, List.setIfInBounds_toArray, List.set_cons_zero, List.set_cons_succ]
                refine wpAnyM_one (i := 8) (by kernel_rfl) rfl (fun K hK => ?_)
                go_simp
                refine hK.out _ _ (fun _ => KS.out _ ((Below.refl _ _).alloc (Nat.le_refl _) _).drew) ?_
                clear hK K
                refine wpAnyM_one (i := 9) (by kernel_rfl) rfl (fun K hK => ?_)
                refine step_appK _ (by rfl) (.tmp 79) (.tmp 87) 26 rfl rfl _ _ _ _ rfl rfl hrun ?_
                refine hK.out _ _ (fun h => absurd h (by decide)) ?_
                clear hK K
                refine wpAnyM_one (i := 10) (by kernel_rfl) rfl (fun K hK => ?_)
                go_simp
                refine hK.out _ _ (fun h => absurd h (by decide)) ?_
                clear hK K
                refine wpAnyM_done (by kernel_rfl) ?_ _
                go_wp2_with (fail)
                go_roundw
                case rel => exact ⟨m, E ++ [y, z], by omega, rfl, HP⟩
                case measure => simp [intOf]
          · have h8I : ¬ (x.v.atoms.length : Int) < 8 := by omega
            obtain ⟨L9, hL9⟩ : ∃ L9, L9 = L := ⟨_, rfl⟩
            obtain ⟨aA9, haA9⟩ : ∃ a9, a9 = (some ⟨b, 0, none⟩ : Option Addr) := ⟨_, rfl⟩
            obtain ⟨ac9, hac9⟩ : ∃ a9, a9 = ac := ⟨_, rfl⟩
            have HT9 := HT
            rw [← hL9, ← haA9, ← hac9] at HT9
            have HM9 := Lib.hid (show (∀ q, q ∈ L9 ↔ q ∈ x.v.atoms) ∧ ((1 ≤ x.v.atoms.length ∧ x.v.atoms.length ≤ 8) ↔ (1 ≤ L9.length ∧ L9.length ≤ 8)) ∧ L9.length ≤ 13 from by
              rw [hL9, hL]
              exact ⟨hmem, Iff.rfl, by omega⟩)
            clear hL9 haA9 hac9 HT
            go_wp2_with (fail)
            clear y3
            rename World => W9
            go_loopw [9, 10] (fun s9 s10 wr => ∃ (j : Nat) (E : List Ed), j ≤ l.length ∧ s10 = .int .i64 ((j : Int) - 1) ∧ Hid (EdRow W9.heap.size wr s9 E ∧ E.length ≤ 2 * (l.length - j) ∧ (∀ e ∈ E, e ∈ l) ∧ (∀ e ∈ l.drop j, e ∈ E) ∧ Below W9.heap.size W9 wr)) (fun _ s10 _ => ((intOf s10) + 1).toNat)
            case atStart => exact ⟨l.length, [], by omega, rfl, Lib.hid ⟨EdRow.nil _ _, by simp, by simp, by simp, Below.refl _ _⟩⟩
            case round =>
              obtain ⟨j, E, hj, rfl, hrel⟩ := hrel
              rename World => wq
              by_cases hj0 : j = 0
              · subst hj0
                rw [show (((0 : Nat) : Int) - 1) = -1 from rfl]
                have hEk : ∀ e ∈ E, e.Ok := fun e h => HE.out.1 e (hrel.out.2.2.1 e h)
                have hEl : E.length ≤ 50 := by have := hrel.out.2.1; omega
                obtain ⟨A9, c9, rfl, hE9⟩ := hrel.out.1.eds hEk (by omega)
                have hTq := HT9.out.1.kept hrel.out.2.2.2.2
                have hBq := HT9.out.2.trans (lower' hrel.out.2.2.2.2 HT9.out.2.size)
                have hes : ∀ e, e ∈ l ↔ e ∈ E := fun e => ⟨fun h => hrel.out.2.2.2.1 e (by rw [List.drop_zero]; exact h), fun h => hrel.out.2.2.1 e h⟩
                obtain ⟨q0, q1, q2, q3, q4⟩ := box5 hTq.bx
                have HR1 := Lib.hid (HRE.out wq hBq)
                have TQ := Lib.hid (And.intro hTq (And.intro hBq (And.intro hE9 hes)))
                clear hEk hTq hBq hes hE9 hrel
                go_upto_region 17 with (go_at_call 13; (with_reducible refine HR1.out.mono ?_); rintro e w11 ⟨y1, m1, rfl, _, p2, p3, _, p5, p6, p7⟩; have P1 := Lib.hid (And.intro p2 (And.intro p3 (And.intro p5 (And.intro p6 p7)))); clear p2 p3 p5 p6 p7)
                clear q0 q1 q2 q3 q4 HR1
                have hTq := TQ.out.1.kept P1.out.2.2.2.2
                obtain ⟨q0, q1, q2, q3, q4⟩ := box5 hTq.bw
                have hr2 := result_any ⟨oA, oc, aA9, ac9, { x.v with atoms := L9 }⟩ A9 c9 E w11 (hTq.ok (by have := H0.out.1.out.sm; exact this) (by have := HM9.out.2.2; omega)) (TQ.out.2.2.1.below P1.out.2.2.2.2)
                unfold vwA at hr2
                dsimp only at hr2
                have HR2 := Lib.hid hr2
                clear hTq hr2
                go_upto_region 18 with (go_at_call 13; (with_reducible refine HR2.out.mono ?_); rintro e w12 ⟨y2, m2, rfl, _, p2, p3, _, p5, p6, p7⟩; have P2 := Lib.hid (And.intro p2 (And.intro p3 (And.intro p5 (And.intro p6 p7)))); clear p2 p3 p5 p6 p7)
                clear q0 q1 q2 q3 q4 HR2
                have hB12 := TQ.out.2.1.trans ((lower' P1.out.2.2.2.2 TQ.out.2.1.size).trans (lower' P2.out.2.2.2.2 (Nat.le_trans TQ.out.2.1.size P1.out.2.2.2.2.size)))
                have hts := fun h5 h6 => turned_same (v := x.v) (w := { x.v with atoms := L9 }) (es := l) (es' := E) rfl rfl rfl rfl (fun a => (HM9.out.1 a).symm) HM9.out.2.1 TQ.out.2.2.2 h5 h6
                have hk1 := rowsC_rng x.v l
                have hk2 := rowsC_rng { x.v with atoms := L9 } E
                by_cases h5 : rowsC x.v l = 5
                · rw [h5]
                  have B12 := Lib.hid hB12
                  clear hts hk1 hk2 hB12 h5
                  go_wp2_with (fail)
                  go_ret
                  exact ⟨rfl, B12.out⟩
                · by_cases h6 : rowsC { x.v with atoms := L9 } E = 5
                  · rw [h6]
                    have B12 := Lib.hid hB12
                    have h5b : (rowsC x.v l == 5) = false := by simp [h5]
                    clear hts hk1 hk2 hB12 h6
                    go_wp2_with (fail)
                    go_ret
                    exact ⟨rfl, B12.out⟩
                  · obtain ⟨t1, t2, t3⟩ := hts h5 h6
                    have h5b : (rowsC x.v l == 5) = false := by simp [h5]
                    have hsm := same10_any y1 y2 w12 (P1.out.1.below P2.out.2.2.2.2) P2.out.1
                    rw [P1.out.2.1, P2.out.2.1, t2, decide_eq_true rfl] at hsm
                    have HS := Lib.hid hsm
                    have hin := fun W' (h : Below w12.heap.size w12 W') => ints_any m1 m2 W' ((P1.out.2.2.1.below P2.out.2.2.2.2).below h) (P2.out.2.2.1.below h)
                    have hdd : decide (m1.l = m2.l) = true := decide_eq_true (by rw [P1.out.2.2.2.1, P2.out.2.2.2.1, t3])
                    simp only [hdd] at hin
                    have HI := Lib.hid hin
                    have B12 := Lib.hid hB12
                    rw [← t1]
                    generalize rowsC x.v l = code at h5b ⊢
                    clear hts hk1 hk2 hB12 h5 h6 t1 t2 t3 hsm hin hdd
                    go_wp2_with (first
                      | (go_at_call 15; (with_reducible refine HS.out.mono ?_); rintro e w13 ⟨rfl, hd⟩; have B13 := Lib.hid (below_drawn hd); clear hd)
                      | (go_at_call 17; (with_reducible refine (HI.out _ B13.out).mono ?_); rintro e w14 ⟨rfl, b14⟩; have B14 := Lib.hid (B12.out.trans (lower' (B13.out.trans (lower' b14 B13.out.size)) B12.out.size)); clear b14))
                    go_ret
                    exact ⟨rfl, B14.out⟩
              · obtain ⟨m, rfl⟩ : ∃ m, j = m + 1 := ⟨j - 1, by omega⟩
                rw [show (((m + 1 : Nat) : Int) - 1) = (m : Int) from by omega]
                have hml : m < l.length := by omega
                have h0l : 0 < l.length := by omega
                have hmI : (m : Int) < (l.length : Int) := by omega
                have h0I2 : (0 : Int) < (l.length : Int) := by omega
                have heq := H0.out.2.1.below (HT9.out.2.trans (lower' hrel.out.2.2.2.2 HT9.out.2.size))
                obtain ⟨eb, eo, hEA, _, c0, c1, c2⟩ := heq.cell hml
                obtain ⟨eb', eo', hEA', _, d0, d1, d2⟩ := heq.cell h0l
                rw [hEA] at hEA'
                injection hEA' with hEA'
                injection hEA' with e8 e9
                subst e8 e9
                rw [Nat.zero_mul, Nat.add_zero] at d0 d1 d2
                have hdm := List.drop_eq_getElem_cons hml
                have hym := List.getElem_mem hml
                have hzm := List.getElem_mem h0l
                rw [hEA]
                generalize l[m] = y at c0 c1 c2 hdm hym
                generalize l[0] = z at d0 d1 d2 hzm
                have hD : Below wq.heap.size wq wq.drew := (Below.refl wq.heap.size wq).drew
                obtain ⟨v5, w5x, hrun, h5, b5⟩ := (hrel.out.1.kept hD).push2 y z (by have := hrel.out.2.1; omega) (by have := hrel.out.2.2.2.2.size; exact this)
                have hrun : (Builtin.append_ #[26, 26] 26 #[u9, .slice (some ⟨wq.heap.size, 0, none⟩) 2 2]).run Try.prog (wq.alloc (.cells #[.int .i64 y.f, .string ⟨y.lab.toArray⟩, .int .i64 y.t, .int .i64 z.f, .string ⟨z.lab.toArray⟩, .int .i64 z.t] 52)).drew = .ok v5 w5x := hrun
                have HP := Lib.hid (show EdRow W9.heap.size w5x v5 (E ++ [y, z]) ∧ (E ++ [y, z]).length ≤ 2 * (l.length - m) ∧ (∀ e ∈ E ++ [y, z], e ∈ l) ∧ (∀ e ∈ l.drop m, e ∈ E ++ [y, z]) ∧ Below W9.heap.size W9 w5x from ⟨h5, by rw [List.length_append]; simp; have := hrel.out.2.1; omega, fun e h => by
                    rcases List.mem_append.1 h with h | h
                    · exact hrel.out.2.2.1 e h
                    · simp only [List.mem_cons, List.not_mem_nil, or_false] at h
                      rcases h with rfl | rfl
                      · exact hym
                      · exact hzm, fun e h => by
                    rw [hdm] at h
                    rcases List.mem_cons.1 h with rfl | h
                    · simp
                    · exact List.mem_append_left _ (hrel.out.2.2.2.1 e h), hrel.out.2.2.2.2.drew.trans b5⟩)
                have KS := Lib.hid fun WW (hW : Below wq.heap.size wq WW) => (⟨⟨(hW.cell (p := ⟨eb, eo + m * 3, none⟩) (World.block_lt_of_cell? wq _ c0)).trans c0, (hW.cell (p := ⟨eb, eo + m * 3 + 1, none⟩) (World.block_lt_of_cell? wq _ c1)).trans c1, (hW.cell (p := ⟨eb, eo + m * 3 + 2, none⟩) (World.block_lt_of_cell? wq _ c2)).trans c2⟩, (hW.cell (p := ⟨eb, eo, none⟩) (World.block_lt_of_cell? wq _ d0)).trans d0, (hW.cell (p := ⟨eb, eo + 1, none⟩) (World.block_lt_of_cell? wq _ d1)).trans d1, (hW.cell (p := ⟨eb, eo + 2, none⟩) (World.block_lt_of_cell? wq _ d2)).trans d2⟩ : (WW.cell? ⟨eb, eo + m * 3, none⟩ = some (.int .i64 y.f) ∧ WW.cell? ⟨eb, eo + m * 3 + 1, none⟩ = some (.string ⟨y.lab.toArray⟩) ∧ WW.cell? ⟨eb, eo + m * 3 + 2, none⟩ = some (.int .i64 y.t)) ∧ (WW.cell? ⟨eb, eo, none⟩ = some (.int .i64 z.f) ∧ WW.cell? ⟨eb, eo + 1, none⟩ = some (.string ⟨z.lab.toArray⟩) ∧ WW.cell? ⟨eb, eo + 2, none⟩ = some (.int .i64 z.t)))
                have HD := Lib.hid hD
                clear c0 c1 c2 d0 d1 d2 hEA heq hdm hym hzm h5 b5 hrel hD
                go_upto_region 15 with (fail)
                have hS0 := KS.out wq.drew HD.out
                refine wp_region_M (fun j => decide (j < 9)) (fun w' => (w'.cell? ⟨eb, eo + m * 3, none⟩ = some (.int .i64 y.f) ∧ w'.cell? ⟨eb, eo + m * 3 + 1, none⟩ = some (.string ⟨y.lab.toArray⟩) ∧ w'.cell? ⟨eb, eo + m * 3 + 2, none⟩ = some (.int .i64 y.t)) ∧ (w'.cell? ⟨eb, eo, none⟩ = some (.int .i64 z.f) ∧ w'.cell? ⟨eb, eo + 1, none⟩ = some (.string ⟨z.lab.toArray⟩) ∧ w'.cell? ⟨eb, eo + 2, none⟩ = some (.int .i64 z.t))) (by kernel_rfl) ?_
                refine wpAnyM_take (i := 0) (v := ?_) rfl (by kernel_rfl) (by kernel_rfl) (by kernel_rfl) (by kernel_rfl) (fun _ _ _ h => h) (Or.inl ⟨by rfl, ?_⟩) hS0 ?_
                rotate_left
                · intro w hSw; (try dsimp only at hSw); go_simp; (try with_reducible rfl)
                simp only [Act.put, List.getElem_toArray, List.getElem_cons_zero, List.setIfInBounds_toArray, List.set_cons_zero, List.set_cons_succ]
                refine wpAnyM_take (i := 1) (v := ?_) rfl (by kernel_rfl) (by kernel_rfl) (by kernel_rfl) (by kernel_rfl) (fun _ _ _ h => h) (Or.inl ⟨by rfl, ?_⟩) hS0 ?_
                rotate_left
                · intro w hSw; (try dsimp only at hSw); go_simp; (try with_reducible rfl)
                simp only [Act.put, List.getElem_toArray, List.getElem_cons_zero, List.getElem_cons_succ, List.setIfInBounds_toArray, List.set_cons_zero, List.set_cons_succ]
                refine wpAnyM_take (i := 2) (v := ?_) rfl (by kernel_rfl) (by kernel_rfl) (by kernel_rfl) (by kernel_rfl) (fun _ _ _ h => h) (Or.inl ⟨by rfl, ?_⟩) hS0 ?_
                rotate_left
                · intro w hSw; (try dsimp only at hSw); go_simp; (try with_reducible rfl)
                simp only [Act.put, List.getElem_toArray, List.getElem_cons_zero, List.getElem_cons_succ, List.setIfInBounds_toArray, List.set_cons_zero, List.set_cons_succ]
                refine wpAnyM_take (i := 3) (v := ?_) rfl (by kernel_rfl) (by kernel_rfl) (by kernel_rfl) (by kernel_rfl) (fun _ _ _ h => h) (Or.inl ⟨by rfl, ?_⟩) hS0 ?_
                rotate_left
                · intro w hSw; (try dsimp only at hSw); go_simp; (try with_reducible rfl)
                simp only [Act.put, List.getElem_toArray, List.getElem_cons_zero, List.getElem_cons_succ, List.setIfInBounds_toArray, List.set_cons_zero, List.set_cons_succ]
                refine wpAnyM_take (i := 4) (v := ?_) rfl (by kernel_rfl) (by kernel_rfl) (by kernel_rfl) (by kernel_rfl) (fun _ _ _ h => h) (Or.inl ⟨by rfl, ?_⟩) hS0 ?_
                rotate_left
                · intro w hSw; (try dsimp only at hSw); go_simp; (try with_reducible rfl)
                simp only [Act.put, List.getElem_toArray, List.getElem_cons_zero, List.getElem_cons_succ, List.setIfInBounds_toArray, List.set_cons_zero, List.set_cons_succ]
                refine wpAnyM_take (i := 5) (v := ?_) rfl (by kernel_rfl) (by kernel_rfl) (by kernel_rfl) (by kernel_rfl) (fun _ _ _ h => h) (Or.inl ⟨by rfl, ?_⟩) hS0 ?_
                rotate_left
                · intro w hSw; (try dsimp only at hSw); go_simp; (try with_reducible rfl)
                simp only [Act.put, List.getElem_toArray, List.getElem_cons_zero, List.getElem_cons_succ, List.setIfInBounds_toArray, List.set_cons_zero, List.set_cons_succ]
                refine wpAnyM_take (i := 6) (v := ?_) rfl (by kernel_rfl) (by kernel_rfl) (by kernel_rfl) (by kernel_rfl) (fun _ _ _ h => h) (Or.inl ⟨by rfl, ?_⟩) hS0 ?_
                rotate_left
                · intro w hSw; (try dsimp only at hSw); go_simp; (try with_reducible rfl)
                simp only [Act.put, List.getElem_toArray, List.getElem_cons_zero, List.getElem_cons_succ, List.setIfInBounds_toArray, List.set_cons_zero, List.set_cons_succ]
                refine wpAnyM_take (i := 7) (v := ?_) rfl (by kernel_rfl) (by kernel_rfl) (by kernel_rfl) (by kernel_rfl) (fun _ _ _ h => h) (Or.inl ⟨by rfl, ?_⟩) hS0 ?_
                rotate_left
                · intro w hSw; (try dsimp only at hSw); go_simp; (try with_reducible rfl)
                simp only [Act.put, List.getElem_toArray, List.getElem_cons_zero, List.getElem_cons_succ, List.setIfInBounds_toArray, List.set_cons_zero, List.set_cons_succ]
                refine wpAnyM_one (i := 8) (by kernel_rfl) rfl (fun K hK => ?_)
                go_simp
                refine hK.out _ _ (fun _ => KS.out _ ((Below.refl _ _).alloc (Nat.le_refl _) _).drew) ?_
                clear hK K
                refine wpAnyM_one (i := 9) (by kernel_rfl) rfl (fun K hK => ?_)
                refine step_appK _ (by rfl) (.tmp 79) (.tmp 87) 26 rfl rfl _ _ _ _ rfl rfl hrun ?_
                refine hK.out _ _ (fun h => absurd h (by decide)) ?_
                clear hK K
                refine wpAnyM_one (i := 10) (by kernel_rfl) rfl (fun K hK => ?_)
                go_simp
                refine hK.out _ _ (fun h => absurd h (by decide)) ?_
                clear hK K
                refine wpAnyM_done (by kernel_rfl) ?_ _
                go_wp2_with (fail)
                go_roundw
                case rel => exact ⟨m, E ++ [y, z], by omega, rfl, HP⟩
                case measure => simp [intOf]
end Go.Proofs.Ytobieolonlddlaa
