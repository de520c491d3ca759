/- What RecordLong wants: how long a commit of one change, so often, is; rows of changes. -/
import Derived.Test.YtgjjdmkoamjdpaaGreatDoorRcG
namespace Go.Proofs.YtgjjdmkoamjdpaaGreatDoor
open Go.RowKit Go.Maps

theorem rem65 (n : Int) : ∃ k : Nat, k < 65 ∧ wrap64 ((IntKind.u64.wrap n).tmod 65) = (k : Int) := by
  have h2 : 0 ≤ IntKind.u64.wrap n := by
    rw [IntKind.wrap_u64]
    omega
  generalize IntKind.u64.wrap n = u at h2
  refine ⟨(u % 65).toNat, by omega, ?_⟩
  have e : u.tmod 65 = u % 65 := Int.tmod_eq_emod_of_nonneg h2
  rw [e]
  unfold wrap64
  omega
theorem makeU8 (n : Nat) (hn : n ≤ 8192) (w : World) : (Instr.makeSlice 32 (.int .i64 (n : Int)) (.int .i64 (n : Int))).run Tryz.prog w = .ok (.slice (some ⟨w.heap.size, 0, none⟩) n n) (w.alloc (.cells (u8s (List.replicate n 0)).toArray 5)) := by
  have h := run_make_row' (P := Tryz.prog) 32 5 (.int .u8 0) 1 Tryz.underlying32 infoU8 rfl .i64 .i64 n (by omega) (by omega) w
  have e : madeCells #[Value.int .u8 0] n = (u8s (List.replicate n 0)).toArray := by
    apply Array.toList_inj.1
    rw [toList_madeCells_one]
    simp [u8s]
  rw [e] at h
  exact h
/-- The text so far. -/
def xsL (z k : Nat) : List UInt8 := List.replicate k 120 ++ List.replicate (z - k) 0
theorem xsL_len {z k : Nat} (h : k ≤ z) : (xsL z k).length = z := by unfold xsL; simp; omega
theorem xsL_zero (z : Nat) : xsL z 0 = List.replicate z 0 := by unfold xsL; simp
theorem xsL_all (z : Nat) : xsL z z = List.replicate z 120 := by unfold xsL; simp
theorem xsL_set {z k : Nat} (h : k < z) : (xsL z k).set k 120 = xsL z (k + 1) := by
  unfold xsL
  rw [List.set_append_right _ _ (by simp), List.length_replicate, Nat.sub_self]
  obtain ⟨m, hm⟩ : ∃ m, z - k = m + 1 := ⟨z - k - 1, by omega⟩
  rw [hm, List.replicate_succ, List.set_cons_zero, show z - (k + 1) = m by omega, show List.replicate (k + 1) (120 : UInt8) = List.replicate k 120 ++ [120] from List.replicate_succ', List.append_assoc]
  rfl
def oneC (z : Nat) : ChV := ⟨5, 1, 0, ⟨#[]⟩, 0, ⟨#[107]⟩, ⟨2, 0, ⟨(List.replicate z 120).toArray⟩⟩⟩
theorem oneC_facts : ∀ z : Fin 65, formB (oneC z.val) = true ∧ (chB (oneC z.val)).length = 25 + z.val := by decide +kernel
theorem oneC_fits {z : Nat} (h : z < 65) : (oneC z).fits := by
  have hs : (ByteArray.mk (List.replicate z 120).toArray).size = z := by
    show (List.replicate z (120 : UInt8)).toArray.size = z
    simp
  exact ⟨by show (0 : Nat) ≤ _; omega, by show (1 : Nat) ≤ _; omega, by show (ByteArray.mk (List.replicate z 120).toArray).size ≤ _; omega, by show (-9223372036854775808 : Int) ≤ 0; omega, by show (0 : Int) ≤ _; omega⟩
theorem manyC {z : Nat} (hz : z < 65) (m : Nat) : (bodyC (List.replicate m (oneC z))).length = m * (25 + z) ∧ (List.replicate m (oneC z)).all formB = true := by
  have h := oneC_facts ⟨z, hz⟩
  dsimp only at h
  induction m with
  | zero => exact ⟨by simp [bodyC], by simp⟩
  | succ m ih =>
    rw [List.replicate_succ]
    refine ⟨?_, by rw [List.all_cons, h.1, ih.2]; rfl⟩
    show (chB (oneC z) ++ bodyC (List.replicate m (oneC z))).length = _
    rw [List.length_append, h.2, ih.1, Nat.succ_mul]
    omega
theorem manyC_code {z : Nat} (hz : z < 65) (m : Nat) : encCode (List.replicate m (oneC z)) = if 60 < m then 1 else if 4000 < 2 + m * (25 + z) then 3 else 0 := by
  obtain ⟨h1, h2⟩ := manyC hz m
  have hl : (wcB (List.replicate m (oneC z))).length = 2 + m * (25 + z) := by
    unfold wcB
    rw [List.length_cons, List.length_cons, h1]
    omega
  unfold encCode
  rw [hl]
  by_cases h60 : 60 < m
  · have hg : goodC (List.replicate m (oneC z)) = false := by unfold goodC; rw [decide_eq_false (by rw [List.length_replicate]; omega), Bool.false_and]
    rw [if_pos hg, if_pos h60]
  · have hg : ¬ goodC (List.replicate m (oneC z)) = false := by unfold goodC; rw [decide_eq_true (by rw [List.length_replicate]; omega), h2]; simp
    rw [if_neg hg, if_neg h60]
theorem infoCh : (Tryz.prog.info? 53).map (fun i => (i.zero, i.size, i.bytes)) = some (some (.agg #[.int .i64 0, .int .i64 0, .int .i64 0, .string ⟨#[]⟩, .int .i64 0, .string ⟨#[]⟩, .int .i64 0, .int .i64 0, .string ⟨#[]⟩]), 9, 96) := by kernel_rfl
theorem chsC_one (l : List ChV) : ∀ u ∈ chsC l, u.oneCell' = true := by
  intro u hu
  obtain ⟨c, _, hc⟩ := List.mem_flatMap.1 hu
  unfold chC at hc
  simp at hc
  rcases hc with rfl | rfl | rfl | rfl | rfl | rfl | rfl | rfl | rfl <;> rfl
def OwnC (w : World) (base : Nat) (v : Value) (l : List ChV) : Prop := w.ownsRow base 53 9 v l.length (chsC l)
/-- append of one change onto a row of the call's own. -/
theorem app_change (w : World) (base : Nat) (v : Value) (l : List ChV) (hown : OwnC w base v l) (hB : base ≤ w.heap.size) (c : ChV) (hl : l.length ≤ 1000) :
    ∃ A5 c5 w5, (Builtin.append_ #[22, 22] 22 #[v, .slice (some ⟨w.heap.size, 0, none⟩) 1 1]).run Tryz.prog (w.alloc (.cells c.cells 53)) = .ok (.slice A5 (l.length + 1) c5) w5 ∧ OwnC w5 base (.slice A5 (l.length + 1) c5) (l ++ [c]) ∧ Fr (w.alloc (.cells c.cells 53)) w5 v.ownBlock.toList ∧ Below base w w5 := by
  obtain ⟨i, hi, hz0, hz1, hz2⟩ := info_parts infoCh
  have hr : Rd (w.alloc (.cells c.cells 53)) (w.alloc (.cells c.cells 53)).heap.size (some ⟨w.heap.size, 0, none⟩) (chsC [c]) := by
    rw [alloc1_size]
    have := Rd.new w c.cells 53 (0, 0)
    have e : chsC [c] = c.cells.toList := by unfold chsC; simp [chC]
    rw [e]
    exact this
  obtain ⟨v', w', hrun, h1, h2, h3⟩ := run_appR (P := Tryz.prog) (w.alloc (.cells c.cells 53)) base 22 22 53 i _ 9 96 Tryz.underlying22 hi hz0 hz1 hz2 rfl (by omega) v l.length (chsC l) (World.ownsRow.alloc hown _) (w.alloc (.cells c.cells 53)).heap.size (some ⟨w.heap.size, 0, none⟩) 1 1 (chsC [c]) rfl hr (chsC_one [c]) (by omega) (by omega) (by rw [alloc1_size]; omega)
  obtain ⟨A5, c5, rfl, _, _, _⟩ := own_shape h1
  rw [← chsC_app] at h1
  refine ⟨A5, c5, w', hrun, ?_, ?_, ((Below.refl base w).alloc hB _).trans (grown_below' h2 (fun z hz => (World.ownsRow.lt hown z hz).1) (by rw [alloc1_size]; omega))⟩
  · unfold OwnC
    rw [List.length_append]
    exact h1
  · cases hv : v.ownBlock with
    | none => rw [hv] at h2; exact Fr.of_grown0 h2 _
    | some b => rw [hv] at h2; exact Fr.of_grown h2
theorem OwnC.chs {w : World} {base : Nat} {A : Option Addr} {n c : Nat} {l : List ChV} (h : OwnC w base (.slice A n c) l) (hn : n = l.length) (hf : ∀ x ∈ l, x.fits) : Chs w A c l := by
  subst hn
  obtain ⟨A', c', e, h1, _, h3⟩ := own_shape h
  injection e with e1 _ e3
  subst e1 e3
  exact ⟨h3, h1, hf⟩
end Go.Proofs.YtgjjdmkoamjdpaaGreatDoor
