/- A log that is opened twice, plainly. -/
import Derived.Test.YtdjcpjfomgfjlaaLogAE
namespace Go.Proofs.Ytdjcpjfomgfjlaa

theorem runOps_zero : ∀ (o : List DOp) (M : DM), (runOps o M).1 = 0 → (runOps o M).2 = doneOps o M
  | [], _, _ => rfl
  | a :: r, M, h => by
    have e : runOps (a :: r) M = if M.dead then (30, M) else runOps r (doneOp M a) := rfl
    rw [e] at h ⊢
    cases hd : M.dead with
    | true => rw [hd] at h; simp at h
    | false =>
      rw [hd] at h
      simp only [Bool.false_eq_true, if_false] at h ⊢
      exact runOps_zero r (doneOp M a) h
theorem wiped_get (L : List Nat) (M : DM) (i : Nat) : (doneOps (wipeOps L) M).get i = if i ∈ L then zero64 else M.get i := by
  unfold wipeOps
  rw [doneOps_append]
  show (doneOps (zeroOps L) M).get i = _
  have h := done_zero L M
  unfold DM.get
  rw [h.1, h.2 i]
  split <;> rfl
/-- What an Open that goes through leaves is opened again as it is. -/
theorem open_twice {M : DM} {first behind : Nat} (hful : ∀ i, i < behind → (M.get i).length = 64) (hf : first ≤ behind) (h0 : (runOps (openOps M first behind) M).1 = 0) :
    scan (runOps (openOps M first behind) M).2.get behind first none = scan M.get behind first none ∧ openOps (runOps (openOps M first behind) M).2 first behind = [] := by
  rw [runOps_zero _ _ h0]
  obtain ⟨rs, hrs⟩ : ∃ rs, rs = scan M.get behind first none := ⟨_, rfl⟩
  have hlaid := laid_scan (g := M.get) (behind := behind) (a := first) (nx := none) (fun i _ hi => hful i hi)
  rw [← hrs] at hlaid
  have hE := hlaid.end_le hf
  obtain ⟨D, hD⟩ : ∃ D, D = (LG.of first behind rs).dirty M := ⟨_, rfl⟩
  have hD' : D = dirtyL M.get (endR first rs) (behind - endR first rs) := hD
  have hget : ∀ i, (doneOps (openOps M first behind) M).get i = if i ∈ D then zero64 else M.get i := by
    intro i
    unfold openOps
    rw [← hrs, ← hD]
    by_cases h : D = []
    · rw [if_pos h, h]; simp [doneOps]
    · rw [if_neg h]; exact wiped_get D M i
  generalize doneOps (openOps M first behind) M = M3 at hget ⊢
  have hlow : ∀ i, i < endR first rs → M3.get i = M.get i := fun i hi => by
    rw [hget, if_neg]
    intro hm
    rw [hD'] at hm
    have := (dirtyL_mem hm).1
    omega
  have hzero : ∀ i, endR first rs ≤ i → i < behind → M3.get i = zero64 := fun i h1 h2 => by
    rw [hget]
    by_cases hm : i ∈ D
    · rw [if_pos hm]
    · rw [if_neg hm]
      rw [hD'] at hm
      exact dirtyL_not h1 (by omega) hm
  have hl3 := hlaid.congr (g' := M3.get) (fun i _ hi => hlow i hi)
  have hs3 : scan M3.get behind first none = rs := by
    rw [hl3.scan, scan_none (fun h => by rw [hzero _ (Nat.le_refl _) h]; exact hdr_zero), List.append_nil]
  rw [← hrs]
  refine ⟨hs3, ?_⟩
  unfold openOps
  rw [hs3, if_pos]
  show dirtyL M3.get (endR first rs) (behind - endR first rs) = []
  unfold dirtyL
  rw [List.filter_eq_nil_iff]
  intro i hi
  obtain ⟨j, hj, rfl⟩ := List.mem_map.1 hi
  rw [hzero _ (by omega) (by have := List.mem_range.1 hj; omega)]
  simp
end Go.Proofs.Ytdjcpjfomgfjlaa
