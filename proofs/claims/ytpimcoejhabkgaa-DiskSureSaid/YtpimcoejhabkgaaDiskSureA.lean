/- DiskSure: the plain facts. -/
import Derived.Test.YtpimcoejhabkgaaDskX
import Derived.Test.YtpimcoejhabkgaaDiskLastW
namespace Go.Proofs.Ytpimcoejhabkgaa
open Go.RowKit Go.Maps

def baseB (j : Nat) : List UInt8 := bytesL [UInt8.ofNat (j + 1), 7]
def baseS (j : Nat) : List UInt8 := if j < 6 then baseB j else zero64
theorem baseS_len (j : Nat) : (baseS j).length = 64 := by
  unfold baseS; split
  · exact bytesL_len _
  · exact zero64_len
/-- The disk with its first k sectors written. -/
structure FillAt (M : DM) (k : Nat) : Prop where
  size : M.size = 12
  armed : M.armed = false
  left : M.left = 0
  steps : M.steps = k
  wr : ∀ j, M.wr j = if j < k then some (baseB j) else none
  sure : ∀ j, M.sure j = zero64
theorem FillAt.new : FillAt (DM.new 12) 0 := ⟨rfl, rfl, rfl, rfl, fun j => (if_neg (by omega)).symm, fun _ => rfl⟩
theorem unarmed {M : DM} (h : M.armed = false) : M.dead = false := by unfold DM.dead; rw [h]; rfl
theorem write_plain {M : DM} {i : Nat} {l : List UInt8} (ha : M.armed = false) (hi : i < M.size) (hl : l.length = 64) : M.writeE (i : Int) l = 0 ∧ M.writeM (i : Int) l = M.written i l := by
  have hn : ¬ (¬ (0 ≤ (i : Int) ∧ (i : Int) < (M.size : Int)) ∨ l.length ≠ 64) := by rw [hl]; omega
  unfold DM.writeE DM.writeM
  rw [if_neg hn, if_neg hn, unarmed ha]
  exact ⟨rfl, rfl⟩
theorem flush_plain {M : DM} (ha : M.armed = false) : M.flushE = 0 ∧ M.flushM = M.flushed := by
  unfold DM.flushE DM.flushM
  rw [unarmed ha]
  exact ⟨rfl, rfl⟩
theorem FillAt.write {M : DM} {k : Nat} (h : FillAt M k) (hk : k < 6) : M.writeE (k : Int) (baseB k) = 0 ∧ FillAt (M.writeM (k : Int) (baseB k)) (k + 1) := by
  have hw := write_plain (i := k) (l := baseB k) h.armed (by rw [h.size]; omega) (bytesL_len _)
  refine ⟨hw.1, ?_⟩
  rw [hw.2]
  refine ⟨h.size, h.armed, by show (if M.armed then M.left - 1 else M.left) = 0; rw [h.armed, h.left]; rfl, by show M.steps + 1 = _; rw [h.steps], fun j => ?_, h.sure⟩
  show (if j = k then some (baseB k) else M.wr j) = _
  rw [h.wr j]
  by_cases e : j = k
  · subst e; rw [if_pos rfl, if_pos (by omega)]
  · rw [if_neg e]
    by_cases e2 : j < k
    · rw [if_pos e2, if_pos (by omega)]
    · rw [if_neg e2, if_neg (by omega)]
theorem FillAt.ok {M : DM} {k T : Nat} (h : FillAt M k) (hk : k ≤ 6) (hT : T ≤ 100) : M.Ok T := ⟨by rw [h.size]; omega, by rw [h.steps]; omega, by rw [h.left]; omega, by omega⟩
/-- The disk whose first six are sure, with these written since. -/
structure SureAt (M : DM) (last : Nat → Option (List UInt8)) (k : Nat) : Prop where
  size : M.size = 12
  armed : M.armed = false
  left : M.left = 0
  steps : M.steps ≤ k
  wr : ∀ j, M.wr j = last j
  sure : ∀ j, M.sure j = baseS j
theorem FillAt.flush {M : DM} (h : FillAt M 6) : M.flushE = 0 ∧ SureAt M.flushM (fun _ => none) 7 := by
  have hw := flush_plain h.armed
  refine ⟨hw.1, ?_⟩
  rw [hw.2]
  refine ⟨h.size, h.armed, by show (if M.armed then M.left - 1 else M.left) = 0; rw [h.armed, h.left]; rfl, by show M.steps + 1 ≤ _; rw [h.steps]; omega, fun _ => rfl, fun j => ?_⟩
  show M.get j = _
  unfold DM.get baseS
  rw [h.wr j]
  by_cases e : j < 6
  · rw [if_pos e, if_pos e]; rfl
  · rw [if_neg e, if_neg e]; exact h.sure j
theorem SureAt.ok {M : DM} {k T : Nat} {last : Nat → Option (List UInt8)} (h : SureAt M last k) (hk : k ≤ 100) (hT : T ≤ 100) : M.Ok T := ⟨by rw [h.size]; omega, by have := h.steps; omega, by rw [h.left]; omega, by omega⟩
def setAt (last : Nat → Option (List UInt8)) (i : Nat) (l : List UInt8) : Nat → Option (List UInt8) := fun j => if j = i then some l else last j
theorem SureAt.write {M : DM} {k i : Nat} {l : List UInt8} {last : Nat → Option (List UInt8)} (h : SureAt M last k) (hi : i < 12) (hl : l.length = 64) : M.writeE (i : Int) l = 0 ∧ SureAt (M.writeM (i : Int) l) (setAt last i l) (k + 1) := by
  have hw := write_plain (i := i) (l := l) h.armed (by rw [h.size]; omega) hl
  refine ⟨hw.1, ?_⟩
  rw [hw.2]
  refine ⟨h.size, h.armed, by show (if M.armed then M.left - 1 else M.left) = 0; rw [h.armed, h.left]; rfl, by show M.steps + 1 ≤ _; have := h.steps; omega, fun j => ?_, h.sure⟩
  show (if j = i then some l else M.wr j) = _
  rw [h.wr j]; rfl
theorem SureAt.mono {M : DM} {k k' : Nat} {last : Nat → Option (List UInt8)} (h : SureAt M last k) (hk : k ≤ k') : SureAt M last k' := ⟨h.size, h.armed, h.left, by have := h.steps; omega, h.wr, h.sure⟩
/-- What a crash leaves of sector i. -/
theorem SureAt.crashed {M : DM} {k : Nat} {last : Nat → Option (List UInt8)} (h : SureAt M last k) (keep : List Bool) (torn cut : Int) (i : Nat) :
    (last i = none → (M.crashed keep torn cut).get i = baseS i) ∧
    (∀ l, last i = some l → ∃ n, (M.crashed keep torn cut).get i = l.take n ++ (baseS i).drop n) := by
  have e : (M.crashed keep torn cut).get i = M.left1 keep torn cut i := rfl
  rw [e]
  unfold DM.left1
  rw [h.wr i, h.sure i]
  constructor
  · intro hn; rw [hn]
  · intro l hl
    rw [hl]
    simp only
    split
    · refine ⟨max l.length (baseS i).length, ?_⟩
      rw [List.take_of_length_le (by omega), List.drop_of_length_le (by omega), List.append_nil]
    · split
      · exact ⟨_, rfl⟩
      · exact ⟨0, by simp⟩
theorem crashed_facts (M : DM) (keep : List Bool) (torn cut : Int) : (M.crashed keep torn cut).size = M.size ∧ (M.crashed keep torn cut).steps = 0 ∧ (M.crashed keep torn cut).fresh.length = 0 := by
  refine ⟨rfl, rfl, ?_⟩
  have : (M.crashed keep torn cut).fresh = [] := by unfold DM.fresh; simp [DM.crashed]
  rw [this]; rfl
/-- Where the first difference stands nothing of the one is left. -/
theorem drop_same {b l s : List UInt8} {n k : Nat} (hb : b = l.take n ++ s.drop n) (hl : l.length = 64) (hs : s.length = 64) (hk : k ≤ 64) (hd : k = 64 ∨ b[k]? ≠ l[k]?) : b.drop k = s.drop k := by
  have hbl : b.length = 64 := by rw [hb]; simp [hl, hs]; omega
  rcases hd with rfl | hd
  · rw [List.drop_of_length_le (by omega), List.drop_of_length_le (by omega)]
  · by_cases hk64 : k = 64
    · rw [List.drop_of_length_le (by omega), List.drop_of_length_le (by omega)]
    · have hnk : n ≤ k := by
        rcases Nat.lt_or_ge k n with h | h
        · exfalso; apply hd
          rw [hb, List.getElem?_append_left (by simp; omega), List.getElem?_take, if_pos h]
        · exact h
      rw [hb, List.drop_append, List.length_take, hl]
      rw [List.drop_of_length_le (by simp; omega), List.nil_append, List.drop_drop]
      congr 1
      omega
end Go.Proofs.Ytpimcoejhabkgaa
