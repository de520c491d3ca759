/- Steps of a disk, plainly; what a sector may have behind a crash; data as sectors. -/
import Derived.Test.YtdjcpjfomgfjlaaLogA
namespace Go.Proofs.Ytdjcpjfomgfjlaa

/-- A step of the disk: a sector's bytes, or a flush. -/
abbrev DOp := Option (Nat × List UInt8)
def doneOp (M : DM) : DOp → DM
  | some (i, l) => M.written i l
  | none => M.flushed
def doneOps : List DOp → DM → DM
  | [], M => M
  | o :: r, M => doneOps r (doneOp M o)
/-- Steps one behind the other; the first that is refused ends it. -/
def runOps : List DOp → DM → Int × DM
  | [], M => (0, M)
  | o :: r, M => if M.dead then (30, M) else runOps r (doneOp M o)
theorem runOps_append (o o' : List DOp) (M : DM) : runOps (o ++ o') M = if (runOps o M).1 = 0 then runOps o' (runOps o M).2 else runOps o M := by
  induction o generalizing M with
  | nil => simp [runOps]
  | cons x r ih =>
    simp only [List.cons_append, runOps]
    split
    · simp
    · exact ih _
theorem doneOps_append (o o' : List DOp) (M : DM) : doneOps (o ++ o') M = doneOps o' (doneOps o M) := by
  induction o generalizing M with
  | nil => rfl
  | cons x r ih => exact ih _
theorem doneOp_size (M : DM) (o : DOp) : (doneOp M o).size = M.size ∧ (doneOp M o).steps = M.steps + 1 ∧ (doneOp M o).armed = M.armed ∧ (doneOp M o).left = if M.armed then M.left - 1 else M.left := by
  cases o with
  | none => exact ⟨rfl, rfl, rfl, rfl⟩
  | some x => obtain ⟨i, l⟩ := x; exact ⟨rfl, rfl, rfl, rfl⟩
theorem doneOps_size (o : List DOp) (M : DM) : (doneOps o M).size = M.size := by
  induction o generalizing M with
  | nil => rfl
  | cons x r ih => exact (ih _).trans (doneOp_size M x).1
theorem runOps_facts (o : List DOp) (M : DM) : (runOps o M).2.size = M.size ∧ (runOps o M).2.steps ≤ M.steps + o.length ∧ (runOps o M).2.left ≤ M.left ∧ ((runOps o M).1 = 0 ∨ (runOps o M).1 = 30) := by
  induction o generalizing M with
  | nil => exact ⟨rfl, Nat.le_refl _, Nat.le_refl _, .inl rfl⟩
  | cons x r ih =>
    simp only [runOps]
    split
    · exact ⟨rfl, Nat.le_add_right _ _, Nat.le_refl _, .inr rfl⟩
    · obtain ⟨h1, h2, h3, h4⟩ := ih (doneOp M x)
      obtain ⟨g1, g2, g3, g4⟩ := doneOp_size M x
      refine ⟨h1.trans g1, by rw [g2] at h2; simp only [List.length_cons]; omega, ?_, h4⟩
      rw [g4] at h3
      split at h3 <;> omega
/-- What is done of some steps: all, or the first ones. -/
theorem runOps_cut (o : List DOp) (M : DM) : ∃ k, k ≤ o.length ∧ (runOps o M).2 = doneOps (o.take k) M ∧ ((runOps o M).1 = 0 ∧ k = o.length ∨ (runOps o M).1 = 30 ∧ (runOps o M).2.dead = true) := by
  induction o generalizing M with
  | nil => exact ⟨0, Nat.le_refl _, rfl, .inl ⟨rfl, rfl⟩⟩
  | cons x r ih =>
    simp only [runOps]
    split
    · rename_i hd; exact ⟨0, Nat.zero_le _, rfl, .inr ⟨rfl, hd⟩⟩
    · obtain ⟨k, h1, h2, h3⟩ := ih (doneOp M x)
      refine ⟨k + 1, by simp only [List.length_cons]; omega, h2, ?_⟩
      simpa using h3
theorem runOps_alive {o : List DOp} {M : DM} (h : M.armed = false) : runOps o M = (0, doneOps o M) := by
  induction o generalizing M with
  | nil => rfl
  | cons x r ih =>
    simp only [runOps, doneOps]
    rw [if_neg (by simp [DM.dead, h]), ih ((doneOp_size M x).2.2.1.trans h)]
theorem runOps_dead {o : List DOp} {M : DM} (h : M.dead = true) (ho : o ≠ []) : runOps o M = (30, M) := by
  cases o with
  | nil => exact absurd rfl ho
  | cons x r => simp only [runOps]; rw [if_pos h]

/-- What a sector may have behind a crash. -/
def Mix (M : DM) (i : Nat) (b : List UInt8) : Prop := (M.wr i = none ∧ b = M.sure i) ∨ ∃ l c, M.wr i = some l ∧ b = l.take c ++ (M.sure i).drop c
theorem mix_left1 (M : DM) (h : M.full) (keep : List Bool) (torn cut : Int) {i : Nat} (hi : i < M.size) : Mix M i (M.left1 keep torn cut i) := by
  unfold DM.left1
  obtain ⟨h1, h2⟩ := h i hi
  unfold DM.get at h2
  cases hw : M.wr i with
  | none => exact .inl ⟨hw, rfl⟩
  | some l =>
    rw [hw] at h2
    have h2 : l.length = 64 := h2
    refine .inr ?_
    simp only
    split
    · exact ⟨l, 64, hw, by rw [List.take_of_length_le (by omega), List.drop_of_length_le (by omega), List.append_nil]⟩
    · split
      · exact ⟨l, cutN cut, hw, rfl⟩
      · exact ⟨l, 0, hw, by simp⟩
theorem mix_zero {M : DM} {i : Nat} {b : List UInt8} (hm : Mix M i b) (hw : M.wr i = none) : b = M.sure i := by
  rcases hm with ⟨_, h⟩ | ⟨l, c, h, _⟩
  · exact h
  · rw [hw] at h; cases h
/-- Nothing is unsure. -/
def Calm (M : DM) : Prop := ∀ i, M.wr i = none
theorem calm_get {M : DM} (h : Calm M) (i : Nat) : M.get i = M.sure i := by unfold DM.get; rw [h i]; rfl

/-- Writes of a list of sectors. -/
def wrs (a : Nat) (bs : List (List UInt8)) : List DOp := bs.zipIdx.map fun x => some (a + x.2, x.1)
theorem wrs_nil (a : Nat) : wrs a [] = [] := rfl
theorem wrs_snoc (a : Nat) (bs : List (List UInt8)) (b : List UInt8) : wrs a (bs ++ [b]) = wrs a bs ++ [some (a + bs.length, b)] := by
  simp [wrs, List.zipIdx_append]
theorem wrs_len (a : Nat) (bs : List (List UInt8)) : (wrs a bs).length = bs.length := by simp [wrs]
theorem wrs_take (a : Nat) (bs : List (List UInt8)) (k : Nat) : (wrs a bs).take k = wrs a (bs.take k) := by
  simp only [wrs, ← List.map_take]
  congr 1
  apply List.ext_getElem
  · simp
  · intro i h1 h2; simp
theorem done_wrs (a : Nat) (bs : List (List UInt8)) (M : DM) : (doneOps (wrs a bs) M).sure = M.sure ∧ (∀ i, (doneOps (wrs a bs) M).wr i = if a ≤ i ∧ i < a + bs.length then bs[i - a]? else M.wr i) := by
  obtain ⟨n, hn⟩ : ∃ n, n = bs.length := ⟨_, rfl⟩
  induction n generalizing bs with
  | zero =>
    have : bs = [] := List.eq_nil_of_length_eq_zero hn.symm
    subst this
    exact ⟨rfl, fun i => by rw [if_neg (by simp)]; rfl⟩
  | succ n ih =>
    have hne : bs ≠ [] := by rintro rfl; cases hn
    obtain ⟨bs', b, rfl⟩ : ∃ bs' b, bs = bs' ++ [b] := ⟨bs.dropLast, bs.getLast hne, (List.dropLast_concat_getLast hne).symm⟩
    have hn' : n = bs'.length := by simpa using hn
    obtain ⟨h1, h2⟩ := ih bs' hn'
    rw [wrs_snoc, doneOps_append]
    refine ⟨h1, fun i => ?_⟩
    show (if i = a + bs'.length then some b else (doneOps (wrs a bs') M).wr i) = _
    rw [h2 i]
    by_cases e : i = a + bs'.length
    · subst e
      rw [if_pos rfl, if_pos (by simp)]
      simp
    · rw [if_neg e]
      by_cases h : a ≤ i ∧ i < a + bs'.length
      · rw [if_pos h, if_pos (by simp; omega), List.getElem?_append_left (by omega)]
      · rw [if_neg h, if_neg (by simp; omega)]
/-- Zeros on sectors. -/
def zeroOps (L : List Nat) : List DOp := L.map fun i => some (i, zero64)
def wipeOps (L : List Nat) : List DOp := zeroOps L ++ [none]
theorem done_zero (L : List Nat) (M : DM) : (doneOps (zeroOps L) M).sure = M.sure ∧ (∀ i, (doneOps (zeroOps L) M).wr i = if i ∈ L then some zero64 else M.wr i) := by
  induction L generalizing M with
  | nil => exact ⟨rfl, fun i => by simp [zeroOps, doneOps]⟩
  | cons x r ih =>
    obtain ⟨h1, h2⟩ := ih (M.written x zero64)
    refine ⟨h1, fun i => ?_⟩
    show (doneOps (zeroOps r) (M.written x zero64)).wr i = _
    rw [h2 i]
    by_cases e : i ∈ r
    · rw [if_pos e, if_pos (List.mem_cons_of_mem _ e)]
    · rw [if_neg e]
      show (if i = x then some zero64 else M.wr i) = _
      by_cases e2 : i = x
      · rw [if_pos e2, if_pos (by simp [e2])]
      · rw [if_neg e2, if_neg (by simp [e, e2])]
theorem zeroOps_take (L : List Nat) (k : Nat) : (zeroOps L).take k = zeroOps (L.take k) := by simp [zeroOps, List.map_take]

/-- Data as sectors, the last one filled up with zeros. -/
def chunks (d : List UInt8) : List (List UInt8) := (List.range (secs d.length)).map fun i => ((d.drop (i * 64)).take 64) ++ List.replicate (64 - ((d.drop (i * 64)).take 64).length) 0
theorem chunks_len (d : List UInt8) : (chunks d).length = secs d.length := by simp [chunks]
theorem chunk_len (d : List UInt8) {b : List UInt8} (h : b ∈ chunks d) : b.length = 64 := by
  simp only [chunks, List.mem_map, List.mem_range] at h
  obtain ⟨i, _, rfl⟩ := h
  simp only [List.length_append, List.length_replicate, List.length_take, List.length_drop]
  omega
theorem chunks_get (d : List UInt8) (i : Nat) (h : i < secs d.length) : (chunks d)[i]? = some (((d.drop (i * 64)).take 64) ++ List.replicate (64 - ((d.drop (i * 64)).take 64).length) 0) := by
  simp [chunks, h]
/-- What lies on sectors that were cut so. -/
theorem cat_chunks (d : List UInt8) (g : Nat → List UInt8) (a : Nat) (h : ∀ i, i < secs d.length → some (g (a + i)) = (chunks d)[i]?) : (cat g a (secs d.length)).take d.length = d := by
  have hk : ∀ k, k ≤ secs d.length → cat g a k = (d.take (k * 64)) ++ List.replicate (k * 64 - d.length) 0 := by
    intro k
    induction k with
    | zero => intro _; simp [cat]
    | succ k ih =>
      intro hk
      rw [cat_succ, ih (by omega)]
      have := h k (by omega)
      rw [chunks_get d k (by omega)] at this
      injection this with this
      rw [this]
      have hkd : k * 64 < d.length := by unfold secs at hk; omega
      rw [show k * 64 - d.length = 0 by omega]
      simp only [List.replicate_zero, List.append_nil]
      rw [← List.append_assoc]
      congr 1
      · rw [show (k + 1) * 64 = k * 64 + 64 by omega, List.take_add]
      · congr 1
        simp only [List.length_take, List.length_drop]
        omega
  rw [hk _ (Nat.le_refl _), List.take_append_of_le_length]
  · rw [List.take_take, Nat.min_eq_left (by unfold secs; omega), List.take_length]
  · rw [List.length_take]
    unfold secs
    omega
end Go.Proofs.Ytdjcpjfomgfjlaa
