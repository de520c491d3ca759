/- The document's disk is the plain disk. -/
import Derived.Test.YtdjcpjfomgfjlaaRefG
namespace Go.Proofs.Ytdjcpjfomgfjlaa
open Go.RowKit Go.Maps

def refOf (M : DM) : RD := ⟨(List.range M.size).map M.sure, (List.range M.size).map M.get, (List.range M.size).map fun i => (M.wr i).isSome, M.steps, if M.armed then (M.left : Int) else -1⟩
theorem refOf_len (M : DM) : (refOf M).now.length = M.size := by simp [refOf]
theorem refOf_ok {M : DM} {T : Nat} (h : M.Ok T) : (refOf M).Ok := by
  refine ⟨by rw [refOf_len]; exact h.size, by simp [refOf], by simp [refOf], ⟨by simp [refOf], by have := h.steps; simp [refOf]; omega⟩, ?_⟩
  have := h.left
  show -1 ≤ (if M.armed then (M.left : Int) else -1) ∧ (if M.armed then (M.left : Int) else -1) ≤ 9223372036854775807
  split <;> omega
theorem map_same {α : Type} (n : Nat) (f : Nat → α) (a : α) (h : ∀ i, f i = a) : (List.range n).map f = List.replicate n a := by
  apply List.ext_getElem
  · simp
  · intro i h1 h2; simp [h]
theorem refOf_new (n : Nat) : refOf (DM.new n) = RD.new n := by
  unfold refOf RD.new
  rw [map_same (DM.new n).size (DM.new n).sure zero64 (fun _ => rfl), map_same (DM.new n).size (DM.new n).get zero64 (fun _ => rfl), map_same (DM.new n).size (fun i => ((DM.new n).wr i).isSome) false (fun _ => rfl)]
  rfl
theorem refOf_dead (M : DM) : (refOf M).left = 0 ↔ M.dead = true := by
  show (if M.armed then (M.left : Int) else -1) = 0 ↔ (M.armed && (M.left == 0)) = true
  cases M.armed with
  | true => simp
  | false => simp
theorem refOf_stepS (M : DM) (h : M.dead = false) : stepS (refOf M).steps (refOf M).left = (M.stepped.steps : Int) := by
  have : ¬ (refOf M).left = 0 := by rw [refOf_dead, h]; simp
  unfold stepS
  rw [if_neg this]
  rfl
theorem refOf_stepL (M : DM) (h : M.dead = false) : stepL (refOf M).left = if M.stepped.armed then (M.stepped.left : Int) else -1 := by
  have h0 : ¬ (refOf M).left = 0 := by rw [refOf_dead, h]; simp
  unfold stepL
  rw [if_neg h0]
  show (if 0 < (if M.armed then (M.left : Int) else -1) then (if M.armed then (M.left : Int) else -1) - 1 else (if M.armed then (M.left : Int) else -1)) = if M.armed then (((if M.armed then M.left - 1 else M.left : Nat)) : Int) else -1
  change ¬ (if M.armed then (M.left : Int) else -1) = 0 at h0
  cases ha : M.armed with
  | true => rw [ha] at h0; simp at h0 ⊢; omega
  | false => simp
theorem map_set {α : Type} (n i : Nat) (f g : Nat → α) (a : α) (hi : g i = a) (h : ∀ j, j ≠ i → g j = f j) : ((List.range n).map f).set i a = (List.range n).map g := by
  apply List.ext_getElem
  · simp
  · intro j h1 h2
    rw [List.getElem_set]
    split
    · subst_vars; simp
    · simp; exact (h j (by omega)).symm
theorem refOf_write (M : DM) (i : Int) (l : List UInt8) : (refOf M).writeE i l = M.writeE i l ∧ (refOf M).writeM i l = refOf (M.writeM i l) := by
  have hb : (refOf M).writeBad i l ↔ (¬ (0 ≤ i ∧ i < M.size) ∨ l.length ≠ 64) := by unfold RD.writeBad; rw [refOf_len]
  unfold RD.writeE RD.writeM DM.writeE DM.writeM
  by_cases h : ¬ (0 ≤ i ∧ i < M.size) ∨ l.length ≠ 64
  · rw [if_pos (hb.2 h), if_pos h, if_pos (hb.2 h), if_pos h]; exact ⟨rfl, rfl⟩
  · rw [if_neg (fun x => h (hb.1 x)), if_neg h, if_neg (fun x => h (hb.1 x)), if_neg h]
    cases hd : M.dead with
    | true =>
      have := (refOf_dead M).2 hd
      rw [if_pos this, if_pos this]; exact ⟨rfl, rfl⟩
    | false =>
      have h0 : ¬ (refOf M).left = 0 := by rw [refOf_dead, hd]; simp
      rw [if_neg h0, if_neg h0, if_neg (by simp), if_neg (by simp)]
      refine ⟨rfl, ?_⟩
      rw [refOf_stepS M hd, refOf_stepL M hd]
      unfold refOf
      congr 1
      · exact map_set _ _ _ _ _ (by simp [DM.get, DM.written]) (fun j hj => by simp [DM.get, DM.written, hj, DM.stepped])
      · exact map_set _ _ _ _ _ (by simp [DM.written]) (fun j hj => by simp [DM.written, hj, DM.stepped])
theorem refOf_flush (M : DM) : (refOf M).flushE = M.flushE ∧ (refOf M).flushM = refOf M.flushM := by
  unfold RD.flushE RD.flushM DM.flushE DM.flushM
  cases hd : M.dead with
  | true =>
    have := (refOf_dead M).2 hd
    rw [if_pos this, if_pos this]; exact ⟨rfl, rfl⟩
  | false =>
    have h0 : ¬ (refOf M).left = 0 := by rw [refOf_dead, hd]; simp
    rw [if_neg h0, if_neg h0, if_neg (by simp), if_neg (by simp)]
    refine ⟨rfl, ?_⟩
    rw [refOf_stepS M hd, refOf_stepL M hd, refOf_len]
    unfold refOf
    congr 1
    exact (map_same _ _ false (fun _ => rfl)).symm
theorem refOf_arm (M : DM) (n : Int) : (refOf M).armE n = M.armE n ∧ (refOf M).armM n = refOf (M.armM n) := by
  unfold RD.armE RD.armM DM.armE DM.armM
  by_cases hn : n < 0
  · rw [if_pos hn, if_pos hn, if_pos hn, if_pos hn]; exact ⟨rfl, rfl⟩
  · rw [if_neg hn, if_neg hn, if_neg hn, if_neg hn]
    cases hd : M.dead with
    | true =>
      have := (refOf_dead M).2 hd
      rw [if_pos this, if_pos this]; exact ⟨rfl, rfl⟩
    | false =>
      have h0 : ¬ (refOf M).left = 0 := by rw [refOf_dead, hd]; simp
      rw [if_neg h0, if_neg h0, if_neg (by simp), if_neg (by simp)]
      refine ⟨rfl, ?_⟩
      unfold refOf
      congr 1
      show n = (((n.toNat : Nat)) : Int)
      omega
theorem refOf_upto (M : DM) (k : Nat) (hk : k ≤ M.size) : upto (refOf M).fresh k = (List.range k).filter fun j => (M.wr j).isSome := by
  unfold upto
  apply List.filter_congr
  intro j hj
  have : j < M.size := by have := List.mem_range.1 hj; omega
  simp [refOf, List.getD, this]
theorem refOf_fresh (M : DM) : upto (refOf M).fresh (refOf M).fresh.length = M.fresh := by
  have : (refOf M).fresh.length = M.size := by simp [refOf]
  rw [this, refOf_upto M _ (Nat.le_refl _)]; rfl
theorem refOf_crashed (M : DM) (keep : List Bool) (torn cut : Int) : (refOf M).crashed keep torn cut = refOf (M.crashed keep torn cut) := by
  have hl : (refOf M).lefts keep torn cut (refOf M).now.length = (List.range M.size).map (M.left1 keep torn cut) := by
    unfold RD.lefts
    rw [refOf_len]
    apply List.map_congr_left
    intro i hi
    have hi' := List.mem_range.1 hi
    unfold RD.left1 DM.left1
    have hf : (refOf M).fresh.getD i false = (M.wr i).isSome := by simp [refOf, List.getD, hi']
    have hs : (refOf M).sure.getD i [] = M.sure i := by simp [refOf, List.getD, hi']
    have hn : (refOf M).now.getD i [] = M.get i := by simp [refOf, List.getD, hi']
    rw [hf, hs, hn, refOf_upto M i (by omega)]
    unfold DM.get
    cases hw : M.wr i with
    | none => simp
    | some l =>
      rw [if_pos (show (some l).isSome = true from rfl)]
      show (if keep[M.place i]? = some true then l else if (M.place i : Int) = torn then tearL (M.sure i) l cut else M.sure i) = _
      by_cases h1 : keep[M.place i]? = some true
      · rw [if_pos h1]; exact (if_pos h1).symm
      · rw [if_neg h1]
        by_cases h2 : (M.place i : Int) = torn
        · rw [if_pos h2]; exact ((if_neg h1).trans (if_pos h2)).symm
        · rw [if_neg h2]; exact ((if_neg h1).trans (if_neg h2)).symm
  unfold RD.crashed
  rw [hl, refOf_len]
  unfold refOf
  have e1 : (List.range (M.crashed keep torn cut).size).map (M.crashed keep torn cut).get = (List.range M.size).map (M.left1 keep torn cut) := rfl
  have e2 : (List.range (M.crashed keep torn cut).size).map (fun i => ((M.crashed keep torn cut).wr i).isSome) = List.replicate M.size false := map_same _ _ false (fun _ => rfl)
  rw [e1, e2]
  rfl
theorem refOf_full {M : DM} (h : M.full) : (∀ i (hi : i < (refOf M).sure.length), (refOf M).sure[i].length = 64) ∧ (∀ i (hi : i < (refOf M).now.length), (refOf M).now[i].length = 64) := by
  constructor
  · intro i hi
    have : i < M.size := by simpa [refOf] using hi
    simpa [refOf] using (h i this).1
  · intro i hi
    have : i < M.size := by simpa [refOf] using hi
    simpa [refOf] using (h i this).2
end Go.Proofs.Ytdjcpjfomgfjlaa
