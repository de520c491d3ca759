/- A disk's calls, in plain words. -/
import Derived.Test.YtnjljalihjkmcaaDskL
namespace Go.Proofs.Ytnjljalihjkmcaa
open Go.RowKit Go.Maps Go.Sort Go.Shelf Go.Proofs

/-- The disk M lies at p, its maps at bs and bw. -/
def DiskM (w : World) (p bs bw : Nat) (M : DM) (T : Nat) : Prop := ∃ D, DiskAt w p bs bw D T ∧ Sim D M
theorem DiskM.lt {w : World} {p bs bw T : Nat} {M : DM} (h : DiskM w p bs bw M T) : p < w.heap.size ∧ bs < w.heap.size ∧ bw < w.heap.size := by
  obtain ⟨D, h1, _⟩ := h; exact h1.lt
theorem DiskM.fr {w w' : World} {p bs bw T : Nat} {M : DM} {S : List Nat} (h : DiskM w p bs bw M T) (hf : Fr w w' S) (hp : p ∉ S) (hs : bs ∉ S) (hw : bw ∉ S) : DiskM w' p bs bw M T := by
  obtain ⟨D, h1, h2⟩ := h; exact ⟨D, h1.fr hf hp hs hw, h2⟩
theorem DiskM.below {w w' : World} {p bs bw T B : Nat} {M : DM} (h : DiskM w p bs bw M T) (hb : Below B w w') (hp : p < B) (hs : bs < B) (hw : bw < B) : DiskM w' p bs bw M T := by
  obtain ⟨D, h1, h2⟩ := h; exact ⟨D, h1.below hb hp hs hw, h2⟩
theorem DiskM.kept {w w' : World} {p bs bw T : Nat} {M : DM} (h : DiskM w p bs bw M T) (hb : Below w.heap.size w w') : DiskM w' p bs bw M T := h.below hb h.lt.1 h.lt.2.1 h.lt.2.2
theorem DiskM.mono {w : World} {p bs bw T T' : Nat} {M : DM} (h : DiskM w p bs bw M T) (hT : T ≤ T') : DiskM w p bs bw M T' := by
  obtain ⟨D, h1, h2⟩ := h; exact ⟨D, h1.mono hT, h2⟩
theorem DiskM.apart {w : World} {p bs bw T : Nat} {M : DM} (h : DiskM w p bs bw M T) : p ≠ bs ∧ p ≠ bw ∧ bs ≠ bw := by
  obtain ⟨D, h1, _⟩ := h; exact h1.apart
theorem DiskM.drew {w : World} {p bs bw T : Nat} {M : DM} (h : DiskM w p bs bw M T) : DiskM w.drew p bs bw M T := h

/-- Numbers that a disk may have. -/
structure DM.Ok (M : DM) (T : Nat) : Prop where
  size : M.size ≤ 4096
  steps : M.steps ≤ 1000000000
  left : M.left ≤ 9223372036854775807
  T : T ≤ 1000000000

variable {p bs bw T : Nat} {M : DM} {w : World}
theorem newM (n : Nat) (w : World) (h1 : 1 ≤ n) (h2 : n ≤ 4096) :
    Calls Try.prog 11 #[.int .i64 (n : Int)] w fun e w' => e = .returned (.tuple #[.pointer (some ⟨w.heap.size + 2, 0, none⟩), .int .i64 0]) ∧ DiskM w' (w.heap.size + 2) w.heap.size (w.heap.size + 1) (DM.new n) 0 ∧ Fr w w' [] :=
  (new_any (n : Int) w (by omega) (by omega)).mono fun _ _ ⟨h1, h2, h3⟩ => ⟨h1, ⟨_, h2, Sim.new n⟩, h3⟩
theorem sizeM (h : DiskM w p bs bw M T) : Calls Try.prog 44 #[.pointer (some ⟨p, 0, none⟩)] w fun e w' => e = .returned (.int .i64 (M.size : Int)) ∧ w = w' := by
  obtain ⟨D, h1, h2⟩ := h
  have := size_any p bs bw T D w h1
  rw [h2.size] at this; exact this
theorem stepsM (h : DiskM w p bs bw M T) : Calls Try.prog 41 #[.pointer (some ⟨p, 0, none⟩)] w fun e w' => e = .returned (.int .i64 (M.steps : Int)) ∧ w = w' := by
  obtain ⟨D, h1, h2⟩ := h
  have := steps_any p bs bw T D w h1
  rw [h2.steps] at this; exact this

def DM.writeE (M : DM) (i : Int) (l : List UInt8) : Int := if ¬ (0 ≤ i ∧ i < M.size) ∨ l.length ≠ 64 then 1 else if M.dead then 30 else 0
def DM.writeM (M : DM) (i : Int) (l : List UInt8) : DM := if ¬ (0 ≤ i ∧ i < M.size) ∨ l.length ≠ 64 then M else if M.dead then M else M.written i.toNat l
theorem writeM (h : DiskM w p bs bw M T) (hk : M.Ok T) (i : Int) (A : Option Addr) (l : List UInt8) (c B : Nat) (hr : Rd w B A (u8s l)) (hp : ∀ a, A = some a → a.block ≠ p) :
    Calls Try.prog 21 #[.pointer (some ⟨p, 0, none⟩), .int .i64 i, .slice A l.length c] w fun e w' => e = .returned (.int .i64 (M.writeE i l)) ∧ DiskM w' p bs bw (M.writeM i l) (T + 1) ∧ Fr w w' [p, bw] := by
  obtain ⟨D, h1, h2⟩ := h
  unfold DM.writeE DM.writeM
  by_cases hb : ¬ (0 ≤ i ∧ i < M.size) ∨ l.length ≠ 64
  · rw [if_pos hb, if_pos hb]
    refine (write_bad p bs bw T D i A l.length c w h1 (by rw [h2.size]; exact hb)).mono ?_
    rintro e w' ⟨rfl, rfl⟩
    exact ⟨rfl, ⟨D, h1.mono (by omega), h2⟩, Fr.refl _ _⟩
  · rw [if_neg hb, if_neg hb]
    have hi : 0 ≤ i ∧ i < M.size := Classical.not_not.1 fun h => hb (.inl h)
    have hl : l.length = 64 := Classical.not_not.1 fun h => hb (.inr h)
    have hL : 0 ≤ D.left ∧ D.left ≤ 9223372036854775807 := by have := hk.left; rw [h2.left]; omega
    have hS : 0 ≤ D.steps ∧ D.steps ≤ 1000000000 := by have := hk.steps; rw [h2.steps]; omega
    cases hd : M.dead with
    | true =>
      rw [if_pos rfl, if_pos rfl, hl]
      refine (write_dead p bs bw T D i A c w h1 (by rw [h2.size]; exact hi) (h2.dead.trans hd) hL hS).mono ?_
      rintro e w' ⟨rfl, rfl⟩
      exact ⟨rfl, ⟨D, h1.mono (by omega), h2⟩, Fr.refl _ _⟩
    | false =>
      rw [if_neg (by simp), if_neg (by simp), hl]
      obtain ⟨sb, so, rfl, hsb, hcells⟩ := hr (by intro e; have := congrArg List.length e; rw [u8s_len, hl] at this; cases this)
      have hmw : Maps.IsMap D.wr := by obtain ⟨_, _, _, _, _, h3, _⟩ := h1; exact h3.isMap
      obtain ⟨i', rfl⟩ : ∃ i' : Nat, i = i' := ⟨i.toNat, by omega⟩
      refine (write_any p bs bw T D i' sb so c l w h1 (by rw [h2.size]; exact hi) (h2.dead.trans hd) hL hS (by have := hk.size; rw [h2.size]; omega) hk.T hl hcells (hp _ rfl)).mono ?_
      rintro e w' ⟨rfl, hD, hF⟩
      exact ⟨rfl, ⟨_, hD, by simpa using h2.written hd (i := i') (by omega) hl hmw⟩, hF⟩

def DM.flushE (M : DM) : Int := if M.dead then 30 else 0
def DM.flushM (M : DM) : DM := if M.dead then M else M.flushed
theorem flushM (h : DiskM w p bs bw M T) (hk : M.Ok T) :
    Calls Try.prog 77 #[.pointer (some ⟨p, 0, none⟩)] w fun e w' => e = .returned (.int .i64 M.flushE) ∧ DiskM w' p bs bw M.flushM T ∧ Fr w w' [p, bs, bw] := by
  obtain ⟨D, h1, h2⟩ := h
  unfold DM.flushE DM.flushM
  have hL : 0 ≤ D.left ∧ D.left ≤ 9223372036854775807 := by have := hk.left; rw [h2.left]; omega
  have hS : 0 ≤ D.steps ∧ D.steps ≤ 1000000000 := by have := hk.steps; rw [h2.steps]; omega
  cases hd : M.dead with
  | true =>
    refine (flush_dead p bs bw T D w h1 (h2.dead.trans hd) hL hS).mono ?_
    rintro e w' ⟨rfl, rfl⟩
    exact ⟨rfl, ⟨D, h1, h2⟩, Fr.refl _ _⟩
  | false =>
    have h1' := h1
    obtain ⟨_, _, ns, nw, h3, h4, _⟩ := h1'
    refine (flush_any p bs bw T D w h1 (h2.dead.trans hd) hL hS hk.T).mono ?_
    rintro e w' ⟨rfl, hD, hF⟩
    exact ⟨rfl, ⟨_, hD, h2.flushed hd h3.isMap (h4.entries keyZ)⟩, hF⟩

def DM.armE (M : DM) (n : Int) : Int := if n < 0 then 1 else if M.dead then 30 else 0
def DM.armM (M : DM) (n : Int) : DM := if n < 0 then M else if M.dead then M else { M with armed := true, left := n.toNat }
theorem armM (h : DiskM w p bs bw M T) (n : Int) :
    Calls Try.prog 19 #[.pointer (some ⟨p, 0, none⟩), .int .i64 n] w fun e w' => e = .returned (.int .i64 (M.armE n)) ∧ DiskM w' p bs bw (M.armM n) T ∧ Fr w w' [p] := by
  obtain ⟨D, h1, h2⟩ := h
  refine (arm_any p bs bw T D n w h1).mono ?_
  rintro e w' ⟨rfl, hD, hF⟩
  unfold DK.armE DK.armD at *
  unfold DM.armE DM.armM
  rw [h2.dead] at hD ⊢
  refine ⟨rfl, ⟨_, hD, ?_⟩, hF⟩
  by_cases hn : n < 0
  · rw [if_pos hn, if_pos hn]; exact h2
  · rw [if_neg hn, if_neg hn]
    cases hd : M.dead with
    | true => exact h2
    | false => exact ⟨h2.size, h2.steps, rfl, by show n = ((n.toNat : Nat) : Int); omega, h2.has, h2.sure, h2.wr⟩

theorem readM (h : DiskM w p bs bw M T) (hz : M.size ≤ 4096) {i : Nat} (hi : i < M.size) :
    Calls Try.prog 40 #[.pointer (some ⟨p, 0, none⟩), .int .i64 (i : Int)] w fun e w' => e = .returned (.tuple #[.slice (some ⟨w.heap.size, 0, none⟩) 64 64, .int .i64 0]) ∧ w' = w.alloc (.cells (u8s (M.get i)).toArray 109) ∧ (M.get i).length = 64 := by
  obtain ⟨D, h1, h2⟩ := h
  refine (read_any p bs bw T D i w h1 (by rw [h2.size]; omega) (by rw [h2.size]; omega)).mono ?_
  rintro e w' ⟨l, hl, hg, rfl, rfl⟩
  have hg2 := h2.get hi
  have : l = M.get i := Lit.string.inj (DataW.lit.inj (hg.symm.trans hg2.1))
  subst this
  exact ⟨rfl, rfl, hl⟩
theorem readM_bad (h : DiskM w p bs bw M T) {i : Int} (hi : ¬ (0 ≤ i ∧ i < M.size)) :
    Calls Try.prog 40 #[.pointer (some ⟨p, 0, none⟩), .int .i64 i] w fun e w' => e = .returned (.tuple #[.slice none 0 0, .int .i64 1]) ∧ w = w' := by
  obtain ⟨D, h1, h2⟩ := h
  exact read_bad p bs bw T D i w h1 (by rw [h2.size]; exact hi)
theorem unsureM (h : DiskM w p bs bw M T) (hT : T ≤ 1000000000) :
    Calls Try.prog 62 #[.pointer (some ⟨p, 0, none⟩)] w fun e w' => ∃ v, e = .returned v ∧ w'.ownsRow w.heap.size 3 1 v M.fresh.length (M.fresh.map fun i : Nat => .int .i64 (i : Int)) ∧ Below w.heap.size w w' := by
  obtain ⟨D, h1, h2⟩ := h
  refine (unsure_list p bs bw T D _ w h1 hT h2.keys).mono ?_
  rintro e w' ⟨v, rfl, hrow, hb⟩
  refine ⟨v, rfl, ?_, hb⟩
  rw [List.length_map, List.map_map] at hrow
  exact hrow
theorem crashM (h : DiskM w p bs bw M T) (hT : T ≤ 1000000000) (A : Option Addr) (c : Nat) (keep : List Bool) (torn cut : Int) (hr : Rd w w.heap.size A (keep.map Value.bool)) :
    Calls Try.prog 24 #[.pointer (some ⟨p, 0, none⟩), .slice A keep.length c, .int .i64 torn, .int .i64 cut] w fun e w' => ∃ p' bs' bw', e = .returned (.pointer (some ⟨p', 0, none⟩)) ∧ w.heap.size ≤ p' ∧ w.heap.size ≤ bs' ∧ w.heap.size ≤ bw' ∧ DiskM w' p' bs' bw' (M.crashed keep torn cut) T ∧ Below w.heap.size w w' := by
  obtain ⟨D, h1, h2⟩ := h
  have hX : Maps.IsMap D.sure := by obtain ⟨_, _, _, _, h3, _⟩ := h1; exact h3.isMap
  refine (crash_any p bs bw T D A c keep torn cut _ w h1 hT h2.keys hr).mono ?_
  rintro e w' ⟨p', bs', bw', rfl, b1, b2, b3, hD, hb⟩
  exact ⟨p', bs', bw', rfl, b1, b2, b3, ⟨_, hD, h2.crashed hX keep torn cut⟩, hb⟩
/-- Each sector has its bytes. -/
def DM.full (M : DM) : Prop := ∀ i, i < M.size → (M.sure i).length = 64 ∧ (M.get i).length = 64
theorem DiskM.full {w : World} {p bs bw T : Nat} {M : DM} (h : DiskM w p bs bw M T) : M.full := by
  obtain ⟨D, _, h2⟩ := h
  exact fun i hi => ⟨(h2.sure i hi).1, (h2.get hi).2⟩
end Go.Proofs.Ytnjljalihjkmcaa
