/- Joined: RefH RefI RefJ LogA LogB LogE LogF LogG. -/
import Derived.Test.YtdjcpjfomgfjlaaRefG
import Derived.Deep.RegionHeld3
import Derived.Test.YtdjcpjfomgfjlaaJnC
import Derived.Deep.RegionWith
import Derived.Laws.Bits64b
import Derived.IntWalk
/- The document's disk is the plain disk. -/
namespace Go.Proofs.Ytdjcpjfomgfjlaa
open Go.RowKit Go.Maps

def refOf (M : DM) : RD := ⟨(List.range M.size).map M.sure, (List.range M.size).map M.get, (List.range M.size).map fun i => (M.wr i).isSome, M.steps, if M.armed then (M.left : Int) else -1⟩
theorem refOf_len (M : DM) : (refOf M).now.length = M.size := by simp [refOf]
theorem refOf_ok {M : DM} {T : Nat} (h : M.Ok T) : (refOf M).Ok := by
  refine ⟨by rw [refOf_len]; exact h.size, by simp [refOf], by simp [refOf], ⟨by simp [refOf], by have := h.steps; simp [refOf]; omega⟩, ?_⟩
  have := h.left
  show -1 ≤ (if M.armed then (M.left : Int) else -1) ∧ (if M.armed then (M.left : Int) else -1) ≤ 9223372036854775807
  split <;> omega
theorem map_same {α : Type} (n : Nat) (f : Nat → α) (a : α) (h : ∀ i, f i = a) : (List.range n).map f = List.replicate n a := by
  apply List.ext_getElem
  · simp
  · intro i h1 h2; simp [h]
theorem refOf_new (n : Nat) : refOf (DM.new n) = RD.new n := by
  unfold refOf RD.new
  rw [map_same (DM.new n).size (DM.new n).sure zero64 (fun _ => rfl), map_same (DM.new n).size (DM.new n).get zero64 (fun _ => rfl), map_same (DM.new n).size (fun i => ((DM.new n).wr i).isSome) false (fun _ => rfl)]
  rfl
theorem refOf_dead (M : DM) : (refOf M).left = 0 ↔ M.dead = true := by
  show (if M.armed then (M.left : Int) else -1) = 0 ↔ (M.armed && (M.left == 0)) = true
  cases M.armed with
  | true => simp
  | false => simp
theorem refOf_stepS (M : DM) (h : M.dead = false) : stepS (refOf M).steps (refOf M).left = (M.stepped.steps : Int) := by
  have : ¬ (refOf M).left = 0 := by rw [refOf_dead, h]; simp
  unfold stepS
  rw [if_neg this]
  rfl
theorem refOf_stepL (M : DM) (h : M.dead = false) : stepL (refOf M).left = if M.stepped.armed then (M.stepped.left : Int) else -1 := by
  have h0 : ¬ (refOf M).left = 0 := by rw [refOf_dead, h]; simp
  unfold stepL
  rw [if_neg h0]
  show (if 0 < (if M.armed then (M.left : Int) else -1) then (if M.armed then (M.left : Int) else -1) - 1 else (if M.armed then (M.left : Int) else -1)) = if M.armed then (((if M.armed then M.left - 1 else M.left : Nat)) : Int) else -1
  change ¬ (if M.armed then (M.left : Int) else -1) = 0 at h0
  cases ha : M.armed with
  | true => rw [ha] at h0; simp at h0 ⊢; omega
  | false => simp
theorem map_set {α : Type} (n i : Nat) (f g : Nat → α) (a : α) (hi : g i = a) (h : ∀ j, j ≠ i → g j = f j) : ((List.range n).map f).set i a = (List.range n).map g := by
  apply List.ext_getElem
  · simp
  · intro j h1 h2
    rw [List.getElem_set]
    split
    · subst_vars; simp
    · simp; exact (h j (by omega)).symm
theorem refOf_write (M : DM) (i : Int) (l : List UInt8) : (refOf M).writeE i l = M.writeE i l ∧ (refOf M).writeM i l = refOf (M.writeM i l) := by
  have hb : (refOf M).writeBad i l ↔ (¬ (0 ≤ i ∧ i < M.size) ∨ l.length ≠ 64) := by unfold RD.writeBad; rw [refOf_len]
  unfold RD.writeE RD.writeM DM.writeE DM.writeM
  by_cases h : ¬ (0 ≤ i ∧ i < M.size) ∨ l.length ≠ 64
  · rw [if_pos (hb.2 h), if_pos h, if_pos (hb.2 h), if_pos h]; exact ⟨rfl, rfl⟩
  · rw [if_neg (fun x => h (hb.1 x)), if_neg h, if_neg (fun x => h (hb.1 x)), if_neg h]
    cases hd : M.dead with
    | true =>
      have := (refOf_dead M).2 hd
      rw [if_pos this, if_pos this]; exact ⟨rfl, rfl⟩
    | false =>
      have h0 : ¬ (refOf M).left = 0 := by rw [refOf_dead, hd]; simp
      rw [if_neg h0, if_neg h0, if_neg (by simp), if_neg (by simp)]
      refine ⟨rfl, ?_⟩
      rw [refOf_stepS M hd, refOf_stepL M hd]
      unfold refOf
      congr 1
      · exact map_set _ _ _ _ _ (by simp [DM.get, DM.written]) (fun j hj => by simp [DM.get, DM.written, hj, DM.stepped])
      · exact map_set _ _ _ _ _ (by simp [DM.written]) (fun j hj => by simp [DM.written, hj, DM.stepped])
theorem refOf_flush (M : DM) : (refOf M).flushE = M.flushE ∧ (refOf M).flushM = refOf M.flushM := by
  unfold RD.flushE RD.flushM DM.flushE DM.flushM
  cases hd : M.dead with
  | true =>
    have := (refOf_dead M).2 hd
    rw [if_pos this, if_pos this]; exact ⟨rfl, rfl⟩
  | false =>
    have h0 : ¬ (refOf M).left = 0 := by rw [refOf_dead, hd]; simp
    rw [if_neg h0, if_neg h0, if_neg (by simp), if_neg (by simp)]
    refine ⟨rfl, ?_⟩
    rw [refOf_stepS M hd, refOf_stepL M hd, refOf_len]
    unfold refOf
    congr 1
    exact (map_same _ _ false (fun _ => rfl)).symm
theorem refOf_arm (M : DM) (n : Int) : (refOf M).armE n = M.armE n ∧ (refOf M).armM n = refOf (M.armM n) := by
  unfold RD.armE RD.armM DM.armE DM.armM
  by_cases hn : n < 0
  · rw [if_pos hn, if_pos hn, if_pos hn, if_pos hn]; exact ⟨rfl, rfl⟩
  · rw [if_neg hn, if_neg hn, if_neg hn, if_neg hn]
    cases hd : M.dead with
    | true =>
      have := (refOf_dead M).2 hd
      rw [if_pos this, if_pos this]; exact ⟨rfl, rfl⟩
    | false =>
      have h0 : ¬ (refOf M).left = 0 := by rw [refOf_dead, hd]; simp
      rw [if_neg h0, if_neg h0, if_neg (by simp), if_neg (by simp)]
      refine ⟨rfl, ?_⟩
      unfold refOf
      congr 1
      show n = (((n.toNat : Nat)) : Int)
      omega
theorem refOf_upto (M : DM) (k : Nat) (hk : k ≤ M.size) : upto (refOf M).fresh k = (List.range k).filter fun j => (M.wr j).isSome := by
  unfold upto
  apply List.filter_congr
  intro j hj
  have : j < M.size := by have := List.mem_range.1 hj; omega
  simp [refOf, List.getD, this]
theorem refOf_fresh (M : DM) : upto (refOf M).fresh (refOf M).fresh.length = M.fresh := by
  have : (refOf M).fresh.length = M.size := by simp [refOf]
  rw [this, refOf_upto M _ (Nat.le_refl _)]; rfl
theorem refOf_crashed (M : DM) (keep : List Bool) (torn cut : Int) : (refOf M).crashed keep torn cut = refOf (M.crashed keep torn cut) := by
  have hl : (refOf M).lefts keep torn cut (refOf M).now.length = (List.range M.size).map (M.left1 keep torn cut) := by
    unfold RD.lefts
    rw [refOf_len]
    apply List.map_congr_left
    intro i hi
    have hi' := List.mem_range.1 hi
    unfold RD.left1 DM.left1
    have hf : (refOf M).fresh.getD i false = (M.wr i).isSome := by simp [refOf, List.getD, hi']
    have hs : (refOf M).sure.getD i [] = M.sure i := by simp [refOf, List.getD, hi']
    have hn : (refOf M).now.getD i [] = M.get i := by simp [refOf, List.getD, hi']
    rw [hf, hs, hn, refOf_upto M i (by omega)]
    unfold DM.get
    cases hw : M.wr i with
    | none => simp
    | some l =>
      rw [if_pos (show (some l).isSome = true from rfl)]
      show (if keep[M.place i]? = some true then l else if (M.place i : Int) = torn then tearL (M.sure i) l cut else M.sure i) = _
      by_cases h1 : keep[M.place i]? = some true
      · rw [if_pos h1]; exact (if_pos h1).symm
      · rw [if_neg h1]
        by_cases h2 : (M.place i : Int) = torn
        · rw [if_pos h2]; exact ((if_neg h1).trans (if_pos h2)).symm
        · rw [if_neg h2]; exact ((if_neg h1).trans (if_neg h2)).symm
  unfold RD.crashed
  rw [hl, refOf_len]
  unfold refOf
  have e1 : (List.range (M.crashed keep torn cut).size).map (M.crashed keep torn cut).get = (List.range M.size).map (M.left1 keep torn cut) := rfl
  have e2 : (List.range (M.crashed keep torn cut).size).map (fun i => ((M.crashed keep torn cut).wr i).isSome) = List.replicate M.size false := map_same _ _ false (fun _ => rfl)
  rw [e1, e2]
  rfl
theorem refOf_full {M : DM} (h : M.full) : (∀ i (hi : i < (refOf M).sure.length), (refOf M).sure[i].length = 64) ∧ (∀ i (hi : i < (refOf M).now.length), (refOf M).now[i].length = 64) := by
  constructor
  · intro i hi
    have : i < M.size := by simpa [refOf] using hi
    simpa [refOf] using (h i this).1
  · intro i hi
    have : i < M.size := by simpa [refOf] using hi
    simpa [refOf] using (h i this).2
end Go.Proofs.Ytdjcpjfomgfjlaa
/- The law's Tells. -/
namespace Go.Proofs.Ytdjcpjfomgfjlaa
open Go.RowKit Go.Maps

/-- A disk, and the document's of the same. -/
structure Both (w : World) (p bs bw T : Nat) (M : DM) (v : Value) : Prop where
  disk : DiskM w p bs bw M T
  ref : RefV w [p, bs, bw] (refOf M) v
  ok : M.Ok T
theorem Both.below {w w' : World} {p bs bw T : Nat} {M : DM} {v : Value} (h : Both w p bs bw T M v) (hb : Below w.heap.size w w') : Both w' p bs bw T M v := ⟨h.disk.kept hb, h.ref.below hb, h.ok⟩
theorem ints_map (L : List Nat) : (L.map fun (i : Nat) => Value.int .i64 (i : Int)) = ints L := rfl

set_option maxRecDepth 100000 in
set_option maxHeartbeats 4000000 in
theorem tells_any (w : World) (p bs bw T : Nat) (M : DM) (v : Value) (h : Both w p bs bw T M v) :
    Calls Try.prog 23 #[.pointer (some ⟨p, 0, none⟩), v] w fun e w' => e = .returned (.bool true) ∧ Below w.heap.size w w' := by
  have hh := h
  obtain ⟨hD, ⟨A1, A2, A3, c1, c2, c3, rfl, h1, h2, h3⟩, hk⟩ := h
  have hl1 : (refOf M).sure.length = M.size := by simp [refOf]
  have hl2 : (refOf M).now.length = M.size := by simp [refOf]
  have hl3 : (refOf M).fresh.length = M.size := by simp [refOf]
  have hst : (refOf M).steps = (M.steps : Int) := rfl
  rw [hl1, hl2, hl3, hst] at hh ⊢
  have hb0 : Below w.heap.size w (w.alloc (.cells #[.slice A1 M.size c1, .slice A2 M.size c2, .slice A3 M.size c3, .int .i64 (M.steps : Int), .int .i64 (refOf M).left] 33)) := (Below.refl _ _).alloc (Nat.le_refl _) _
  have g0 := heap_alloc_new w (.cells #[.slice A1 M.size c1, .slice A2 M.size c2, .slice A3 M.size c3, .int .i64 (M.steps : Int), .int .i64 (refOf M).left] 33)
  have s0 := alloc1_size w (.cells #[.slice A1 M.size c1, .slice A2 M.size c2, .slice A3 M.size c3, .int .i64 (M.steps : Int), .int .i64 (refOf M).left] 33)
  have hh2 := hh.below hb0
  have HB := Lib.hid (And.intro hb0 s0)
  have HL0 := Lib.hid (And.intro hl1 (And.intro hl2 (And.intro hl3 hst)))
  clear hD h1 h2 h3 hk hh hl1 hl2 hl3 hst
  go_enter Try.func23, Try.ntmps23
  go_upto_region 1 with go_in
  generalize w.alloc (.cells #[.slice A1 M.size c1, .slice A2 M.size c2, .slice A3 M.size c3, .int .i64 (M.steps : Int), .int .i64 (refOf M).left] 33) = W at HB hb0 g0 s0 hh2 ⊢
  obtain ⟨b0, hbe⟩ : ∃ b0, b0 = w.heap.size := ⟨_, rfl⟩
  rw [← hbe] at g0 ⊢
  have hbl : b0 < W.heap.size := by omega
  have HBE := Lib.hid hbe
  clear hbe
  have hKS : ∀ w' : World, Below W.heap.size W w' → (Below W.heap.size W w' ∧ w'.cell? ⟨b0, 0, none⟩ = some (.slice A1 M.size c1) ∧ w'.cell? ⟨b0, 1, none⟩ = some (.slice A2 M.size c2) ∧ w'.cell? ⟨b0, 2, none⟩ = some (.slice A3 M.size c3) ∧ w'.cell? ⟨b0, 3, none⟩ = some (.int .i64 (M.steps : Int)) ∧ w'.cell? ⟨b0, 4, none⟩ = some (.int .i64 (refOf M).left)) := fun w' hb =>
    have hg := (hb.block b0 hbl).trans g0
    ⟨hb, cell_of_row w' b0 0 _ _ _ hg, cell_of_row w' b0 1 _ _ _ hg, cell_of_row w' b0 2 _ _ _ hg, cell_of_row w' b0 3 _ _ _ hg, cell_of_row w' b0 4 _ _ _ hg⟩
  have KS := Lib.hid hKS
  have hT : T ≤ 1000000000 := hh2.ok.T
  have hz : M.size ≤ 4096 := hh2.ok.size
  have hfl : M.fresh.length ≤ 4096 := by
    have : M.fresh.length ≤ M.size := by unfold DM.fresh; exact Nat.le_trans (List.length_filter_le _ _) (by simp)
    omega
  have hus := fun (W' : World) (hb : Below W.heap.size W W') => unsureM (hh2.disk.kept hb) hT
  have hru := fun (W' : World) (hb : Below W.heap.size W W') => runsure_any W' _ (refOf M) _ (hh2.ref.below hb) (by rw [HL0.out.2.2.1]; exact hz)
  rw [refOf_fresh] at hru
  have HUS := Lib.hid hus
  have HRU := Lib.hid hru
  have HT := Lib.hid (And.intro hT (And.intro hz hfl))
  have HH2 := Lib.hid hh2
  have hsz := sizeM (hh2.disk.kept ((Below.refl _ W).drew))
  have hsp := stepsM (hh2.disk.kept ((Below.refl _ W).drew))
  have HSZ := Lib.hid hsz
  have HSP := Lib.hid hsp
  clear hKS hus hru hT hz hfl hh2 hsz hsp g0 hb0
  go_region_held3 (fun w' => Below W.heap.size W w' ∧ w'.cell? ⟨b0, 0, none⟩ = some (.slice A1 M.size c1) ∧ w'.cell? ⟨b0, 1, none⟩ = some (.slice A2 M.size c2) ∧ w'.cell? ⟨b0, 2, none⟩ = some (.slice A3 M.size c3) ∧ w'.cell? ⟨b0, 3, none⟩ = some (.int .i64 (M.steps : Int)) ∧ w'.cell? ⟨b0, 4, none⟩ = some (.int .i64 (refOf M).left))
    (first
      | exact KS.out _ (Below.refl _ _).drew
      | exact KS.out _ hB5
      | exact KS.out _ hB4
      | exact KS.out _ hB3
      | assumption)
    (first
      | (go_at_call 38; (with_reducible refine HSZ.out.mono ?_); rintro e w1 ⟨rfl, rfl⟩)
      | (go_at_call 35; (with_reducible refine HSP.out.mono ?_); rintro e w1 ⟨rfl, rfl⟩)
      | (go_at_call 56; (with_reducible refine (HUS.out W.drew ((Below.refl _ _).drew)).mono ?_); rintro e w3 ⟨v3, rfl, hrow3, hb3⟩; obtain ⟨Au, cu, rfl, _, _, hu3⟩ := own_shape hrow3; have hB3 : Below W.heap.size W w3 := (Below.refl _ _).drew.trans hb3; clear hrow3)
      | (go_at_call 59; (with_reducible refine (HRU.out w3 hB3).mono ?_); rintro e w4 ⟨v4, rfl, hrow4, hb4⟩; obtain ⟨Ar, cr, rfl, _, _, hr4⟩ := own_shape hrow4; have hB4 : Below W.heap.size W w4 := hB3.trans (lower' hb4 hB3.size); have hu4 := hu3.below hb4 (Nat.le_refl _); clear hrow4)
      | (go_at_call 58; (refine (ints_same w4 Au Ar M.fresh cu cr _ _ hu4 hr4 hb4.size (Nat.le_refl _) HT.out.2.2).mono ?_); rintro e w5 ⟨rfl, hb5⟩; have hB5 : Below W.heap.size W w5 := hB4.trans (lower' hb5 hB4.size)))
  have hS5 := KS.out _ hB5
  have HB5 := Lib.hid hB5
  clear hB3 hB4 hB5 hu3 hr4 hu4 hb3 hb4 hb5
  go_wp2_with go_in
  go_loopw [5, 6, 7, 32] (fun _ _ _ i wr => ∃ k : Nat, k ≤ M.size ∧ i = .int .i64 (k : Int) ∧ Below w5.heap.size w5 wr)
    (fun _ _ _ i _ => M.size - (intOf i).toNat)
  case atStart => exact ⟨0, by omega, rfl, Below.refl _ _⟩
  case round =>
    obtain ⟨k, hk, rfl, hb⟩ := hrel
    have hB6 : Below W.heap.size W wr := HB5.out.trans (lower' hb HB5.out.size)
    have hkb : (k : Int) ≤ 4096 := by have := HT.out.2.1; omega
    by_cases hkl : k < M.size
    · have hkI : (k : Int) < (M.size : Int) := by omega
      have hRC := readC (i := k) (HH2.out.disk.kept hB6) HT.out.2.1 hkl
      have HRC := Lib.hid hRC
      obtain ⟨a1, a2, a3, d1, d2, d3, he, _, hs2, _⟩ := HH2.out.ref
      have ea : A2 = a2 := by
        have h3 := congrArg (fun v : Value => match v with | .agg cs => cs.getD 1 undef | _ => undef) he
        simp only [Array.getD] at h3
        simp at h3
        exact h3.1
      subst ea
      obtain ⟨p2, o2, rfl, hp2, hq2⟩ := hs2.1.get (k := k) (by rw [strs_len, refOf_len]; exact hkl)
      have hno : ∀ w' : World, Below W.heap.size W w' → w'.cell? ⟨p2, o2 + k, none⟩ = some (.string ⟨(M.get k).toArray⟩) := by
        intro w' hw'
        have e1 : (strs (refOf M).now)[k]'(by rw [strs_len, refOf_len]; exact hkl) = .string ⟨(M.get k).toArray⟩ := by simp [strs, refOf]
        rw [← e1, ← hq2]
        exact hw'.cell (p := ⟨p2, o2 + k, none⟩) hp2
      have HNO := Lib.hid hno
      have HX := Lib.hid (And.intro hb hkl)
      clear hRC he hs2 hp2 hq2 hno hb hkl
      go_upto_region 7 with (first
        | (go_at_call 60; (with_reducible refine HRC.out.mono ?_); rintro e w6 ⟨gb, rfl, hgb1, hgb2, hrb, hlb, hb6⟩)
        | go_in)
      have hB7 : Below W.heap.size W w6 := hB6.trans (lower' hb6 hB6.size)
      have q1 := fun n => strAt (n := 64) (c := 64) (hrb.drewN n) hlb.symm
      have c1 := HNO.out w6 hB7
      have c2 := (KS.out _ hB7).2.2.1
      have hb56 : Below w5.heap.size w5 w6 := HX.out.1.trans (lower' hb6 HX.out.1.size)
      have HY := Lib.hid hb56
      clear hrb hb6 hb56
      go_quiet (fail)
      go_wp2_with go_in
      exact ⟨⟨k + 1, HX.out.2, by simp, Below.drewN' HY.out _⟩, by simp [intOf]; have := HX.out.2; omega⟩
    · obtain rfl : k = M.size := by omega
      have HX := Lib.hid hB6
      clear hB6 hb
      go_wp2_with go_in
      go_ret
      exact ⟨rfl, HB.out.1.trans (lower' HX.out (by rw [HB.out.2]; omega))⟩
end Go.Proofs.Ytdjcpjfomgfjlaa
/- The document's disk in a block beside a disk: other blocks, off a block, facts on a write. -/
namespace Go.Proofs.Ytdjcpjfomgfjlaa
open Go.RowKit Go.Maps

theorem Sl.ext {w : World} {X Y : List Nat} {A : Option Addr} {xs : List Value} (h : Sl w X A xs) (hn : xs ≠ []) (hY : ∀ y ∈ Y, w.heap.size ≤ y) : Sl w (X ++ Y) A xs := by
  obtain ⟨b, o, e, hlt, hc⟩ := h.1 hn
  refine ⟨h.1, fun a ha hx => ?_⟩
  rcases List.mem_append.1 hx with hx | hx
  · exact h.2 a ha hx
  · rw [e] at ha; cases ha
    exact absurd (hY _ hx) (by show ¬ (w.heap.size ≤ b); omega)
theorem RefV.ext {w : World} {X Y : List Nat} {M : DM} {v : Value} (h : RefV w X (refOf M) v) (hp : 0 < M.size) (hY : ∀ y ∈ Y, w.heap.size ≤ y) : RefV w (X ++ Y) (refOf M) v := by
  obtain ⟨A1, A2, A3, c1, c2, c3, rfl, h1, h2, h3⟩ := h
  have ne : ∀ {α : Type} (f : Nat → α), (List.range M.size).map f ≠ [] := fun f e => by have := congrArg List.length e; simp at this; omega
  exact ⟨A1, A2, A3, c1, c2, c3, rfl, h1.ext (by simp only [strs, refOf, List.map_map]; exact ne _) hY, h2.ext (by simp only [strs, refOf, List.map_map]; exact ne _) hY, h3.ext (by simp only [bools, refOf, List.map_map]; exact ne _) hY⟩
theorem RefV.sub {w : World} {X Y : List Nat} {R : RD} {v : Value} (h : RefV w X R v) (hY : ∀ y ∈ Y, y ∈ X) : RefV w Y R v := by
  obtain ⟨A1, A2, A3, c1, c2, c3, rfl, h1, h2, h3⟩ := h
  exact ⟨A1, A2, A3, c1, c2, c3, rfl, h1.sub hY, h2.sub hY, h3.sub hY⟩
theorem write_facts (M : DM) (i : Int) (l : List UInt8) : (M.writeM i l).size = M.size ∧ (M.writeM i l).steps ≤ M.steps + 1 ∧ (M.writeM i l).left ≤ M.left := by
  unfold DM.writeM
  split
  · exact ⟨rfl, by omega, Nat.le_refl _⟩
  · split
    · exact ⟨rfl, by omega, Nat.le_refl _⟩
    · exact ⟨rfl, Nat.le_refl _, by show (if M.armed then M.left - 1 else M.left) ≤ M.left; split <;> omega⟩
theorem Sl.off {w : World} {X : List Nat} {A : Option Addr} {xs : List Value} {b : Nat} {cs : Array Value} {t : TypeId} {fr : Nat × Nat} (h : Sl w X A xs) (hn : xs ≠ []) (hb : w.heap[b]? = some (.cells cs t fr)) (hx : ∀ x ∈ xs, x ∉ cs) : Sl w (b :: X) A xs := by
  refine ⟨h.1, fun a ha hm => ?_⟩
  rcases List.mem_cons.1 hm with e | e
  · obtain ⟨b', o, e', _, hc⟩ := h.1 hn
    rw [e'] at ha; cases ha
    change b' = b at e
    subst e
    obtain ⟨x, r, hxr⟩ := List.exists_cons_of_ne_nil hn
    have := hc 0 x (by rw [hxr]; rfl)
    rw [cell_of_row w b' _ _ _ _ hb] at this
    exact hx x (by simp [hxr]) (Array.mem_of_getElem? this)
  · exact h.2 a ha e
section
variable {w w' : World} {b p bs bw B T n1 n2 n3 c1 c2 c3 : Nat} {M : DM} {v : Value} {A1 A2 A3 : Option Addr} {s l : Int} {t : TypeId} {fr : Nat × Nat} {X : List Nat}
theorem RefV.off (h : RefV w X (refOf M) v) (hp : 0 < M.size) (hb : w.heap[b]? = some (.cells #[.slice A1 n1 c1, .slice A2 n2 c2, .slice A3 n3 c3, .int .i64 s, .int .i64 l] t fr)) : RefV w (b :: X) (refOf M) v := by
  obtain ⟨a1, a2, a3, d1, d2, d3, rfl, h1, h2, h3⟩ := h
  have ne : ∀ {α : Type} (f : Nat → α), (List.range M.size).map f ≠ [] := fun f e => by have := congrArg List.length e; simp at this; omega
  have hs : ∀ (L : List (List UInt8)), ∀ x ∈ strs L, x ∉ #[Value.slice A1 n1 c1, .slice A2 n2 c2, .slice A3 n3 c3, .int .i64 s, .int .i64 l] := by
    intro L x hx
    obtain ⟨y, _, rfl⟩ := List.mem_map.1 hx
    simp
  have hbs : ∀ (L : List Bool), ∀ x ∈ bools L, x ∉ #[Value.slice A1 n1 c1, .slice A2 n2 c2, .slice A3 n3 c3, .int .i64 s, .int .i64 l] := by
    intro L x hx
    obtain ⟨y, _, rfl⟩ := List.mem_map.1 hx
    simp
  exact ⟨a1, a2, a3, d1, d2, d3, rfl, h1.off (by simp only [strs, refOf, List.map_map]; exact ne _) hb (hs _), h2.off (by simp only [strs, refOf, List.map_map]; exact ne _) hb (hs _), h3.off (by simp only [bools, refOf, List.map_map]; exact ne _) hb (hbs _)⟩
theorem DiskM.off (h : DiskM w p bs bw M T) (hb : w.heap[b]? = some (.cells #[.slice A1 n1 c1, .slice A2 n2 c2, .slice A3 n3 c3, .int .i64 s, .int .i64 l] t fr)) : p ≠ b ∧ bs ≠ b ∧ bw ≠ b := by
  obtain ⟨D, ⟨h1, _, ns, nw, ⟨es, cl, h2, _⟩, ⟨es2, cl2, h3, _⟩, _⟩, _⟩ := h
  refine ⟨?_, ?_, ?_⟩
  · rintro rfl
    rw [h1] at hb
    unfold DK.cells at hb
    simp at hb
  · rintro rfl
    rw [h2] at hb
    cases hb
  · rintro rfl
    rw [h3] at hb
    cases hb
end
/-- A disk, and beside it in the block bx the document's disk, that stands a write behind or not: M and R. -/
structure BoxD (W0 wr : World) (bx p bs bw N T : Nat) (M R : DM) : Prop where
  box : ∃ A1 A2 A3 n1 n2 n3 c1 c2 c3 s l, wr.heap[bx]? = some (.cells #[.slice A1 n1 c1, .slice A2 n2 c2, .slice A3 n3 c3, .int .i64 s, .int .i64 l] 33 (0, 0)) ∧ RefV wr [bx, p, bs, bw] (refOf R) (.agg #[.slice A1 n1 c1, .slice A2 n2 c2, .slice A3 n3 c3, .int .i64 s, .int .i64 l])
  disk : DiskM wr p bs bw M T
  okM : M.Ok T
  okR : R.Ok T
  sizeM : M.size = N
  sizeR : R.size = N
  stepsM : M.steps ≤ T
  stepsR : R.steps ≤ T
  pos : 0 < N
  off : p ≠ bx ∧ bs ≠ bx ∧ bw ≠ bx
  low : W0.heap.size ≤ p ∧ W0.heap.size ≤ bs ∧ W0.heap.size ≤ bw ∧ W0.heap.size ≤ bx
  below : Below W0.heap.size W0 wr
section
variable {W0 wr w' : World} {bx p bs bw N T : Nat} {M R : DM}
theorem BoxD.lt (h : BoxD W0 wr bx p bs bw N T M R) : bx < wr.heap.size := by
  obtain ⟨_, _, _, _, _, _, _, _, _, _, _, hb, _⟩ := h.box
  exact heap_lt hb
theorem BoxD.kept (h : BoxD W0 wr bx p bs bw N T M R) (hb : Below wr.heap.size wr w') : BoxD W0 w' bx p bs bw N T M R := by
  obtain ⟨A1, A2, A3, n1, n2, n3, c1, c2, c3, s, l, hg, hv⟩ := h.box
  exact ⟨⟨A1, A2, A3, n1, n2, n3, c1, c2, c3, s, l, (hb.block bx (heap_lt hg)).trans hg, hv.below hb⟩, h.disk.kept hb, h.okM, h.okR, h.sizeM, h.sizeR, h.stepsM, h.stepsR, h.pos, h.off, h.low, h.below.trans (lower' hb h.below.size)⟩
theorem BoxD.drew (h : BoxD W0 wr bx p bs bw N T M R) : BoxD W0 wr.drew bx p bs bw N T M R := h.kept (Below.refl _ _).drew
/-- The disk is written. -/
theorem BoxD.wrote (h : BoxD W0 wr bx p bs bw N T M M) {i : Int} {b : List UInt8} (hD : DiskM w' p bs bw (M.writeM i b) (T + 1)) (hf : Fr wr w' [p, bw]) (hT : T ≤ 1000) : BoxD W0 w' bx p bs bw N (T + 1) (M.writeM i b) M := by
  obtain ⟨A1, A2, A3, n1, n2, n3, c1, c2, c3, s, l, hg, hv⟩ := h.box
  obtain ⟨f1, f2, f3⟩ := write_facts M i b
  have ho := h.off
  have h1 := h.okM
  have h2 := h.stepsM
  exact ⟨⟨A1, A2, A3, n1, n2, n3, c1, c2, c3, s, l, (hf.block bx (heap_lt hg) (by simp; omega)).trans hg, hv.fr hf (by simp)⟩, hD, ⟨by rw [f1]; exact h1.size, by omega, Nat.le_trans f3 h1.left, by omega⟩, ⟨h1.size, h1.steps, h1.left, by omega⟩, f1.trans h.sizeM, h.sizeR, by omega, by omega, h.pos, h.off, h.low,
    h.below.trans (hf.below h.below.size (by have := h.low; simp; omega))⟩
/-- The document's disk is written: what its call answers. -/
theorem BoxD.rwrite (h : BoxD W0 wr bx p bs bw N T M R) {v : Value} (hv : RefV wr [bx, p, bs, bw] (refOf R) v) (i : Int) (b : List UInt8) :
    Calls Try.prog 19 #[v, .int .i64 i, .string ⟨b.toArray⟩] wr fun e w' => ∃ B1 B2 B3 m1 m2 m3 d1 d2 d3 s l, e = .returned (.tuple #[.agg #[.slice B1 m1 d1, .slice B2 m2 d2, .slice B3 m3 d3, .int .i64 s, .int .i64 l], .int .i64 (R.writeE i b)]) ∧ RefV w' [bx, p, bs, bw] (refOf (R.writeM i b)) (.agg #[.slice B1 m1 d1, .slice B2 m2 d2, .slice B3 m3 d3, .int .i64 s, .int .i64 l]) ∧ Below wr.heap.size wr w' := by
  have hl := h.disk.lt
  have hx := h.lt
  refine (rwrite_any wr [bx, p, bs, bw] (refOf R) v hv (refOf_ok h.okR) (by simp; omega) i b).mono ?_
  rintro e w' ⟨v', rfl, hR, hb⟩
  rw [(refOf_write R i b).1]
  rw [(refOf_write R i b).2] at hR
  have hR' := hR
  obtain ⟨A1, A2, A3, c1, c2, c3, rfl, _, _, _⟩ := hR'
  exact ⟨_, _, _, _, _, _, _, _, _, _, _, rfl, hR, hb⟩
/-- The answer is stored. -/
theorem BoxD.put (h : BoxD W0 wr bx p bs bw N T M R) (hb : Below wr.heap.size wr w') {B1 B2 B3 : Option Addr} {m1 m2 m3 d1 d2 d3 : Nat} {s l : Int} (hR : RefV w' [bx, p, bs, bw] (refOf M) (.agg #[.slice B1 m1 d1, .slice B2 m2 d2, .slice B3 m3 d3, .int .i64 s, .int .i64 l])) :
    BoxD W0 (((((w'.setCell ⟨bx, 0, none⟩ (.slice B1 m1 d1)).setCell ⟨bx, 1, none⟩ (.slice B2 m2 d2)).setCell ⟨bx, 2, none⟩ (.slice B3 m3 d3)).setCell ⟨bx, 3, none⟩ (.int .i64 s)).setCell ⟨bx, 4, none⟩ (.int .i64 l)) bx p bs bw N T M M := by
  have h7 := h.kept hb
  obtain ⟨A1, A2, A3, n1, n2, n3, c1, c2, c3, s', l', hg, hv⟩ := h7.box
  have hf : Fr w' (((((w'.setCell ⟨bx, 0, none⟩ (.slice B1 m1 d1)).setCell ⟨bx, 1, none⟩ (.slice B2 m2 d2)).setCell ⟨bx, 2, none⟩ (.slice B3 m3 d3)).setCell ⟨bx, 3, none⟩ (.int .i64 s)).setCell ⟨bx, 4, none⟩ (.int .i64 l)) [bx] := (((((Fr.refl _ _).setCell (by simp) _).setCell (by simp) _).setCell (by simp) _).setCell (by simp) _).setCell (by simp) _
  have ho := h.off
  exact ⟨⟨_, _, _, _, _, _, _, _, _, _, _, set5 hg _ _ _ _ _, hR.fr hf (by simp)⟩, h7.disk.fr hf (by simp; omega) (by simp; omega) (by simp; omega), h.okM, h.okM, h.sizeM, h.sizeM, h.stepsM, h.stepsM, h.pos, h.off, h.low, h7.below.trans (hf.below h7.below.size (by have := h.low; simp; omega))⟩
theorem BoxD.both (h : BoxD W0 wr bx p bs bw N T M M) {v : Value} (hv : RefV wr [bx, p, bs, bw] (refOf M) v) : Both wr p bs bw T M v := ⟨h.disk, hv.sub (fun _ hy => List.mem_cons_of_mem _ hy), h.okM⟩
end
end Go.Proofs.Ytdjcpjfomgfjlaa
/- Records on sectors, plainly: heads, what is read. -/
namespace Go.Proofs.Ytdjcpjfomgfjlaa

/-- How many sectors so many bytes need. -/
def secs (n : Nat) : Nat := (n + 63) / 64
def beV (l : List UInt8) : Nat := l.foldl (fun a b => a * 256 + b.toNat) 0
theorem beV_snoc (l : List UInt8) (b : UInt8) : beV (l ++ [b]) = beV l * 256 + b.toNat := by simp [beV]
theorem beV_lt (l : List UInt8) : beV l < 256 ^ l.length := by
  have h : ∀ (l : List UInt8) (a : Nat), l.foldl (fun a b => a * 256 + b.toNat) a < (a + 1) * 256 ^ l.length := by
    intro l
    induction l with
    | nil => intro a; simp
    | cons x r ih =>
      intro a
      have := ih (a * 256 + x.toNat)
      have hx := x.toNat_lt
      rw [List.length_cons, Nat.pow_succ]
      show r.foldl _ _ < _
      refine Nat.lt_of_lt_of_le this ?_
      rw [Nat.mul_comm (256 ^ r.length) 256, ← Nat.mul_assoc]
      exact Nat.mul_le_mul_right _ (by omega)
  simpa [beV] using h l 0
/-- Eight bytes, the highest first. -/
def be8 (s : Nat) : List UInt8 := [UInt8.ofNat (s / 72057594037927936), UInt8.ofNat (s / 281474976710656), UInt8.ofNat (s / 1099511627776), UInt8.ofNat (s / 4294967296), UInt8.ofNat (s / 16777216), UInt8.ofNat (s / 65536), UInt8.ofNat (s / 256), UInt8.ofNat s]
def be2 (n : Nat) : List UInt8 := [UInt8.ofNat (n / 256), UInt8.ofNat n]
theorem beV_be8 (s : Nat) (h : s < 18446744073709551616) : beV (be8 s) = s := by
  simp only [beV, be8, List.foldl, UInt8.toNat_ofNat']
  omega
theorem beV_be2 (n : Nat) (h : n < 65536) : beV (be2 n) = n := by
  simp only [beV, be2, List.foldl, UInt8.toNat_ofNat']
  omega
theorem be8_len (s : Nat) : (be8 s).length = 8 := rfl
theorem be2_len (s : Nat) : (be2 s).length = 2 := rfl
/-- A head's bytes. -/
def headL (s n : Nat) : List UInt8 := 82 :: (be8 s ++ (be2 n ++ (List.replicate 52 0 ++ [165])))
theorem headL_len (s n : Nat) : (headL s n).length = 64 := rfl
theorem headL_first (s n : Nat) : (headL s n)[0]? = some 82 := rfl
theorem headL_last (s n : Nat) : (headL s n)[63]? = some 165 := rfl
def seqV (b : List UInt8) : Nat := beV ((b.drop 1).take 8)
def lenV (b : List UInt8) : Nat := beV ((b.drop 9).take 2)
theorem seqV_head (s n : Nat) (h : s < 18446744073709551616) : seqV (headL s n) = s := by
  have : ((headL s n).drop 1).take 8 = be8 s := rfl
  rw [seqV, this, beV_be8 s h]
theorem lenV_head (s n : Nat) (h : n < 65536) : lenV (headL s n) = n := by
  have : ((headL s n).drop 9).take 2 = be2 n := rfl
  rw [lenV, this, beV_be2 n h]
/-- What a head's bytes say. -/
def hdr (b : List UInt8) : Option (Nat × Nat) :=
  if 1 ≤ seqV b ∧ seqV b ≤ 4611686018427387904 ∧ lenV b ≤ 4000 ∧ b = headL (seqV b) (lenV b) then some (seqV b, lenV b) else none
theorem hdr_head {s n : Nat} (h1 : 1 ≤ s) (h2 : s ≤ 4611686018427387904) (h3 : n ≤ 4000) : hdr (headL s n) = some (s, n) := by
  have e1 := seqV_head s n (by omega)
  have e2 := lenV_head s n (by omega)
  unfold hdr
  rw [e1, e2, if_pos ⟨h1, h2, h3, rfl⟩]
theorem hdr_some {b : List UInt8} {s n : Nat} (h : hdr b = some (s, n)) : 1 ≤ s ∧ s ≤ 4611686018427387904 ∧ n ≤ 4000 ∧ b = headL s n := by
  unfold hdr at h
  split at h
  · rename_i hx
    injection h with h
    injection h with h1 h2
    subst h1 h2
    exact hx
  · cases h
theorem hdr_last {b : List UInt8} (h : b[63]? ≠ some 165) : hdr b = none := by
  cases hb : hdr b with
  | none => rfl
  | some x => exact absurd ((hdr_some hb).2.2.2 ▸ headL_last _ _) h
theorem hdr_first {b : List UInt8} (h : b[0]? ≠ some 82) : hdr b = none := by
  cases hb : hdr b with
  | none => rfl
  | some x => exact absurd ((hdr_some hb).2.2.2 ▸ headL_first _ _) h
theorem hdr_zero : hdr zero64 = none := hdr_first (by simp [zero64])

/-- The bytes of k sectors from one on. -/
def cat (g : Nat → List UInt8) (at_ k : Nat) : List UInt8 := (List.range k).flatMap fun i => g (at_ + i)
theorem cat_zero (g : Nat → List UInt8) (a : Nat) : cat g a 0 = [] := rfl
theorem cat_succ (g : Nat → List UInt8) (a k : Nat) : cat g a (k + 1) = cat g a k ++ g (a + k) := by simp [cat, List.range_succ]
theorem cat_congr {g g' : Nat → List UInt8} {a k : Nat} (h : ∀ i, i < k → g (a + i) = g' (a + i)) : cat g a k = cat g' a k := by
  induction k with
  | zero => rfl
  | succ k ih => rw [cat_succ, cat_succ, ih (fun i hi => h i (by omega)), h k (by omega)]
theorem cat_len {g : Nat → List UInt8} {a k : Nat} (h : ∀ i, i < k → (g (a + i)).length = 64) : (cat g a k).length = 64 * k := by
  induction k with
  | zero => rfl
  | succ k ih => rw [cat_succ, List.length_append, ih (fun i hi => h i (by omega)), h k (by omega)]; omega

abbrev Rec := Nat × List UInt8
def scanF (g : Nat → List UInt8) (behind : Nat) : Nat → Nat → Option Nat → List Rec
  | 0, _, _ => []
  | f + 1, a, nx =>
    if a < behind then
      match hdr (g a) with
      | none => []
      | some (s, n) => if (nx = none ∨ nx = some s) ∧ a + secs n < behind then (s, (cat g (a + 1) (secs n)).take n) :: scanF g behind f (a + 1 + secs n) (some (s + 1)) else []
    else []
/-- The records from a sector on. -/
def scan (g : Nat → List UInt8) (behind a : Nat) (nx : Option Nat) : List Rec := scanF g behind (behind - a) a nx
theorem scanF_fuel (g : Nat → List UInt8) (behind : Nat) : ∀ (f f' a : Nat) (nx : Option Nat), behind - a ≤ f → behind - a ≤ f' → scanF g behind f a nx = scanF g behind f' a nx := by
  intro f
  induction f with
  | zero =>
    intro f' a nx h h'
    cases f' with
    | zero => rfl
    | succ f' => simp only [scanF]; rw [if_neg (by omega)]
  | succ f ih =>
    intro f' a nx h h'
    cases f' with
    | zero => simp only [scanF]; rw [if_neg (by omega)]
    | succ f' =>
      simp only [scanF]
      split
      · split
        · rfl
        · split
          · rw [ih f' _ _ (by omega) (by omega)]
          · rfl
      · rfl
theorem scan_none {g : Nat → List UInt8} {behind a : Nat} {nx : Option Nat} (h : a < behind → hdr (g a) = none) : scan g behind a nx = [] := by
  unfold scan
  cases hf : behind - a with
  | zero => rfl
  | succ f =>
    simp only [scanF]
    rw [if_pos (by omega), h (by omega)]
theorem scan_bad {g : Nat → List UInt8} {behind a s n : Nat} {nx : Option Nat} (h : hdr (g a) = some (s, n)) (hb : ¬ ((nx = none ∨ nx = some s) ∧ a + secs n < behind)) : scan g behind a nx = [] := by
  unfold scan
  cases hf : behind - a with
  | zero => rfl
  | succ f =>
    simp only [scanF]
    rw [if_pos (by omega), h]
    simp only
    rw [if_neg hb]
theorem scan_some {g : Nat → List UInt8} {behind a s n : Nat} {nx : Option Nat} (h : hdr (g a) = some (s, n)) (hn : nx = none ∨ nx = some s) (hb : a + secs n < behind) :
    scan g behind a nx = (s, (cat g (a + 1) (secs n)).take n) :: scan g behind (a + 1 + secs n) (some (s + 1)) := by
  unfold scan
  obtain ⟨f, hf⟩ : ∃ f, behind - a = f + 1 := ⟨behind - a - 1, by omega⟩
  rw [hf]
  simp only [scanF]
  rw [if_pos (by omega), h]
  simp only
  rw [if_pos ⟨hn, hb⟩, scanF_fuel g behind f (behind - (a + 1 + secs n)) _ _ (by omega) (Nat.le_refl _)]

def endR (a : Nat) : List Rec → Nat
  | [] => a
  | (_, d) :: r => endR (a + 1 + secs d.length) r
def nextR (nx : Option Nat) : List Rec → Option Nat
  | [] => nx
  | (s, _) :: r => nextR (some (s + 1)) r
/-- These records lie on sectors. -/
def Laid (g : Nat → List UInt8) (behind : Nat) : Nat → Option Nat → List Rec → Prop
  | _, _, [] => True
  | a, nx, (s, d) :: r => hdr (g a) = some (s, d.length) ∧ (nx = none ∨ nx = some s) ∧ a + secs d.length < behind ∧ (cat g (a + 1) (secs d.length)).take d.length = d ∧ Laid g behind (a + 1 + secs d.length) (some (s + 1)) r
theorem endR_append (a : Nat) (r r' : List Rec) : endR a (r ++ r') = endR (endR a r) r' := by
  induction r generalizing a with
  | nil => rfl
  | cons x r ih => obtain ⟨s, d⟩ := x; exact ih _
theorem nextR_append (nx : Option Nat) (r r' : List Rec) : nextR nx (r ++ r') = nextR (nextR nx r) r' := by
  induction r generalizing nx with
  | nil => rfl
  | cons x r ih => obtain ⟨s, d⟩ := x; exact ih _
theorem endR_le (a : Nat) (r : List Rec) : a + r.length ≤ endR a r := by
  induction r generalizing a with
  | nil => exact Nat.le_refl _
  | cons x r ih => obtain ⟨s, d⟩ := x; have := ih (a + 1 + secs d.length); simp only [endR, List.length_cons]; omega
variable {g g' : Nat → List UInt8} {behind a : Nat} {nx : Option Nat} {r r' : List Rec}
theorem Laid.append : Laid g behind a nx (r ++ r') ↔ Laid g behind a nx r ∧ Laid g behind (endR a r) (nextR nx r) r' := by
  induction r generalizing a nx with
  | nil => simp [Laid, endR, nextR]
  | cons x r ih => obtain ⟨s, d⟩ := x; simp only [List.cons_append, Laid, endR, nextR, ih, and_assoc]
theorem Laid.end_le (h : Laid g behind a nx r) (ha : a ≤ behind) : endR a r ≤ behind := by
  induction r generalizing a nx with
  | nil => exact ha
  | cons x r ih => obtain ⟨s, d⟩ := x; exact ih h.2.2.2.2 (by have := h.2.2.1; omega)
theorem Laid.congr (h : Laid g behind a nx r) (hg : ∀ i, a ≤ i → i < endR a r → g' i = g i) : Laid g' behind a nx r := by
  induction r generalizing a nx with
  | nil => trivial
  | cons x r ih =>
    obtain ⟨s, d⟩ := x
    obtain ⟨h1, h2, h3, h4, h5⟩ := h
    have hle := endR_le (a + 1 + secs d.length) r
    change ∀ i, a ≤ i → i < endR (a + 1 + secs d.length) r → g' i = g i at hg
    refine ⟨by rw [hg a (by omega) (by omega)]; exact h1, h2, h3, ?_, ih h5 (fun i h6 h7 => hg i (by omega) h7)⟩
    rw [cat_congr (fun i hi => hg (a + 1 + i) (by omega) (by omega))]
    exact h4
theorem Laid.scan (h : Laid g behind a nx r) : scan g behind a nx = r ++ scan g behind (endR a r) (nextR nx r) := by
  induction r generalizing a nx with
  | nil => rfl
  | cons x r ih =>
    obtain ⟨s, d⟩ := x
    obtain ⟨h1, h2, h3, h4, h5⟩ := h
    rw [scan_some h1 h2 h3, h4, ih h5]
    rfl
/-- What is read is laid. -/
theorem laid_scan (hg : ∀ i, a ≤ i → i < behind → (g i).length = 64) : Laid g behind a nx (scan g behind a nx) := by
  obtain ⟨f, hf⟩ : ∃ f, behind - a ≤ f := ⟨_, Nat.le_refl _⟩
  induction f generalizing a nx with
  | zero => rw [scan_none (fun h => by omega)]; trivial
  | succ f ih =>
    by_cases ha : a < behind
    · cases hh : hdr (g a) with
      | none => rw [scan_none (fun _ => hh)]; trivial
      | some x =>
        obtain ⟨s, n⟩ := x
        by_cases hb : (nx = none ∨ nx = some s) ∧ a + secs n < behind
        · have hl : ((cat g (a + 1) (secs n)).take n).length = n := by
            rw [List.length_take, cat_len (fun i hi => hg _ (by omega) (by omega))]
            unfold secs
            omega
          rw [scan_some hh hb.1 hb.2]
          refine ⟨by rw [hl]; exact hh, hb.1, by rw [hl]; exact hb.2, by rw [hl], ?_⟩
          rw [hl]
          exact ih (fun i h1 h2 => hg i (by omega) h2) (by omega)
        · rw [scan_bad hh hb]; trivial
    · rw [scan_none (fun h => absurd h ha)]; trivial
theorem scan_end (hg : ∀ i, a ≤ i → i < behind → (g i).length = 64) : scan g behind (endR a (scan g behind a nx)) (nextR nx (scan g behind a nx)) = [] := by
  have h := (laid_scan (nx := nx) hg).scan
  have := congrArg List.length h
  rw [List.length_append] at this
  exact List.eq_nil_of_length_eq_zero (by omega)
end Go.Proofs.Ytdjcpjfomgfjlaa
/- Steps of a disk, plainly; what a sector may have behind a crash; data as sectors. -/
namespace Go.Proofs.Ytdjcpjfomgfjlaa

/-- A step of the disk: a sector's bytes, or a flush. -/
abbrev DOp := Option (Nat × List UInt8)
def doneOp (M : DM) : DOp → DM
  | some (i, l) => M.written i l
  | none => M.flushed
def doneOps : List DOp → DM → DM
  | [], M => M
  | o :: r, M => doneOps r (doneOp M o)
/-- Steps one behind the other; the first that is refused ends it. -/
def runOps : List DOp → DM → Int × DM
  | [], M => (0, M)
  | o :: r, M => if M.dead then (30, M) else runOps r (doneOp M o)
theorem runOps_append (o o' : List DOp) (M : DM) : runOps (o ++ o') M = if (runOps o M).1 = 0 then runOps o' (runOps o M).2 else runOps o M := by
  induction o generalizing M with
  | nil => simp [runOps]
  | cons x r ih =>
    simp only [List.cons_append, runOps]
    split
    · simp
    · exact ih _
theorem doneOps_append (o o' : List DOp) (M : DM) : doneOps (o ++ o') M = doneOps o' (doneOps o M) := by
  induction o generalizing M with
  | nil => rfl
  | cons x r ih => exact ih _
theorem doneOp_size (M : DM) (o : DOp) : (doneOp M o).size = M.size ∧ (doneOp M o).steps = M.steps + 1 ∧ (doneOp M o).armed = M.armed ∧ (doneOp M o).left = if M.armed then M.left - 1 else M.left := by
  cases o with
  | none => exact ⟨rfl, rfl, rfl, rfl⟩
  | some x => obtain ⟨i, l⟩ := x; exact ⟨rfl, rfl, rfl, rfl⟩
theorem doneOps_size (o : List DOp) (M : DM) : (doneOps o M).size = M.size := by
  induction o generalizing M with
  | nil => rfl
  | cons x r ih => exact (ih _).trans (doneOp_size M x).1
theorem runOps_facts (o : List DOp) (M : DM) : (runOps o M).2.size = M.size ∧ (runOps o M).2.steps ≤ M.steps + o.length ∧ (runOps o M).2.left ≤ M.left ∧ ((runOps o M).1 = 0 ∨ (runOps o M).1 = 30) := by
  induction o generalizing M with
  | nil => exact ⟨rfl, Nat.le_refl _, Nat.le_refl _, .inl rfl⟩
  | cons x r ih =>
    simp only [runOps]
    split
    · exact ⟨rfl, Nat.le_add_right _ _, Nat.le_refl _, .inr rfl⟩
    · obtain ⟨h1, h2, h3, h4⟩ := ih (doneOp M x)
      obtain ⟨g1, g2, g3, g4⟩ := doneOp_size M x
      refine ⟨h1.trans g1, by rw [g2] at h2; simp only [List.length_cons]; omega, ?_, h4⟩
      rw [g4] at h3
      split at h3 <;> omega
/-- What is done of some steps: all, or the first ones. -/
theorem runOps_cut (o : List DOp) (M : DM) : ∃ k, k ≤ o.length ∧ (runOps o M).2 = doneOps (o.take k) M ∧ ((runOps o M).1 = 0 ∧ k = o.length ∨ (runOps o M).1 = 30 ∧ (runOps o M).2.dead = true) := by
  induction o generalizing M with
  | nil => exact ⟨0, Nat.le_refl _, rfl, .inl ⟨rfl, rfl⟩⟩
  | cons x r ih =>
    simp only [runOps]
    split
    · rename_i hd; exact ⟨0, Nat.zero_le _, rfl, .inr ⟨rfl, hd⟩⟩
    · obtain ⟨k, h1, h2, h3⟩ := ih (doneOp M x)
      refine ⟨k + 1, by simp only [List.length_cons]; omega, h2, ?_⟩
      simpa using h3
theorem runOps_alive {o : List DOp} {M : DM} (h : M.armed = false) : runOps o M = (0, doneOps o M) := by
  induction o generalizing M with
  | nil => rfl
  | cons x r ih =>
    simp only [runOps, doneOps]
    rw [if_neg (by simp [DM.dead, h]), ih ((doneOp_size M x).2.2.1.trans h)]
theorem runOps_dead {o : List DOp} {M : DM} (h : M.dead = true) (ho : o ≠ []) : runOps o M = (30, M) := by
  cases o with
  | nil => exact absurd rfl ho
  | cons x r => simp only [runOps]; rw [if_pos h]

/-- What a sector may have behind a crash. -/
def Mix (M : DM) (i : Nat) (b : List UInt8) : Prop := (M.wr i = none ∧ b = M.sure i) ∨ ∃ l c, M.wr i = some l ∧ b = l.take c ++ (M.sure i).drop c
theorem mix_left1 (M : DM) (h : M.full) (keep : List Bool) (torn cut : Int) {i : Nat} (hi : i < M.size) : Mix M i (M.left1 keep torn cut i) := by
  unfold DM.left1
  obtain ⟨h1, h2⟩ := h i hi
  unfold DM.get at h2
  cases hw : M.wr i with
  | none => exact .inl ⟨hw, rfl⟩
  | some l =>
    rw [hw] at h2
    have h2 : l.length = 64 := h2
    refine .inr ?_
    simp only
    split
    · exact ⟨l, 64, hw, by rw [List.take_of_length_le (by omega), List.drop_of_length_le (by omega), List.append_nil]⟩
    · split
      · exact ⟨l, cutN cut, hw, rfl⟩
      · exact ⟨l, 0, hw, by simp⟩
theorem mix_zero {M : DM} {i : Nat} {b : List UInt8} (hm : Mix M i b) (hw : M.wr i = none) : b = M.sure i := by
  rcases hm with ⟨_, h⟩ | ⟨l, c, h, _⟩
  · exact h
  · rw [hw] at h; cases h
/-- Nothing is unsure. -/
def Calm (M : DM) : Prop := ∀ i, M.wr i = none
theorem calm_get {M : DM} (h : Calm M) (i : Nat) : M.get i = M.sure i := by unfold DM.get; rw [h i]; rfl

/-- Writes of a list of sectors. -/
def wrs (a : Nat) (bs : List (List UInt8)) : List DOp := bs.zipIdx.map fun x => some (a + x.2, x.1)
theorem wrs_nil (a : Nat) : wrs a [] = [] := rfl
theorem wrs_snoc (a : Nat) (bs : List (List UInt8)) (b : List UInt8) : wrs a (bs ++ [b]) = wrs a bs ++ [some (a + bs.length, b)] := by
  simp [wrs, List.zipIdx_append]
theorem wrs_len (a : Nat) (bs : List (List UInt8)) : (wrs a bs).length = bs.length := by simp [wrs]
theorem wrs_take (a : Nat) (bs : List (List UInt8)) (k : Nat) : (wrs a bs).take k = wrs a (bs.take k) := by
  simp only [wrs, ← List.map_take]
  congr 1
  apply List.ext_getElem
  · simp
  · intro i h1 h2; simp
theorem done_wrs (a : Nat) (bs : List (List UInt8)) (M : DM) : (doneOps (wrs a bs) M).sure = M.sure ∧ (∀ i, (doneOps (wrs a bs) M).wr i = if a ≤ i ∧ i < a + bs.length then bs[i - a]? else M.wr i) := by
  obtain ⟨n, hn⟩ : ∃ n, n = bs.length := ⟨_, rfl⟩
  induction n generalizing bs with
  | zero =>
    have : bs = [] := List.eq_nil_of_length_eq_zero hn.symm
    subst this
    exact ⟨rfl, fun i => by rw [if_neg (by simp)]; rfl⟩
  | succ n ih =>
    have hne : bs ≠ [] := by rintro rfl; cases hn
    obtain ⟨bs', b, rfl⟩ : ∃ bs' b, bs = bs' ++ [b] := ⟨bs.dropLast, bs.getLast hne, (List.dropLast_concat_getLast hne).symm⟩
    have hn' : n = bs'.length := by simpa using hn
    obtain ⟨h1, h2⟩ := ih bs' hn'
    rw [wrs_snoc, doneOps_append]
    refine ⟨h1, fun i => ?_⟩
    show (if i = a + bs'.length then some b else (doneOps (wrs a bs') M).wr i) = _
    rw [h2 i]
    by_cases e : i = a + bs'.length
    · subst e
      rw [if_pos rfl, if_pos (by simp)]
      simp
    · rw [if_neg e]
      by_cases h : a ≤ i ∧ i < a + bs'.length
      · rw [if_pos h, if_pos (by simp; omega), List.getElem?_append_left (by omega)]
      · rw [if_neg h, if_neg (by simp; omega)]
/-- Zeros on sectors. -/
def zeroOps (L : List Nat) : List DOp := L.map fun i => some (i, zero64)
def wipeOps (L : List Nat) : List DOp := zeroOps L ++ [none]
theorem done_zero (L : List Nat) (M : DM) : (doneOps (zeroOps L) M).sure = M.sure ∧ (∀ i, (doneOps (zeroOps L) M).wr i = if i ∈ L then some zero64 else M.wr i) := by
  induction L generalizing M with
  | nil => exact ⟨rfl, fun i => by simp [zeroOps, doneOps]⟩
  | cons x r ih =>
    obtain ⟨h1, h2⟩ := ih (M.written x zero64)
    refine ⟨h1, fun i => ?_⟩
    show (doneOps (zeroOps r) (M.written x zero64)).wr i = _
    rw [h2 i]
    by_cases e : i ∈ r
    · rw [if_pos e, if_pos (List.mem_cons_of_mem _ e)]
    · rw [if_neg e]
      show (if i = x then some zero64 else M.wr i) = _
      by_cases e2 : i = x
      · rw [if_pos e2, if_pos (by simp [e2])]
      · rw [if_neg e2, if_neg (by simp [e, e2])]
theorem zeroOps_take (L : List Nat) (k : Nat) : (zeroOps L).take k = zeroOps (L.take k) := by simp [zeroOps, List.map_take]

/-- Data as sectors, the last one filled up with zeros. -/
def chunks (d : List UInt8) : List (List UInt8) := (List.range (secs d.length)).map fun i => ((d.drop (i * 64)).take 64) ++ List.replicate (64 - ((d.drop (i * 64)).take 64).length) 0
theorem chunks_len (d : List UInt8) : (chunks d).length = secs d.length := by simp [chunks]
theorem chunk_len (d : List UInt8) {b : List UInt8} (h : b ∈ chunks d) : b.length = 64 := by
  simp only [chunks, List.mem_map, List.mem_range] at h
  obtain ⟨i, _, rfl⟩ := h
  simp only [List.length_append, List.length_replicate, List.length_take, List.length_drop]
  omega
theorem chunks_get (d : List UInt8) (i : Nat) (h : i < secs d.length) : (chunks d)[i]? = some (((d.drop (i * 64)).take 64) ++ List.replicate (64 - ((d.drop (i * 64)).take 64).length) 0) := by
  simp [chunks, h]
/-- What lies on sectors that were cut so. -/
theorem cat_chunks (d : List UInt8) (g : Nat → List UInt8) (a : Nat) (h : ∀ i, i < secs d.length → some (g (a + i)) = (chunks d)[i]?) : (cat g a (secs d.length)).take d.length = d := by
  have hk : ∀ k, k ≤ secs d.length → cat g a k = (d.take (k * 64)) ++ List.replicate (k * 64 - d.length) 0 := by
    intro k
    induction k with
    | zero => intro _; simp [cat]
    | succ k ih =>
      intro hk
      rw [cat_succ, ih (by omega)]
      have := h k (by omega)
      rw [chunks_get d k (by omega)] at this
      injection this with this
      rw [this]
      have hkd : k * 64 < d.length := by unfold secs at hk; omega
      rw [show k * 64 - d.length = 0 by omega]
      simp only [List.replicate_zero, List.append_nil]
      rw [← List.append_assoc]
      congr 1
      · rw [show (k + 1) * 64 = k * 64 + 64 by omega, List.take_add]
      · congr 1
        simp only [List.length_take, List.length_drop]
        omega
  rw [hk _ (Nat.le_refl _), List.take_append_of_le_length]
  · rw [List.take_take, Nat.min_eq_left (by unfold secs; omega), List.take_length]
  · rw [List.length_take]
    unfold secs
    omega
end Go.Proofs.Ytdjcpjfomgfjlaa
/- A log in memory; Next, Room, sectorsOf, sector. -/
namespace Go.Proofs.Ytdjcpjfomgfjlaa
open Go.RowKit Go.Maps

/-- A log, plainly: its sectors, its records, the next number. -/
structure LG where
  first : Nat
  behind : Nat
  recs : List Rec
  next : Nat
def LG.endd (L : LG) : Nat := endR L.first L.recs
/-- Where records stand: each head's sector, and how many of data. -/
def plc : Nat → List Rec → List Value
  | _, [] => []
  | a, (_, d) :: r => .int .i64 (a : Int) :: .int .i64 (secs d.length : Int) :: plc (a + 1 + secs d.length) r
theorem plc_len (a : Nat) (r : List Rec) : (plc a r).length = r.length * 2 := by
  induction r generalizing a with
  | nil => rfl
  | cons x r ih => obtain ⟨s, d⟩ := x; simp [plc, ih]; omega
theorem plc_append (a : Nat) (r r' : List Rec) : plc a (r ++ r') = plc a r ++ plc (endR a r) r' := by
  induction r generalizing a with
  | nil => rfl
  | cons x r ih => obtain ⟨s, d⟩ := x; simp [plc, endR, ih]
structure LG.Ok (L : LG) : Prop where
  first : L.first < L.behind
  behind : L.behind ≤ 4096
  endd : L.endd ≤ L.behind
  pos : 1 ≤ L.next
  next : L.next ≤ 4611686018427387905
def LG.cells (L : LG) (p : Nat) (v : Value) : Array Value := #[.pointer (some ⟨p, 0, none⟩), .int .i64 (L.first : Int), .int .i64 (L.behind : Int), .int .i64 (L.endd : Int), .int .i64 (L.next : Int), v]
/-- It lies at q, over the disk at p; its places lie in a block of their own, from base on. -/
structure LogAt (w : World) (base q p : Nat) (L : LG) (v : Value) : Prop where
  blk : w.heap[q]? = some (.cells (L.cells p v) 86 (0, 0))
  row : w.ownsRow base 134 2 v L.recs.length (plc L.first L.recs)
  lt : q < base
  ok : L.Ok
section
variable {w w' : World} {base q p : Nat} {L : LG} {v : Value}
theorem LogAt.size (h : LogAt w base q p L v) : q < w.heap.size := (Array.getElem?_eq_some_iff.1 h.blk).1
theorem rowFr {base size n : Nat} {e : TypeId} {xs : List Value} {S : List Nat} (h : w.ownsRow base e size v n xs) (hf : Fr w w' S) (hS : ∀ s ∈ S, s < base) : w'.ownsRow base e size v n xs := by
  refine ⟨h.1, ?_⟩
  rcases h.2 with h2 | ⟨g, cap, cur, hv, hg, hgg, r⟩
  · exact .inl h2
  · refine .inr ⟨g, cap, cur, hv, hg, ?_, r⟩
    rw [hf.block g (Array.getElem?_eq_some_iff.1 hgg).1 (fun hs => by have := hS g hs; omega)]
    exact hgg
theorem LogAt.fr (h : LogAt w base q p L v) {S : List Nat} (hf : Fr w w' S) (hS : ∀ s ∈ S, s < base ∧ s ≠ q) : LogAt w' base q p L v :=
  ⟨(hf.block q h.size (fun hm => (hS q hm).2 rfl)).trans h.blk, rowFr h.row hf (fun s hs => (hS s hs).1), h.lt, h.ok⟩
theorem LogAt.kept (h : LogAt w base q p L v) (hb : Below w.heap.size w w') : LogAt w' base q p L v := h.fr (Fr.of_below hb []) (by simp)
end

set_option maxRecDepth 100000 in
theorem next_any {w : World} {base q p : Nat} {L : LG} {v : Value} (h : LogAt w base q p L v) :
    Calls Try.prog 24 #[.pointer (some ⟨q, 0, none⟩)] w fun e w' => e = .returned (.int .i64 (L.next : Int)) ∧ w = w' := by
  have hg := h.blk
  unfold LG.cells at hg
  have a4 := cell_of_row w q 4 _ _ _ hg
  clear h hg
  go_enter Try.func24, Try.ntmps24
  go_wp2
  go_ret
  exact ⟨rfl, rfl⟩

def LG.room (L : LG) : Int := if L.endd = L.behind ∨ 4611686018427387904 < L.next then -1 else min (((L.behind - L.endd - 1 : Nat) : Int) * 64) 4000
set_option maxRecDepth 100000 in
set_option maxHeartbeats 1000000 in
theorem room_any {w : World} {base q p : Nat} {L : LG} {v : Value} (h : LogAt w base q p L v) :
    Calls Try.prog 25 #[.pointer (some ⟨q, 0, none⟩)] w fun e w' => e = .returned (.int .i64 L.room) ∧ Below w.heap.size w w' := by
  have hg := h.blk
  have hk := h.ok
  unfold LG.cells at hg
  have a2 := cell_of_row w q 2 _ _ _ hg
  have a3 := cell_of_row w q 3 _ _ _ hg
  have a4 := cell_of_row w q 4 _ _ _ hg
  clear h hg
  obtain ⟨k1, k2, k3, k4, k5⟩ := hk
  obtain ⟨e, he⟩ : ∃ e, e = L.endd := ⟨_, rfl⟩
  obtain ⟨b, hb⟩ : ∃ b, b = L.behind := ⟨_, rfl⟩
  obtain ⟨n, hn⟩ : ∃ n, n = L.next := ⟨_, rfl⟩
  have HR : Hid (L.room = if e = b ∨ 4611686018427387904 < n then -1 else min (((b - e - 1 : Nat) : Int) * 64) 4000) := Lib.hid (by rw [he, hb, hn]; rfl)
  rw [← he] at a3 k3
  rw [← hb] at a2 k2 k3
  rw [← hn] at a4 k5
  clear he hb hn k1 k4
  by_cases h1 : e = b
  · subst h1
    have hbt : decide ((e : Int) = (e : Int)) = true := by simp
    clear k3
    go_enter Try.func25, Try.ntmps25
    go_upto_region 1 with go_in
    go_quiet (fail)
    go_wp2_with go_in
    go_ret
    exact ⟨by (rw [HR.out, if_pos (.inl (by trivial))]) <;> rfl, Below.drewN' (Below.refl _ _) _⟩
  · have hbf : ((e : Int) == (b : Int)) = false := beq_eq_false_iff_ne.2 (by omega)
    by_cases h2 : 4611686018427387904 < n
    · have hnt : (4611686018427387904 : Int) < (n : Int) := by omega
      go_enter Try.func25, Try.ntmps25
      go_upto_region 1 with go_in
      go_quiet (fail)
      go_wp2_with go_in
      go_ret
      exact ⟨by (rw [HR.out, if_pos (.inr h2)]) <;> rfl, Below.drewN' (Below.refl _ _) _⟩
    · have hnf : ¬ (4611686018427387904 : Int) < (n : Int) := by omega
      have HN := Lib.hid (And.intro h1 h2)
      have hle : (e : Int) < (b : Int) := by omega
      have hb4 : (b : Int) ≤ 4096 := by omega
      clear h1 h2 k2 k3 k5
      go_enter Try.func25, Try.ntmps25
      go_upto_region 1 with go_in
      go_quiet (fail)
      go_upto_region 3 with go_in
      have c2 : (w.drewN nq).cell? ⟨q, 2, none⟩ = _ := a2
      have c3 : (w.drewN nq).cell? ⟨q, 3, none⟩ = _ := a3
      have HB : Hid (Below w.heap.size w (w.drewN nq)) := Lib.hid (Below.drewN' (Below.refl _ _) _)
      generalize w.drewN nq = W at c2 c3 HB ⊢
      clear a2 a3 a4
      go_region
      all_goals
        go_wp2_with go_in
        go_ret
        refine ⟨?_, HB.out.drew⟩
        rw [HR.out, if_neg (by have := HN.out; omega)]

        exact ret_int (by omega)

set_option maxRecDepth 100000 in
theorem secs_any (n : Nat) (w : World) (hn : n ≤ 1000000000) :
    Calls Try.prog 70 #[.int .i64 (n : Int)] w fun e w' => e = .returned (.int .i64 (secs n : Int)) ∧ w = w' := by
  have hn' : (n : Int) ≤ 1000000000 := by omega
  have h0 : (((n : Int) + 64 - 1).tdiv 64) = (secs n : Int) := by
    rw [Int.tdiv_eq_ediv_of_nonneg (by omega)]
    unfold secs; omega
  have h1 : (((n : Int) + 64 - 1) / 64) = (secs n : Int) := by unfold secs; omega
  have H0 := Lib.hid (And.intro h0 h1)
  clear h0 h1
  go_enter Try.func70, Try.ntmps70
  go_wp2
  go_ret
  exact ⟨by first | rfl | (rw [H0.out.2] <;> rfl) | (rw [H0.out.1] <;> rfl), rfl⟩

/-- A new row of 64 bytes. -/
def New64 (w w' : World) (l : List UInt8) (e : Ending) : Prop :=
  ∃ g, e = .returned (.slice (some ⟨g, 0, none⟩) 64 64) ∧ w.heap.size ≤ g ∧ g < w'.heap.size ∧ Rd w' w'.heap.size (some ⟨g, 0, none⟩) (u8s l) ∧ l.length = 64 ∧ Below w.heap.size w w'
set_option maxRecDepth 100000 in
theorem sector_any {w : World} {base q p bs bw T : Nat} {L : LG} {v : Value} {M : DM} (h : LogAt w base q p L v) (hD : DiskM w p bs bw M T) (hz : M.size ≤ 4096) {i : Nat} (hi : i < M.size) :
    Calls Try.prog 69 #[.pointer (some ⟨q, 0, none⟩), .int .i64 (i : Int)] w fun e w' => New64 w w' (M.get i) e := by
  have hg := h.blk
  unfold LG.cells at hg
  have a0 := cell_of_row w q 0 _ _ _ hg
  have hr := readC hD hz hi
  have HR := Lib.hid hr
  clear h hg hr hD
  go_enter Try.func69, Try.ntmps69
  go_wp2_with (go_at_call 60; (with_reducible refine HR.out.mono ?_); rintro e w' ⟨g, rfl, h1, h2, h3, h4, h5⟩)
  go_ret
  exact ⟨g, rfl, h1, h2, h3, h4, h5⟩
end Go.Proofs.Ytdjcpjfomgfjlaa
/- headOf. -/
namespace Go.Proofs.Ytdjcpjfomgfjlaa
open Go.RowKit Go.Maps

theorem be8_get (s k : Nat) (h : k < 8) : (be8 s)[k]'(by rw [be8_len]; exact h) = UInt8.ofNat (s / 2 ^ (56 - 8 * k)) := by
  match k, h with
  | 0, _ => rfl
  | 1, _ => rfl
  | 2, _ => rfl
  | 3, _ => rfl
  | 4, _ => rfl
  | 5, _ => rfl
  | 6, _ => rfl
  | 7, _ => simp [be8]
/-- A head, of whose Seq k bytes are written. -/
def hdK (s k : Nat) : List UInt8 := 82 :: ((be8 s).take k ++ (List.replicate (62 - k) 0 ++ [165]))
theorem hdK_len (s k : Nat) (h : k ≤ 8) : (hdK s k).length = 64 := by simp [hdK, be8_len]; omega
theorem hdK_set (s k : Nat) (h : k < 8) (x : UInt8) (hx : x = (be8 s)[k]'(by rw [be8_len]; exact h)) : (hdK s k).set (1 + k) x = hdK s (k + 1) := by
  unfold hdK
  rw [Nat.add_comm 1 k, List.set_cons_succ]
  congr 1
  have hl : ((be8 s).take k).length = k := by rw [List.length_take, be8_len]; omega
  rw [List.set_append_right _ _ (by omega), hl, Nat.sub_self, List.take_succ_eq_append_getElem (by rw [be8_len]; exact h), ← hx, List.append_assoc]
  congr 1
  rw [show 62 - k = (62 - (k + 1)) + 1 by omega, List.replicate_succ]
  rfl
theorem hdK_end (s n : Nat) : ((hdK s 8).set 9 (UInt8.ofNat (n / 256))).set 10 (UInt8.ofNat n) = headL s n := rfl
theorem hdK_zero (s : Nat) : (zero64.set 0 82).set 63 165 = hdK s 0 := rfl
theorem mod256 (n : Nat) : ((UInt8.ofNat n).toNat : Int) = (n : Int) % 256 := by
  rw [UInt8.toNat_ofNat']
  simp
theorem row_set {w : World} {b i : Nat} {l : List UInt8} {t : TypeId} (h : w.heap[b]? = some (.cells (u8s l).toArray t (0, 0))) (x : UInt8) : (w.setCell ⟨b, i, none⟩ (.int .u8 (x.toNat : Int))).heap[b]? = some (.cells (u8s (l.set i x)).toArray t (0, 0)) := by
  have := heap_setCell_same w b i _ _ (.int .u8 (x.toNat : Int)) h
  rw [u8s_set]
  simpa using this
theorem row_cell {w : World} {b : Nat} {l : List UInt8} {t : TypeId} (h : w.heap[b]? = some (.cells (u8s l).toArray t (0, 0))) {i : Nat} (hi : i < l.length) : ∃ v, w.cell? ⟨b, i, none⟩ = some v := by
  refine ⟨(u8s l)[i]'(by rw [u8s_len]; exact hi), ?_⟩
  rw [cell_of_row w b i _ _ _ h, List.getElem?_toArray, List.getElem?_eq_getElem (by rw [u8s_len]; exact hi)]
theorem new64_row {w w' : World} {g : Nat} {l : List UInt8} {t : TypeId} (hg : w.heap.size ≤ g) (h : w'.heap[g]? = some (.cells (u8s l).toArray t (0, 0))) (hl : l.length = 64) (hb : Below w.heap.size w w') : New64 w w' l (.returned (.slice (some ⟨g, 0, none⟩) 64 64)) := by
  have hlt := (Array.getElem?_eq_some_iff.1 h).1
  refine ⟨g, rfl, hg, hlt, fun _ => ⟨g, 0, rfl, hlt, fun j u hu => ?_⟩, hl, hb⟩
  rw [cell_of_row _ _ _ _ _ _ h]
  simpa using hu

set_option maxRecDepth 100000 in
set_option maxHeartbeats 1000000 in
theorem headOf_any (s n : Nat) (w : World) (hs : s ≤ 4611686018427387904) (hn : n ≤ 65535) :
    Calls Try.prog 75 #[.int .i64 (s : Int), .int .i64 (n : Int)] w fun e w' => New64 w w' (headL s n) e := by
  have hmk := make64 w
  have h0 : ((u8s zero64).set 0 (.int .u8 82)).set 63 (.int .u8 165) = u8s (hdK s 0) := rfl
  have hg : (w.alloc (.cells (((u8s zero64).set 0 (.int .u8 82)).set 63 (.int .u8 165)).toArray 5)).heap[w.heap.size]? = some (.cells (u8s (hdK s 0)).toArray 5 (0, 0)) := by rw [h0]; exact heap_alloc_new w _
  have hB1 : Below w.heap.size w (w.alloc (.cells (((u8s zero64).set 0 (.int .u8 82)).set 63 (.int .u8 165)).toArray 5)) := (Below.refl _ w).alloc (Nat.le_refl _) _
  have HG := Lib.hid (And.intro hg hB1)
  have HS := Lib.hid (And.intro hs hn)
  have hs' : (s : Int) ≤ 4611686018427387904 := by omega
  have hn' : (n : Int) ≤ 65535 := by omega
  clear hB1 hg h0 hs hn
  go_enter Try.func75, Try.ntmps75
  go_wp2
  go_loopw [6, 12] (fun _ i wr => ∃ k : Nat, k ≤ 8 ∧ i = .int .i64 (k : Int) ∧ wr.heap[w.heap.size]? = some (.cells (u8s (hdK s k)).toArray 5 (0, 0)) ∧ Below w.heap.size w wr)
    (fun _ i _ => 8 - (intOf i).toNat)
  case atStart => exact ⟨0, by omega, rfl, HG.out.1, HG.out.2⟩
  case round =>
    obtain ⟨k, hk, rfl, hg, hb⟩ := hrel
    by_cases hk8 : k < 8
    · have hkI : (k : Int) < 8 := by omega
      have hk9 : 8 * (k : Int) ≤ 56 := by omega
      obtain ⟨x, hx⟩ : ∃ x, x = (be8 s)[k]'(by rw [be8_len]; exact hk8) := ⟨_, rfl⟩
      have hxv : (s : Int) / 2 ^ (56 - 8 * k) % 256 = (x.toNat : Int) := by
        rw [hx, be8_get s k hk8, mod256]
        simp
      obtain ⟨v1, hv1⟩ := row_cell (i := 1 + k) hg (by rw [hdK_len s k (by omega)]; omega)
      have zf1 := frozen_of_row wr w.heap.size (1 + k) _ _ hg
      have hg2 := row_set (i := 1 + k) hg x
      rw [hdK_set s k hk8 x hx] at hg2
      have HX := Lib.hid (And.intro hg2 (And.intro (hb.setCell (p := ⟨w.heap.size, 1 + k, none⟩) (Nat.le_refl _) (.int .u8 (x.toNat : Int))) hxv))
      have hi1 : (1 : Int) + (k : Int) < 64 := by omega
      have hi2 : (0 : Int) ≤ 1 + (k : Int) := by omega
      have hi3 : ((1 : Int) + (k : Int)).toNat = 1 + k := by omega
      clear hg hb hg2 hxv hx
      go_wp2_with go_in
      rw [HX.out.2.2]
      exact ⟨⟨k + 1, by omega, by simp, HX.out.1, HX.out.2.1⟩, by simp [intOf]; omega⟩
    · obtain rfl : k = 8 := by omega
      obtain ⟨v9, hv9⟩ := row_cell (i := 9) hg (by rw [hdK_len s 8 (by omega)]; omega)
      have hg9 := row_set (i := 9) hg (UInt8.ofNat (n / 256))
      obtain ⟨v10, hv10⟩ := row_cell (i := 10) hg9 (by rw [List.length_set, hdK_len s 8 (by omega)]; omega)
      have zf9 := frozen_of_row wr w.heap.size 9 _ _ hg
      have zf10 := frozen_of_row _ w.heap.size 10 _ _ hg9
      have hg10 := row_set (i := 10) hg9 (UInt8.ofNat n)
      rw [hdK_end] at hg10
      have hb10 := (hb.setCell (p := ⟨w.heap.size, 9, none⟩) (Nat.le_refl _) (.int .u8 ((UInt8.ofNat (n / 256)).toNat : Int))).setCell (p := ⟨w.heap.size, 10, none⟩) (Nat.le_refl _) (.int .u8 ((UInt8.ofNat n).toNat : Int))
      have m1 : ((UInt8.ofNat (n / 256)).toNat : Int) = (n : Int) / 256 := by rw [mod256]; simp; omega
      rw [mod256 n] at hg10 hb10
      rw [m1] at hg10 hb10 hv10 zf10
      have HX := Lib.hid (And.intro hg10 hb10)
      clear hg hb hg9 hg10 hb10 m1
      go_wp2_with go_in

      go_ret
      exact new64_row (Nat.le_refl _) HX.out.1 (headL_len _ _) HX.out.2
end Go.Proofs.Ytdjcpjfomgfjlaa
/- bytes.Equal, readHead. -/
namespace Go.Proofs.Ytdjcpjfomgfjlaa
open Go.RowKit Go.Maps

set_option maxRecDepth 100000 in
theorem equal_any (A1 A2 : Option Addr) (l1 l2 : List UInt8) (n1 n2 c1 c2 B1 B2 : Nat) (w : World) (h1 : Rd w B1 A1 (u8s l1)) (h2 : Rd w B2 A2 (u8s l2)) (hn1 : n1 = l1.length) (hn2 : n2 = l2.length) :
    Calls Try.prog 72 #[.slice A1 n1 c1, .slice A2 n2 c2] w fun e w' => e = .returned (.bool (l1 == l2)) ∧ w = w' := by
  have s1 := strAt (c := c1) h1 hn1
  have s2 := strAt (c := c2) h2 hn2
  clear h1 h2 hn1 hn2
  obtain ⟨b, hb⟩ : ∃ b, b = (l1 == l2) := ⟨_, rfl⟩
  rw [← hb]
  cases b with
  | true =>
    have hl : l1 = l2 := by simpa using hb.symm
    subst hl
    clear hb
    go_enter Try.func72, Try.ntmps72
    go_wp2
    go_ret
    exact ⟨rfl, rfl⟩
  | false =>
    have hl : ¬ l1 = l2 := by intro e; rw [e] at hb; simp at hb
    have hl2 : (l1 == l2) = false := hb.symm
    clear hb
    go_enter Try.func72, Try.ntmps72
    go_wp2
    go_ret
    exact ⟨rfl, rfl⟩

theorem wrap_i64 (n : Int) : IntKind.i64.wrap n = wrap64 n := by
  simp [IntKind.wrap, IntKind.bits, IntKind.signed, wrap64]
  omega
theorem or_byte (V : Nat) (x : UInt8) (hV : V < 72057594037927936) : bits .or .i64 (wrap64 (wrap64 (V : Int) * 256)) (wrap64 (x.toNat : Int)) = wrap64 ((V * 256 + x.toNat : Nat) : Int) := by
  have hx := x.toNat_lt
  have e0 : wrap64 (V : Int) = (V : Int) := by unfold wrap64; omega
  have e9 : wrap64 (x.toNat : Int) = (x.toNat : Int) := wrap_byte x
  rw [e9]
  have h1 : (BitVec.ofInt 64 (wrap64 (wrap64 (V : Int) * 256))).toNat = V * 256 := by
    rw [e0, BitVec.toNat_ofInt]
    unfold wrap64
    omega
  have h2 : (BitVec.ofInt 64 (x.toNat : Int)).toNat = x.toNat := by
    rw [BitVec.ofInt_natCast, BitVec.toNat_ofNat]; exact Nat.mod_eq_of_lt (by omega)
  show IntKind.i64.wrap ((BitVec.ofInt 64 (wrap64 (wrap64 (V : Int) * 256)) ||| BitVec.ofInt 64 (x.toNat : Int)).toNat : Int) = _
  rw [BitVec.toNat_or, h1, h2, wrap_i64]
  have w3 : V * 256 ||| x.toNat = V * 256 + x.toNat := by
    have := Nat.shiftLeft_add_eq_or_of_lt (show x.toNat < 2 ^ 8 by omega) V
    rw [Nat.shiftLeft_eq] at this
    exact this.symm
  rw [w3]
theorem take_snoc' (l : List UInt8) (k : Nat) (h : k < l.length) : l.take (k + 1) = l.take k ++ [l[k]] := by
  rw [List.take_succ_eq_append_getElem h]
/-- What readHead tells. -/
def seqX (b : List UInt8) : Int := wrap64 (seqV b : Int)
theorem lenV_lt (b : List UInt8) : lenV b < 65536 := by
  have := beV_lt ((b.drop 9).take 2)
  have h2 : ((b.drop 9).take 2).length ≤ 2 := List.length_take_le _ _
  have h3 : 256 ^ ((b.drop 9).take 2).length ≤ 256 ^ 2 := Nat.pow_le_pow_right (by omega) h2
  unfold lenV
  omega
theorem seqV_lt (b : List UInt8) : seqV b < 18446744073709551616 := by
  have := beV_lt ((b.drop 1).take 8)
  have h2 : ((b.drop 1).take 8).length ≤ 8 := List.length_take_le _ _
  have h3 : 256 ^ ((b.drop 1).take 8).length ≤ 256 ^ 8 := Nat.pow_le_pow_right (by omega) h2
  unfold seqV
  omega
theorem lenV_two (b : List UInt8) (h : b.length = 64) : lenV b = b[9].toNat * 256 + b[10].toNat := by
  have : (b.drop 9).take 2 = [b[9], b[10]] := by
    apply List.ext_getElem
    · simp; omega
    · intro i h1 h2
      have : i < 2 := by simpa using h2
      match i, this with
      | 0, _ => simp
      | 1, _ => simp
  unfold lenV
  rw [this]
  simp [beV]
/-- Is it a head? -/
def isHd (b : List UInt8) : Bool := (hdr b).isSome
theorem isHd_no {b : List UInt8} (h : ¬ (1 ≤ seqX b ∧ seqX b ≤ 4611686018427387904 ∧ lenV b ≤ 4000)) : isHd b = false := by
  unfold isHd hdr
  rw [if_neg]
  · rfl
  · rintro ⟨h1, h2, h3, _⟩
    apply h
    have : seqX b = (seqV b : Int) := by unfold seqX wrap64; omega
    rw [this]
    omega
theorem isHd_yes {b : List UInt8} (h1 : 1 ≤ seqX b) (h2 : seqX b ≤ 4611686018427387904) (h3 : lenV b ≤ 4000) : seqX b = (seqV b : Int) ∧ isHd b = (b == headL (seqV b) (lenV b)) := by
  have hs := seqV_lt b
  have e : seqX b = (seqV b : Int) := by
    unfold seqX wrap64 at h1 h2 ⊢
    omega
  refine ⟨e, ?_⟩
  rw [e] at h1 h2
  unfold isHd hdr
  by_cases hb : b = headL (seqV b) (lenV b)
  · rw [if_pos ⟨by omega, by omega, h3, hb⟩]
    exact (beq_iff_eq.2 hb).symm
  · rw [if_neg (fun h => hb h.2.2.2)]
    exact (beq_eq_false_iff_ne.2 hb).symm

set_option maxRecDepth 100000 in
set_option maxHeartbeats 2000000 in
theorem readHead_any (g : Nat) (b : List UInt8) (B : Nat) (w : World) (hr : Rd w B (some ⟨g, 0, none⟩) (u8s b)) (hl : b.length = 64) (hB : B ≤ w.heap.size) :
    Calls Try.prog 68 #[.slice (some ⟨g, 0, none⟩) 64 64] w fun e w' => e = .returned (.tuple #[.int .i64 (seqX b), .int .i64 (lenV b : Int), .bool (isHd b)]) ∧ Below w.heap.size w w' := by
  have HR := Lib.hid hr
  have HL := Lib.hid (And.intro hl hB)
  have hd8 : ((b.drop 1).take 8).length = 8 := by simp; omega
  have HD := Lib.hid hd8
  have hc : ∀ k x, b[k]? = some x → w.cell? ⟨g, k, none⟩ = some (.int .u8 (x.toNat : Int)) := fun k x hx => rd_cell hr hx
  have HC := Lib.hid hc
  clear hr hl hB hd8 hc
  go_enter Try.func68, Try.ntmps68
  go_wp2
  go_loop [2, 6, 10] (fun u _ i => ∃ k : Nat, k ≤ 8 ∧ i = .int .i64 (k : Int) ∧ u = .int .i64 (wrap64 (beV (((b.drop 1).take 8).take k) : Int))) (fun _ _ i => 8 - (intOf i).toNat)
  case atStart => exact ⟨0, by omega, rfl, by simp [beV, wrap64]⟩
  case round =>
    obtain ⟨k, hk, rfl, rfl⟩ := hrel
    by_cases hk8 : k < 8
    · have hkI : (k : Int) < 8 := by omega
      obtain ⟨x, hx⟩ : ∃ x, x = ((b.drop 1).take 8)[k]'(by rw [HD.out]; exact hk8) := ⟨_, rfl⟩
      have hbk : b[1 + k]? = some x := by
        rw [hx, List.getElem?_eq_getElem (by have := HL.out.1; omega)]
        simp [Nat.add_comm]
      have hsn : beV (((b.drop 1).take 8).take (k + 1)) = beV (((b.drop 1).take 8).take k) * 256 + x.toNat := by
        rw [take_snoc' _ k (by rw [HD.out]; exact hk8), beV_snoc, hx]
      have hlt : beV (((b.drop 1).take 8).take k) < 72057594037927936 := by
        have := beV_lt (((b.drop 1).take 8).take k)
        have h2 : (((b.drop 1).take 8).take k).length ≤ 7 := by have := List.length_take_le k ((b.drop 1).take 8); omega
        have h3 : 256 ^ (((b.drop 1).take 8).take k).length ≤ 256 ^ 7 := Nat.pow_le_pow_right (by omega) h2
        omega
      have hc1 := HC.out (1 + k) x hbk
      have HS := Lib.hid (And.intro hsn hlt)
      obtain ⟨V, hV⟩ : ∃ V, V = beV (((b.drop 1).take 8).take k) := ⟨_, rfl⟩
      rw [← hV] at HS ⊢
      clear hsn hlt hbk hx hV
      go_wp2
      go_round
      case rel =>
        refine ⟨k + 1, by omega, by simp, ?_⟩
        rw [or_byte V x HS.out.2, HS.out.1]
      case measure => simp [intOf]; omega
    · obtain rfl : k = 8 := by omega
      have hl := HL.out.1
      have h9 : b[9]? = some b[9] := List.getElem?_eq_getElem (by omega)
      have h10 : b[10]? = some b[10] := List.getElem?_eq_getElem (by omega)
      have c9 := HC.out 9 _ h9
      have c10 := HC.out 10 _ h10
      obtain ⟨x9, hx9⟩ : ∃ x, x = b[9]'(by omega) := ⟨_, rfl⟩
      obtain ⟨x10, hx10⟩ : ∃ x, x = b[10]'(by omega) := ⟨_, rfl⟩
      have hlen : lenV b = x9.toNat * 256 + x10.toNat := by rw [lenV_two b hl, hx9, hx10]
      rw [← hx9] at c9
      rw [← hx10] at c10
      have hX : wrap64 (beV (((b.drop 1).take 8).take 8) : Int) = seqX b := by rw [List.take_of_length_le (by rw [HD.out]; omega)]; rfl
      rw [hX]
      have ho : bits .or .i64 (wrap64 ((x9.toNat : Int) * 256)) (x10.toNat : Int) = (lenV b : Int) := by
        have h1 := or_byte x9.toNat x10 (by have := x9.toNat_lt; omega)
        rw [wrap_byte x9, wrap_byte x10] at h1
        rw [h1, hlen]
        have := x9.toNat_lt
        have := x10.toNat_lt
        unfold wrap64
        omega
      have e9 : wrap64 (x9.toNat : Int) = (x9.toNat : Int) := wrap_byte x9
      have e10 : wrap64 (x10.toNat : Int) = (x10.toNat : Int) := wrap_byte x10
      have HLEN := Lib.hid (And.intro hlen ho)
      have HYN : isHd b = true ∨ isHd b = false := by cases isHd b <;> simp
      obtain ⟨X, hXX⟩ : ∃ X, X = seqX b := ⟨_, rfl⟩
      rw [← hXX]
      have HXX := Lib.hid hXX
      clear hX hlen h9 h10 hx9 hx10 hl hXX ho
      go_upto_region 6 with go_in
      go_quiet (fail)
      rw [HLEN.out.2]
      have hb9 : Below w.heap.size w (w.drewN nq) := Below.drewN' (Below.refl _ _) _
      have hr9 := HR.out.drewN nq
      have HW := Lib.hid (And.intro hb9 (And.intro hr9 (show B ≤ (w.drewN nq).heap.size from HL.out.2)))
      clear hb9 hr9 c9 c10 e9 e10
      generalize w.drewN nq = W at HW ⊢
      obtain ⟨Y, hY⟩ : ∃ Y, Y = lenV b := ⟨_, rfl⟩
      have hYb : (Y : Int) ≤ 65535 := by have := lenV_lt b; omega
      rw [← hY]
      by_cases hall : 1 ≤ X ∧ X ≤ 4611686018427387904 ∧ Y ≤ 4000
      · obtain ⟨h1, h2, h3⟩ := hall
        have hyes := isHd_yes (b := b) (by rw [← HXX.out]; exact h1) (by rw [← HXX.out]; exact h2) (by rw [← hY]; exact h3)
        obtain ⟨S, hS⟩ : ∃ S, S = seqV b := ⟨_, rfl⟩
        have hXS : X = (S : Int) := by rw [HXX.out, hyes.1, hS]
        subst hXS
        have hho := headOf_any S Y W (by omega) (by omega)
        have HH := Lib.hid hho
        have HE : Hid ((b == headL S Y) = isHd b) := Lib.hid (by rw [hyes.2, hY, hS])
        have h3' : (Y : Int) ≤ 4000 := by omega
        have hS2 : (S : Int) ≤ 4611686018427387904 := h2
        have hS1 : 1 ≤ (S : Int) := h1
        have HYY := Lib.hid hY
        clear hyes hho hS h3 HYN h1 h2 hY
        go_wp2_with (first
          | (go_at_call 75; (with_reducible refine HH.out.mono ?_); rintro e w2 ⟨g2, rfl, hg1, hg2, hr2, hl2, hb2⟩)
          | (go_at_call 72; (refine (equal_any _ _ b (headL S Y) 64 64 64 64 _ _ w2 (HW.out.2.1.below hb2 HW.out.2.2) hr2 HL.out.1.symm hl2.symm).mono ?_); rintro e w3 ⟨rfl, rfl⟩; rw [HE.out])
          | go_in)
        go_ret3
        refine ⟨?_, HW.out.1.trans ⟨hb2.os, hb2.tape, hb2.output, hb2.size, fun k hk => hb2.block k (by have := HW.out.1.size; omega)⟩⟩
        rw [← HYY.out, ← HXX.out]
        rfl
      · have hno : isHd b = false := isHd_no (by rw [← HXX.out, ← hY]; exact hall)
        have HNO := Lib.hid (And.intro hall hno)
        have HYY := Lib.hid hY
        clear hno hall HYN hY
        have hfin : (Ending.returned (.tuple #[.int .i64 X, .int .i64 (Y : Int), .bool false]) = .returned (.tuple #[.int .i64 (seqX b), .int .i64 (lenV b : Int), .bool (isHd b)])) := by rw [HNO.out.2, ← HXX.out, ← HYY.out]
        have HF := Lib.hid hfin
        clear hfin
        by_cases h1 : 1 ≤ X
        · by_cases h2 : X ≤ 4611686018427387904
          · have h3 : ¬ (Y : Int) ≤ 4000 := by have := HNO.out.1; omega
            go_wp2_with go_in
            go_ret3
            exact ⟨HF.out, HW.out.1⟩
          · go_wp2_with go_in
            go_ret3
            exact ⟨HF.out, HW.out.1⟩
        · go_wp2_with go_in
          go_ret3
          exact ⟨HF.out, HW.out.1⟩
end Go.Proofs.Ytdjcpjfomgfjlaa
