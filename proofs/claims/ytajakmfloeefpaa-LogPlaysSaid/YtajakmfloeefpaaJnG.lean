/- Joined: RefH LogW LogX LogY. -/
import Derived.Test.YtajakmfloeefpaaRefG
import Derived.Test.YtajakmfloeefpaaJnE
import Derived.Deep.CutRange
import Derived.Deep.CutBlock
import Derived.Deep.RegionHeld3
/- The document's disk is the plain disk. -/
namespace Go.Proofs.Ytajakmfloeefpaa
open Go.RowKit Go.Maps

def refOf (M : DM) : RD := ⟨(List.range M.size).map M.sure, (List.range M.size).map M.get, (List.range M.size).map fun i => (M.wr i).isSome, M.steps, if M.armed then (M.left : Int) else -1⟩
theorem refOf_len (M : DM) : (refOf M).now.length = M.size := by simp [refOf]
theorem refOf_ok {M : DM} {T : Nat} (h : M.Ok T) : (refOf M).Ok := by
  refine ⟨by rw [refOf_len]; exact h.size, by simp [refOf], by simp [refOf], ⟨by simp [refOf], by have := h.steps; simp [refOf]; omega⟩, ?_⟩
  have := h.left
  show -1 ≤ (if M.armed then (M.left : Int) else -1) ∧ (if M.armed then (M.left : Int) else -1) ≤ 9223372036854775807
  split <;> omega
theorem map_same {α : Type} (n : Nat) (f : Nat → α) (a : α) (h : ∀ i, f i = a) : (List.range n).map f = List.replicate n a := by
  apply List.ext_getElem
  · simp
  · intro i h1 h2; simp [h]
theorem refOf_new (n : Nat) : refOf (DM.new n) = RD.new n := by
  unfold refOf RD.new
  rw [map_same (DM.new n).size (DM.new n).sure zero64 (fun _ => rfl), map_same (DM.new n).size (DM.new n).get zero64 (fun _ => rfl), map_same (DM.new n).size (fun i => ((DM.new n).wr i).isSome) false (fun _ => rfl)]
  rfl
theorem refOf_dead (M : DM) : (refOf M).left = 0 ↔ M.dead = true := by
  show (if M.armed then (M.left : Int) else -1) = 0 ↔ (M.armed && (M.left == 0)) = true
  cases M.armed with
  | true => simp
  | false => simp
theorem refOf_stepS (M : DM) (h : M.dead = false) : stepS (refOf M).steps (refOf M).left = (M.stepped.steps : Int) := by
  have : ¬ (refOf M).left = 0 := by rw [refOf_dead, h]; simp
  unfold stepS
  rw [if_neg this]
  rfl
theorem refOf_stepL (M : DM) (h : M.dead = false) : stepL (refOf M).left = if M.stepped.armed then (M.stepped.left : Int) else -1 := by
  have h0 : ¬ (refOf M).left = 0 := by rw [refOf_dead, h]; simp
  unfold stepL
  rw [if_neg h0]
  show (if 0 < (if M.armed then (M.left : Int) else -1) then (if M.armed then (M.left : Int) else -1) - 1 else (if M.armed then (M.left : Int) else -1)) = if M.armed then (((if M.armed then M.left - 1 else M.left : Nat)) : Int) else -1
  change ¬ (if M.armed then (M.left : Int) else -1) = 0 at h0
  cases ha : M.armed with
  | true => rw [ha] at h0; simp at h0 ⊢; omega
  | false => simp
theorem map_set {α : Type} (n i : Nat) (f g : Nat → α) (a : α) (hi : g i = a) (h : ∀ j, j ≠ i → g j = f j) : ((List.range n).map f).set i a = (List.range n).map g := by
  apply List.ext_getElem
  · simp
  · intro j h1 h2
    rw [List.getElem_set]
    split
    · subst_vars; simp
    · simp; exact (h j (by omega)).symm
theorem refOf_write (M : DM) (i : Int) (l : List UInt8) : (refOf M).writeE i l = M.writeE i l ∧ (refOf M).writeM i l = refOf (M.writeM i l) := by
  have hb : (refOf M).writeBad i l ↔ (¬ (0 ≤ i ∧ i < M.size) ∨ l.length ≠ 64) := by unfold RD.writeBad; rw [refOf_len]
  unfold RD.writeE RD.writeM DM.writeE DM.writeM
  by_cases h : ¬ (0 ≤ i ∧ i < M.size) ∨ l.length ≠ 64
  · rw [if_pos (hb.2 h), if_pos h, if_pos (hb.2 h), if_pos h]; exact ⟨rfl, rfl⟩
  · rw [if_neg (fun x => h (hb.1 x)), if_neg h, if_neg (fun x => h (hb.1 x)), if_neg h]
    cases hd : M.dead with
    | true =>
      have := (refOf_dead M).2 hd
      rw [if_pos this, if_pos this]; exact ⟨rfl, rfl⟩
    | false =>
      have h0 : ¬ (refOf M).left = 0 := by rw [refOf_dead, hd]; simp
      rw [if_neg h0, if_neg h0, if_neg (by simp), if_neg (by simp)]
      refine ⟨rfl, ?_⟩
      rw [refOf_stepS M hd, refOf_stepL M hd]
      unfold refOf
      congr 1
      · exact map_set _ _ _ _ _ (by simp [DM.get, DM.written]) (fun j hj => by simp [DM.get, DM.written, hj, DM.stepped])
      · exact map_set _ _ _ _ _ (by simp [DM.written]) (fun j hj => by simp [DM.written, hj, DM.stepped])
theorem refOf_flush (M : DM) : (refOf M).flushE = M.flushE ∧ (refOf M).flushM = refOf M.flushM := by
  unfold RD.flushE RD.flushM DM.flushE DM.flushM
  cases hd : M.dead with
  | true =>
    have := (refOf_dead M).2 hd
    rw [if_pos this, if_pos this]; exact ⟨rfl, rfl⟩
  | false =>
    have h0 : ¬ (refOf M).left = 0 := by rw [refOf_dead, hd]; simp
    rw [if_neg h0, if_neg h0, if_neg (by simp), if_neg (by simp)]
    refine ⟨rfl, ?_⟩
    rw [refOf_stepS M hd, refOf_stepL M hd, refOf_len]
    unfold refOf
    congr 1
    exact (map_same _ _ false (fun _ => rfl)).symm
theorem refOf_arm (M : DM) (n : Int) : (refOf M).armE n = M.armE n ∧ (refOf M).armM n = refOf (M.armM n) := by
  unfold RD.armE RD.armM DM.armE DM.armM
  by_cases hn : n < 0
  · rw [if_pos hn, if_pos hn, if_pos hn, if_pos hn]; exact ⟨rfl, rfl⟩
  · rw [if_neg hn, if_neg hn, if_neg hn, if_neg hn]
    cases hd : M.dead with
    | true =>
      have := (refOf_dead M).2 hd
      rw [if_pos this, if_pos this]; exact ⟨rfl, rfl⟩
    | false =>
      have h0 : ¬ (refOf M).left = 0 := by rw [refOf_dead, hd]; simp
      rw [if_neg h0, if_neg h0, if_neg (by simp), if_neg (by simp)]
      refine ⟨rfl, ?_⟩
      unfold refOf
      congr 1
      show n = (((n.toNat : Nat)) : Int)
      omega
theorem refOf_upto (M : DM) (k : Nat) (hk : k ≤ M.size) : upto (refOf M).fresh k = (List.range k).filter fun j => (M.wr j).isSome := by
  unfold upto
  apply List.filter_congr
  intro j hj
  have : j < M.size := by have := List.mem_range.1 hj; omega
  simp [refOf, List.getD, this]
theorem refOf_fresh (M : DM) : upto (refOf M).fresh (refOf M).fresh.length = M.fresh := by
  have : (refOf M).fresh.length = M.size := by simp [refOf]
  rw [this, refOf_upto M _ (Nat.le_refl _)]; rfl
theorem refOf_crashed (M : DM) (keep : List Bool) (torn cut : Int) : (refOf M).crashed keep torn cut = refOf (M.crashed keep torn cut) := by
  have hl : (refOf M).lefts keep torn cut (refOf M).now.length = (List.range M.size).map (M.left1 keep torn cut) := by
    unfold RD.lefts
    rw [refOf_len]
    apply List.map_congr_left
    intro i hi
    have hi' := List.mem_range.1 hi
    unfold RD.left1 DM.left1
    have hf : (refOf M).fresh.getD i false = (M.wr i).isSome := by simp [refOf, List.getD, hi']
    have hs : (refOf M).sure.getD i [] = M.sure i := by simp [refOf, List.getD, hi']
    have hn : (refOf M).now.getD i [] = M.get i := by simp [refOf, List.getD, hi']
    rw [hf, hs, hn, refOf_upto M i (by omega)]
    unfold DM.get
    cases hw : M.wr i with
    | none => simp
    | some l =>
      rw [if_pos (show (some l).isSome = true from rfl)]
      show (if keep[M.place i]? = some true then l else if (M.place i : Int) = torn then tearL (M.sure i) l cut else M.sure i) = _
      by_cases h1 : keep[M.place i]? = some true
      · rw [if_pos h1]; exact (if_pos h1).symm
      · rw [if_neg h1]
        by_cases h2 : (M.place i : Int) = torn
        · rw [if_pos h2]; exact ((if_neg h1).trans (if_pos h2)).symm
        · rw [if_neg h2]; exact ((if_neg h1).trans (if_neg h2)).symm
  unfold RD.crashed
  rw [hl, refOf_len]
  unfold refOf
  have e1 : (List.range (M.crashed keep torn cut).size).map (M.crashed keep torn cut).get = (List.range M.size).map (M.left1 keep torn cut) := rfl
  have e2 : (List.range (M.crashed keep torn cut).size).map (fun i => ((M.crashed keep torn cut).wr i).isSome) = List.replicate M.size false := map_same _ _ false (fun _ => rfl)
  rw [e1, e2]
  rfl
theorem refOf_full {M : DM} (h : M.full) : (∀ i (hi : i < (refOf M).sure.length), (refOf M).sure[i].length = 64) ∧ (∀ i (hi : i < (refOf M).now.length), (refOf M).now[i].length = 64) := by
  constructor
  · intro i hi
    have : i < M.size := by simpa [refOf] using hi
    simpa [refOf] using (h i this).1
  · intro i hi
    have : i < M.size := by simpa [refOf] using hi
    simpa [refOf] using (h i this).2
end Go.Proofs.Ytajakmfloeefpaa
/- The document's log: record. -/
namespace Go.Proofs.Ytajakmfloeefpaa
open Go.RowKit Go.Maps

/-- The record at a sector, as the document reads it. -/
def recO (g : Nat → List UInt8) (at_ behind : Nat) : Option Rec :=
  match hdr (g at_) with
  | none => none
  | some (s, n) => if behind < at_ + 1 + secs n then none else some (s, (cat g (at_ + 1) (secs n)).take n)
def recOV : Option Rec → Value
  | none => .tuple #[.agg #[.int .i64 0, .string ⟨#[]⟩], .bool false]
  | some (s, d) => .tuple #[.agg #[.int .i64 (s : Int), .string ⟨d.toArray⟩], .bool true]
theorem beV_take_le (l : List UInt8) (k : Nat) : beV (l.take k) * 256 ^ (l.length - k) ≤ beV l := by
  have h : ∀ (r : List UInt8) (l : List UInt8), beV l * 256 ^ r.length ≤ beV (l ++ r) := by
    intro r
    induction r with
    | nil => intro l; simp
    | cons x r ih =>
      intro l
      have := ih (l ++ [x])
      rw [List.append_assoc, beV_snoc] at this
      refine Nat.le_trans ?_ this
      rw [List.length_cons, Nat.pow_succ, Nat.mul_comm (256 ^ r.length) 256, ← Nat.mul_assoc]
      exact Nat.mul_le_mul_right _ (Nat.le_add_right _ _)
  have := h (l.drop k) (l.take k)
  rwa [List.take_append_drop, List.length_drop] at this
theorem ba_app (x y : List UInt8) : (⟨x.toArray⟩ : ByteArray) ++ ⟨y.toArray⟩ = ⟨(x ++ y).toArray⟩ := by
  apply ByteArray.ext
  simp
theorem ba_take (x : List UInt8) (n : Nat) : (⟨x.toArray⟩ : ByteArray).extract 0 n = ⟨(x.take n).toArray⟩ := by
  apply ByteArray.ext
  simp
theorem recO_none {g : Nat → List UInt8} {a behind : Nat} (h : hdr (g a) = none) : recO g a behind = none := by unfold recO; rw [h]
theorem set2 {w : World} {b : Nat} {t : TypeId} {x0 x1 : Value} (h : w.heap[b]? = some (.cells #[x0, x1] t (0, 0))) (v0 v1 : Value) :
    ((w.setCell ⟨b, 0, none⟩ v0).setCell ⟨b, 1, none⟩ v1).heap[b]? = some (.cells #[v0, v1] t (0, 0)) := by
  have h1 := heap_setCell_same w b 0 #[x0, x1] t v0 h
  have h2 := heap_setCell_same _ b 1 _ t v1 h1
  simpa using h2
theorem below_set2 {B b : Nat} {a w : World} (h : Below B a w) (hb : B ≤ b) (v0 v1 : Value) : Below B a ((w.setCell ⟨b, 0, none⟩ v0).setCell ⟨b, 1, none⟩ v1) :=
  (h.setCell (p := ⟨b, 0, none⟩) hb v0).setCell (p := ⟨b, 1, none⟩) hb v1
theorem resRec {w : World} {b : Nat} {v0 v1 : Value} (h : w.heap[b]? = some (.cells #[v0, v1] 80 (0, 0))) (tmps : Array Value) (h4 : tmps.getD 6 undef = .pointer (some ⟨b, 0, none⟩)) :
    (results Try.f58 tmps).run Try.prog w = .ok (.tuple #[.agg #[v0, v1], tmps.getD 7 undef]) w := by
  have e0 : w.cell? ⟨b, 0, none⟩ = some v0 := cell_of_row w b 0 _ _ _ h
  have e1 : w.cell? ⟨b, 1, none⟩ = some v1 := cell_of_row w b 1 _ _ _ h
  have h4' := h4
  simp only [Array.getD_eq_getD_getElem?] at h4'
  simp [results, Try.results58, go_sem, h4', e0, e1]
theorem hdr_big {b : List UInt8} (h : 4611686018427387904 < seqV b) : hdr b = none := by
  unfold hdr
  rw [if_neg (fun hh => by omega)]
theorem seq_big {b : List UInt8} {k : Nat} (hk : k < 8) (hl : b.length = 64) (h : 18014398509481984 < beV ((b.drop 1).take k)) : hdr b = none := by
  apply hdr_big
  have h1 := beV_take_le ((b.drop 1).take 8) k
  have h2 : ((b.drop 1).take 8).length = 8 := by simp; omega
  rw [h2, List.take_take, show min k 8 = k by omega] at h1
  have h3 : 256 ^ 1 ≤ 256 ^ (8 - k) := Nat.pow_le_pow_right (by omega) (by omega)
  have h4 : beV ((b.drop 1).take k) * 256 ≤ beV ((b.drop 1).take k) * 256 ^ (8 - k) := Nat.mul_le_mul_left _ (by simpa using h3)
  unfold seqV
  omega
set_option maxRecDepth 100000 in
set_option maxHeartbeats 2000000 in
theorem rrec_any (g : Nat → List UInt8) (N at_ behind : Nat) (s0 f0 : Value) (st lf : Int) (A : Option Addr) (c B : Nat) (w : World) (hr : Rd w B A (strs ((List.range N).map g))) (hB : B ≤ w.heap.size) (hg : ∀ i, i < N → (g i).length = 64) (ha : at_ < N) (hb : behind ≤ N) (hN : N ≤ 4096) :
    Calls Try.prog 58 #[.agg #[s0, .slice A N c, f0, .int .i64 st, .int .i64 lf], .int .i64 (at_ : Int), .int .i64 (behind : Int)] w fun e w' => e = .returned (recOV (recO g at_ behind)) ∧ Below w.heap.size w w' := by
  have hb0 : Below w.heap.size w ((w.alloc (.cells #[s0, .slice A N c, f0, .int .i64 st, .int .i64 lf] 33)).alloc (.cells #[.int .i64 0, .string ⟨#[]⟩] 80)) := ((Below.refl _ _).alloc (Nat.le_refl _) _).alloc (by simp) _
  have hg0 : ((w.alloc (.cells #[s0, .slice A N c, f0, .int .i64 st, .int .i64 lf] 33)).alloc (.cells #[.int .i64 0, .string ⟨#[]⟩] 80)).heap[w.heap.size]? = some (.cells #[s0, .slice A N c, f0, .int .i64 st, .int .i64 lf] 33 (0, 0)) := (Below.heap_alloc _ _ _ (by simp)).trans (heap_alloc_new w _)
  have hg1 : ((w.alloc (.cells #[s0, .slice A N c, f0, .int .i64 st, .int .i64 lf] 33)).alloc (.cells #[.int .i64 0, .string ⟨#[]⟩] 80)).heap[w.heap.size + 1]? = some (.cells #[.int .i64 0, .string ⟨#[]⟩] 80 (0, 0)) := by
    have := heap_alloc_new (w.alloc (.cells #[s0, .slice A N c, f0, .int .i64 st, .int .i64 lf] 33)) (.cells #[.int .i64 0, .string ⟨#[]⟩] 80)
    simpa using this
  have hr0 := hr.below hb0 hB
  obtain ⟨b, hbe⟩ : ∃ b, b = g at_ := ⟨_, rfl⟩
  have hbl : b.length = 64 := by rw [hbe]; exact hg at_ ha
  obtain ⟨ab, ao, rfl, hab, hcell⟩ := hr0.get (k := at_) (by simp [strs, ha])
  have haI : (at_ : Int) < (N : Int) := by omega
  have hNI : (N : Int) ≤ 4096 := by omega
  have hbI : (behind : Int) ≤ (N : Int) := by omega
  have hbz : (⟨b.toArray⟩ : ByteArray).size = 64 := by simp [ByteArray.size, hbl]
  have HH := Lib.hid (And.intro hb0 (And.intro hg (And.intro hr0 (And.intro hbe hbl))))
  have hstr : (strs ((List.range N).map g))[at_]'(by simp [strs, ha]) = .string ⟨b.toArray⟩ := by rw [hbe]; simp [strs]
  rw [hstr] at hcell
  clear hr0 hr hg hbe hstr
  go_enter Try.func58, Try.ntmps58
  go_upto_region 1 with (fail)
  generalize (w.alloc (.cells #[s0, .slice (some ⟨ab, ao, none⟩) N c, f0, .int .i64 st, .int .i64 lf] 33)).alloc (.cells #[.int .i64 0, .string ⟨#[]⟩] 80) = W0 at hb0 hg0 hg1 HH hcell ⊢
  have x1 := cell_of_row W0 w.heap.size 1 _ _ _ hg0
  have r0 := cell_of_row W0 (w.heap.size + 1) 0 _ _ _ hg1
  have r1 := cell_of_row W0 (w.heap.size + 1) 1 _ _ _ hg1
  have z0 := frozen_of_row W0 (w.heap.size + 1) 0 _ _ hg1
  have z1 := frozen_of_row W0 (w.heap.size + 1) 1 _ _ hg1
  have HB := Lib.hid (And.intro hb0 (And.intro hg0 hg1))
  clear hb0 hg0 hg1
  go_upto_block 0 with (fail)
  go_cut [9, 10] from 19 to 32 (fun u _ w' => u = .int .i64 (seqV b : Int) ∧ w' = W0 ∧ seqV b ≤ 4611686018427388159)
  case first =>
    go_wp2
    go_loop [9, 10] (fun u i => ∃ k : Nat, k ≤ 8 ∧ i = .int .i64 (1 + (k : Int)) ∧ u = .int .i64 (beV ((b.drop 1).take k) : Int) ∧ beV ((b.drop 1).take k) ≤ 4611686018427388159) (fun _ i => 9 - (intOf i).toNat)
    case atStart => exact ⟨0, by omega, rfl, rfl, by simp [beV]⟩
    case round =>
      obtain ⟨k, hk, rfl, rfl, hle⟩ := hrel
      by_cases hk8 : k < 8
      · have hkI : (1 : Int) + (k : Int) < 9 := by omega
        have hkJ : (0 : Int) ≤ 1 + (k : Int) := by omega
        have hkN : ((1 : Int) + (k : Int)).toNat = 1 + k := by omega
        have hd8 : ((b.drop 1)).length = 63 := by simp; omega
        obtain ⟨x, hx⟩ : ∃ x, x = b[1 + k]'(by omega) := ⟨_, rfl⟩
        have hxb : (⟨b.toArray⟩ : ByteArray)[1 + k]'(by rw [hbz]; omega) = x := by rw [hx]; rfl
        have hsn : beV ((b.drop 1).take (k + 1)) = beV ((b.drop 1).take k) * 256 + x.toNat := by
          rw [take_snoc' _ k (by omega), beV_snoc, hx]
          simp [Nat.add_comm]
        obtain ⟨V, hV⟩ : ∃ V, V = beV ((b.drop 1).take k) := ⟨_, rfl⟩
        rw [← hV] at hsn ⊢
        have hxl : (x.toNat : Int) ≤ 255 := by have := x.toNat_lt; omega
        by_cases hbig : 18014398509481984 < (V : Int)
        · have HX := Lib.hid (And.intro hV hbig)
          clear hV hsn hx hxb
          go_wp2
          have hno : recO g at_ behind = none := recO_none (by rw [← HH.out.2.2.2.1]; exact seq_big hk8 hbl (by rw [← HX.out.1]; have := HX.out.2; omega))
          exact bodyPost_ret (resRec (set2 HB.out.2.2 _ _) _ rfl) rfl ⟨by rw [hno]; rfl, below_set2 HB.out.1 (by omega) _ _⟩
        · have HX := Lib.hid hsn
          have hVl : (V : Int) ≤ 18014398509481984 := by omega
          clear hV hsn hx hbig
          go_wp2
          exact ⟨⟨k + 1, by omega, by simp; omega, by rw [HX.out]; simp, by rw [HX.out]; omega⟩, by simp [intOf]; omega⟩
      · obtain rfl : k = 8 := by omega
        go_wp2
        go_meet
        exact ⟨by simp [seqV], rfl, hle⟩
  case rest =>
    obtain ⟨rfl, rfl, hsl⟩ := hcut
    obtain ⟨x9, hx9⟩ : ∃ x, x = b[9]'(by omega) := ⟨_, rfl⟩
    obtain ⟨x10, hx10⟩ : ∃ x, x = b[10]'(by omega) := ⟨_, rfl⟩
    have i9 : (⟨b.toArray⟩ : ByteArray)[9]'(by rw [hbz]; omega) = x9 := by rw [hx9]; rfl
    have i10 : (⟨b.toArray⟩ : ByteArray)[10]'(by rw [hbz]; omega) = x10 := by rw [hx10]; rfl
    have hlen : lenV b = x9.toNat * 256 + x10.toNat := by rw [lenV_two b hbl, hx9, hx10]
    have l9 := x9.toNat_lt
    have l10 := x10.toNat_lt
    have q1 : IntKind.i64.wrap ((x9.toNat : Int) * 256) = (x9.toNat : Int) * 256 := IntWalk.i64_in _ (by omega)
    have q2 : IntKind.i64.wrap ((x9.toNat : Int) * 256 + (x10.toNat : Int)) = (lenV b : Int) := by rw [hlen]; rw [IntWalk.i64_in _ (by omega)]; omega
    have q3 : IntKind.i64.wrap (x9.toNat : Int) = (x9.toNat : Int) := IntWalk.i64_in _ (by omega)
    have q4 : IntKind.i64.wrap (x10.toNat : Int) = (x10.toNat : Int) := IntWalk.i64_in _ (by omega)
    clear hx9 hx10 hlen
    go_upto_region 9 with (fail)
    go_quiet (fail)
    have hw2 : Below w.heap.size w (wc.drewN nq) := below_draws HB.out.1 nq
    have hg0 : (wc.drewN nq).heap[w.heap.size]? = some (.cells #[s0, .slice (some ⟨ab, ao, none⟩) N c, f0, .int .i64 st, .int .i64 lf] 33 (0, 0)) := HB.out.2.1
    have hg1 : (wc.drewN nq).heap[w.heap.size + 1]? = some (.cells #[.int .i64 0, .string ⟨#[]⟩] 80 (0, 0)) := HB.out.2.2
    have hr2 : Rd (wc.drewN nq) B (some ⟨ab, ao, none⟩) (strs ((List.range N).map g)) := HH.out.2.2.1.drewN nq
    clear hcell x1 r0 r1 z0 z1 i9 i10 l9 l10 q1 q2 q3 q4
    generalize wc.drewN nq = W2 at hw2 hg0 hg1 hr2 ⊢
    have r0 := cell_of_row W2 (w.heap.size + 1) 0 _ _ _ hg1
    have r1 := cell_of_row W2 (w.heap.size + 1) 1 _ _ _ hg1
    have z0 := frozen_of_row W2 (w.heap.size + 1) 0 _ _ hg1
    have z1 := frozen_of_row W2 (w.heap.size + 1) 1 _ _ hg1
    have HW := Lib.hid (And.intro hw2 (And.intro hg0 (And.intro hg1 hr2)))
    have hdef : hdr b = if 1 ≤ seqV b ∧ seqV b ≤ 4611686018427387904 ∧ lenV b ≤ 4000 ∧ b = headL (seqV b) (lenV b) then some (seqV b, lenV b) else none := rfl
    obtain ⟨S, hS⟩ : ∃ S, S = seqV b := ⟨_, rfl⟩
    obtain ⟨Y, hY⟩ : ∃ Y, Y = lenV b := ⟨_, rfl⟩
    rw [← hS, ← hY] at hdef
    rw [← hS] at hsl
    rw [← hS, ← hY]
    clear hw2 hg0 hg1 hr2 hS hY
    have hbw : w.heap.size ≤ w.heap.size + 1 := by omega
    by_cases hbad : S < 1 ∨ 4611686018427387904 < S ∨ 4000 < Y
    · have hno : recO g at_ behind = none := recO_none (by rw [← HH.out.2.2.2.1, hdef, if_neg (fun hh => by omega)])
      have HNO := Lib.hid hno
      have hbad' : (S : Int) < 1 ∨ (¬ (S : Int) < 1 ∧ (4611686018427387904 : Int) < (S : Int)) ∨ (¬ (S : Int) < 1 ∧ ¬ (4611686018427387904 : Int) < (S : Int) ∧ (4000 : Int) < (Y : Int)) := by omega
      clear hbad hno hdef hsl
      obtain ⟨X, hX⟩ : ∃ X : Int, X = (S : Int) := ⟨_, rfl⟩
      rw [← hX] at hbad' ⊢
      clear hX
      rcases hbad' with h1 | ⟨h1, h2⟩ | ⟨h1, h2, h3⟩
      all_goals
        go_wp2
        exact bodyPost_ret (resRec (set2 HW.out.2.2.1 _ _) _ rfl) rfl ⟨by rw [HNO.out]; rfl, below_set2 HW.out.1 hbw _ _⟩
    · have hho := rHead_any S Y W2 (by omega) (by omega)
      obtain ⟨X, hX⟩ : ∃ X : Int, X = (S : Int) := ⟨_, rfl⟩
      have h1 : ¬ X < 1 := by omega
      have h2 : ¬ (4611686018427387904 : Int) < X := by omega
      have h3 : ¬ (4000 : Int) < (Y : Int) := by omega
      have HRG := Lib.hid (show 1 ≤ S ∧ S ≤ 4611686018427387904 ∧ Y ≤ 4000 by omega)
      rw [← hX] at hho ⊢
      have HHO := Lib.hid hho
      have HX := Lib.hid hX
      have HDF := Lib.hid hdef
      clear hbad hho hX hdef hsl
      by_cases hbe : b = headL S Y
      · have HHO2 := HHO.out
        rw [← hbe] at HHO2
        have HHO := Lib.hid HHO2
        have hsx : hdr b = some (S, Y) := by rw [HDF.out, if_pos ⟨HRG.out.1, HRG.out.2.1, HRG.out.2.2, hbe⟩]
        have hro : recO g at_ behind = if behind < at_ + 1 + secs Y then none else some (S, (cat g (at_ + 1) (secs Y)).take Y) := by unfold recO; rw [← HH.out.2.2.2.1, hsx]
        have hse := fun W => rsecs_any Y W (by have := HRG.out.2.2; omega)
        have hD6 : secs Y ≤ 63 := by have := HRG.out.2.2; unfold secs; omega
        have hY64 : Y ≤ 64 * secs Y := by unfold secs; omega
        obtain ⟨D, hD⟩ : ∃ D, D = secs Y := ⟨_, rfl⟩
        rw [← hD] at hro hD6 hY64
        rw [← hD] at hse
        have HSE := Lib.hid hse
        have HRO := Lib.hid hro
        have hDI : (D : Int) ≤ 63 := by omega
        clear HHO2 hbe hsx hro hse hD
        by_cases hfar : behind < at_ + 1 + D
        · have hfI : (behind : Int) < (at_ : Int) + 1 + (D : Int) := by omega
          have hno : recO g at_ behind = none := by rw [HRO.out, if_pos hfar]
          have HNO := Lib.hid hno
          clear hno hfar
          go_wp2_with (first
            | (go_at_call 39; (with_reducible refine HHO.out.mono ?_); rintro e w3 ⟨rfl, hb3⟩; have hg3 := (hb3.block (w.heap.size + 1) (heap_lt HW.out.2.2.1)).trans HW.out.2.2.1; have p0 := cell_of_row _ (w.heap.size + 1) 0 _ _ _ hg3; have p1 := cell_of_row _ (w.heap.size + 1) 1 _ _ _ hg3; have y0 := frozen_of_row _ (w.heap.size + 1) 0 _ _ hg3; have y1 := frozen_of_row _ (w.heap.size + 1) 1 _ _ hg3; have HG3 := Lib.hid hg3; clear hg3)
            | (go_at_call 37; (with_reducible refine (HSE.out _).mono ?_); rintro e w4 ⟨rfl, rfl⟩))
          exact bodyPost_ret (resRec (set2 HG3.out _ _) _ rfl) rfl ⟨by rw [HNO.out]; rfl, below_set2 (HW.out.1.trans (lower' hb3 HW.out.1.size)) hbw _ _⟩
        · have hfI : ¬ (behind : Int) < (at_ : Int) + 1 + (D : Int) := by omega
          have hyes : recO g at_ behind = some (S, (cat g (at_ + 1) D).take Y) := by rw [HRO.out, if_neg hfar]
          have HYES := Lib.hid hyes
          clear hyes
          go_upto_region 13 with (first
            | (go_at_call 39; (with_reducible refine HHO.out.mono ?_); rintro e w3 ⟨rfl, hb3⟩; have hg3 := (hb3.block (w.heap.size + 1) (heap_lt HW.out.2.2.1)).trans HW.out.2.2.1; have p0 := cell_of_row _ (w.heap.size + 1) 0 _ _ _ hg3; have p1 := cell_of_row _ (w.heap.size + 1) 1 _ _ _ hg3; have y0 := frozen_of_row _ (w.heap.size + 1) 0 _ _ hg3; have y1 := frozen_of_row _ (w.heap.size + 1) 1 _ _ hg3; have HG3 := Lib.hid hg3; clear hg3)
            | (go_at_call 37; (with_reducible refine (HSE.out _).mono ?_); rintro e w4 ⟨rfl, rfl⟩))
          have hw3 := HW.out.1.trans (lower' hb3 HW.out.1.size)
          have x1 := cell_of_row w3 w.heap.size 1 _ _ _ ((hb3.block w.heap.size (heap_lt HW.out.2.1)).trans HW.out.2.1)
          have hr3 := HW.out.2.2.2.below hb3 (Nat.le_trans hB HW.out.1.size)
          have HV := Lib.hid (And.intro hw3 hr3)
          clear hw3 hr3 HHO HRO HDF
          go_wp2
          go_loop [12, 13] (fun u i => ∃ k : Nat, k ≤ D ∧ i = .int .i64 (k : Int) ∧ u = .string ⟨(cat g (at_ + 1) k).toArray⟩) (fun _ i => D - (intOf i).toNat)
          case atStart => exact ⟨0, by omega, rfl, rfl⟩
          case round =>
            obtain ⟨k, hk, rfl, rfl⟩ := hrel
            by_cases hkD : k < D
            · have hkI : (k : Int) < (D : Int) := by omega
              have hkN : (at_ : Int) + 1 + (k : Int) < (N : Int) := by omega
              obtain ⟨ab2, ao2, e2, hab2, hc2⟩ := HV.out.2.get (k := at_ + 1 + k) (by simp [strs]; omega)
              cases e2
              have hc3 : w3.cell? ⟨ab, ao + (at_ + 1 + k), none⟩ = some (.string ⟨(g (at_ + 1 + k)).toArray⟩) := by rw [hc2]; simp [strs]
              have hns : ¬ 9223372036854775807 < (cat g (at_ + 1) k).length + (g (at_ + 1 + k)).length := by
                rw [cat_len (fun i hi => HH.out.2.1 _ (by omega)), HH.out.2.1 _ (by omega)]
                omega
              clear hc2
              go_wp2_with (go_at_call 37; (with_reducible refine (HSE.out _).mono ?_); rintro e w4 ⟨rfl, rfl⟩)
              exact ⟨⟨k + 1, hkD, by simp, by rw [ba_app, cat_succ]⟩, by simp [intOf]; omega⟩
            · obtain rfl : k = D := by omega
              have hkI : ¬ (k : Int) < (k : Int) := by omega
              have hcl : (cat g (at_ + 1) k).length = 64 * k := cat_len (fun i hi => HH.out.2.1 _ (by omega))
              have hYc : (Y : Int) ≤ ((cat g (at_ + 1) k).length : Int) := by omega
              have hex := ba_take (cat g (at_ + 1) k) Y
              clear hcl
              go_wp2_with (go_at_call 37; (with_reducible refine (HSE.out _).mono ?_); rintro e w4 ⟨rfl, rfl⟩)
              exact bodyPost_ret (resRec (set2 HG3.out _ _) _ rfl) rfl ⟨by rw [HYES.out, HX.out]; rfl, below_set2 HV.out.1 hbw _ _⟩
      · have hno : recO g at_ behind = none := recO_none (by rw [← HH.out.2.2.2.1, HDF.out, if_neg (fun hh => hbe hh.2.2.2)])
        have HNO := Lib.hid hno
        clear hno
        have hbf : ¬ (⟨b.toArray⟩ : ByteArray) = ⟨(headL S Y).toArray⟩ := by intro e; apply hbe; simpa using e
        go_wp2_with (go_at_call 39; (with_reducible refine HHO.out.mono ?_); rintro e w3 ⟨rfl, hb3⟩; have hg3 := (hb3.block (w.heap.size + 1) (heap_lt HW.out.2.2.1)).trans HW.out.2.2.1; have p0 := cell_of_row _ (w.heap.size + 1) 0 _ _ _ hg3; have p1 := cell_of_row _ (w.heap.size + 1) 1 _ _ _ hg3; have y0 := frozen_of_row _ (w.heap.size + 1) 0 _ _ hg3; have y1 := frozen_of_row _ (w.heap.size + 1) 1 _ _ hg3; have HG3 := Lib.hid hg3; clear hg3)
        exact bodyPost_ret (resRec (set2 HG3.out _ _) _ rfl) rfl ⟨by rw [HNO.out]; rfl, below_set2 (HW.out.1.trans (lower' hb3 HW.out.1.size)) hbw _ _⟩
end Go.Proofs.Ytajakmfloeefpaa
/- The document's log: Room. -/
namespace Go.Proofs.Ytajakmfloeefpaa
open Go.RowKit Go.Maps

def roomR (first count next : Nat) (r : List Rec) : Int :=
  if ((first : Int) + count - endR first r - 1) * 64 < 0 ∨ (4611686018427387904 : Int) < (next : Int) then -1 else min (((first : Int) + count - endR first r - 1) * 64) 4000
set_option maxRecDepth 100000 in
set_option maxHeartbeats 2000000 in
theorem rRoom_any (first count next : Nat) (r : List Rec) (A : Option Addr) (c B : Nat) (w : World) (hr : Rd w B A (recS r)) (hB : B ≤ w.heap.size) (hd : ∀ x ∈ r, x.2.length ≤ 4000) (he : endR first r ≤ 100000) (hc : count ≤ 4096) (hf : first ≤ 4096) (hx : next ≤ 4611686018427387905) :
    Calls Try.prog 24 #[.agg #[.int .i64 (first : Int), .int .i64 (count : Int), .slice A r.length c, .int .i64 (next : Int)]] w fun e w' => e = .returned (.int .i64 (roomR first count next r)) ∧ Below w.heap.size w w' := by
  have hb0 : Below w.heap.size w (w.alloc (.cells #[.int .i64 (first : Int), .int .i64 (count : Int), .slice A r.length c, .int .i64 (next : Int)] 42)) := (Below.refl _ _).alloc (Nat.le_refl _) _
  have hg0 := heap_alloc_new w (.cells #[.int .i64 (first : Int), .int .i64 (count : Int), .slice A r.length c, .int .i64 (next : Int)] 42)
  have hr0 := hr.below hb0 hB
  have hen := fun (W : World) (hW : Below (w.alloc (.cells #[.int .i64 (first : Int), .int .i64 (count : Int), .slice A r.length c, .int .i64 (next : Int)] 42)).heap.size (w.alloc (.cells #[.int .i64 (first : Int), .int .i64 (count : Int), .slice A r.length c, .int .i64 (next : Int)] 42)) W) => rEnd_any first (count : Int) (next : Int) r A c B W (hr0.below hW (Nat.le_trans hB hb0.size)) (Nat.le_trans (Nat.le_trans hB hb0.size) hW.size) hd he
  have HEN := Lib.hid hen
  obtain ⟨E, hE⟩ : ∃ E, E = endR first r := ⟨_, rfl⟩
  have hroom : roomR first count next r = if ((first : Int) + count - E - 1) * 64 < 0 ∨ (4611686018427387904 : Int) < (next : Int) then -1 else min (((first : Int) + count - E - 1) * 64) 4000 := by rw [hE]; rfl
  have hel := endR_le first r
  rw [← hE] at he HEN hel
  have hfe : (first : Int) ≤ (E : Int) := by omega
  have heI : (E : Int) ≤ 100000 := by omega
  have hcI : (count : Int) ≤ 4096 := by omega
  have hfI : (first : Int) ≤ 4096 := by omega
  have HH := Lib.hid (And.intro hroom hb0)
  have hxI : (next : Int) ≤ 4611686018427387905 := by omega
  clear hen hr0 hr hd he hroom hel hE
  go_enter Try.func24, Try.ntmps24
  go_upto_region 1 with (fail)
  generalize w.alloc (.cells #[.int .i64 (first : Int), .int .i64 (count : Int), .slice A r.length c, .int .i64 (next : Int)] 42) = W0 at hb0 hg0 HEN HH ⊢
  have hKS : ∀ w' : World, Below W0.heap.size W0 w' → Below W0.heap.size W0 w' ∧ w'.cell? ⟨w.heap.size, 0, none⟩ = some (.int .i64 (first : Int)) ∧ w'.cell? ⟨w.heap.size, 1, none⟩ = some (.int .i64 (count : Int)) ∧ w'.cell? ⟨w.heap.size, 2, none⟩ = some (.slice A r.length c) ∧ w'.cell? ⟨w.heap.size, 3, none⟩ = some (.int .i64 (next : Int)) := fun w' hb => by
    have hg := (hb.block w.heap.size (heap_lt hg0)).trans hg0
    exact ⟨hb, cell_of_row w' w.heap.size 0 _ _ _ hg, cell_of_row w' w.heap.size 1 _ _ _ hg, cell_of_row w' w.heap.size 2 _ _ _ hg, cell_of_row w' w.heap.size 3 _ _ _ hg⟩
  have KS := Lib.hid hKS
  clear hKS hg0 hb0
  have w1 : IntKind.i64.wrap ((first : Int) + (count : Int)) = (first : Int) + (count : Int) := IntWalk.i64_in _ (by omega)
  have w2 : IntKind.i64.wrap ((first : Int) + (count : Int) - (E : Int)) = (first : Int) + (count : Int) - (E : Int) := IntWalk.i64_in _ (by omega)
  have w3 : IntKind.i64.wrap ((first : Int) + (count : Int) - (E : Int) - 1) = (first : Int) + (count : Int) - (E : Int) - 1 := IntWalk.i64_in _ (by omega)
  have w4 : IntKind.i64.wrap (((first : Int) + (count : Int) - (E : Int) - 1) * 64) = ((first : Int) + (count : Int) - (E : Int) - 1) * 64 := IntWalk.i64_in _ (by omega)
  go_region_held3 (fun w' => Below W0.heap.size W0 w' ∧ w'.cell? ⟨w.heap.size, 0, none⟩ = some (.int .i64 (first : Int)) ∧ w'.cell? ⟨w.heap.size, 1, none⟩ = some (.int .i64 (count : Int)) ∧ w'.cell? ⟨w.heap.size, 2, none⟩ = some (.slice A r.length c) ∧ w'.cell? ⟨w.heap.size, 3, none⟩ = some (.int .i64 (next : Int)))
    (first
      | exact KS.out _ (Below.refl _ _).drew
      | exact KS.out _ hBx)
    ((go_at_call 33; obtain ⟨hBo, -, -, -, -⟩ : Below W0.heap.size W0 _ ∧ _ ∧ _ ∧ _ ∧ _ := (by assumption); (with_reducible refine (HEN.out _ hBo).mono ?_); rintro e wk ⟨rfl, hbk⟩; have hBx := hBo.trans (hbk.mono hBo.size)))
  obtain ⟨-, -, -, -, c3⟩ := KS.out wk hBx
  have hroom := HH.out.1
  obtain ⟨Z, hZ⟩ : ∃ Z : Int, Z = ((first : Int) + (count : Int) - (E : Int) - 1) * 64 := ⟨_, rfl⟩
  rw [← hZ] at hroom ⊢
  have hbw : Below w.heap.size w wk := HH.out.2.trans (lower' hBx HH.out.2.size)
  have HB := Lib.hid hbw
  clear w1 w2 w3 w4 hZ hbw hxI heI hcI hfI hfe hx hf hc hB
  by_cases h1 : Z < 0
  · rw [if_pos (.inl h1)] at hroom
    have HRM := Lib.hid hroom
    clear hroom HH
    go_wp2
    go_ret
    exact ⟨by rw [HRM.out]; rfl, HB.out⟩
  · by_cases h2 : (4611686018427387904 : Int) < (next : Int)
    · rw [if_pos (.inr h2)] at hroom
      have HRM := Lib.hid hroom
      clear hroom HH
      go_wp2
      go_ret
      exact ⟨by rw [HRM.out]; rfl, HB.out⟩
    · rw [if_neg (by omega)] at hroom
      by_cases h3 : (4000 : Int) < Z
      · have hr2 : roomR first count next r = 4000 := by rw [hroom]; omega
        have HRM := Lib.hid hr2
        clear hroom HH hr2
        go_wp2
        go_ret
        exact ⟨by rw [HRM.out]; rfl, HB.out⟩
      · have hr2 : roomR first count next r = Z := by rw [hroom]; omega
        have HRM := Lib.hid hr2
        clear hroom HH hr2
        go_wp2
        go_ret
        exact ⟨by rw [HRM.out]; rfl, HB.out⟩
end Go.Proofs.Ytajakmfloeefpaa
/- The document's log, plainly: its record against the scan; its room. -/
namespace Go.Proofs.Ytajakmfloeefpaa

theorem recO_some {g : Nat → List UInt8} {a behind s : Nat} {d : List UInt8} (hg : ∀ i, i < behind → (g i).length = 64) (h : recO g a behind = some (s, d)) :
    hdr (g a) = some (s, d.length) ∧ a + secs d.length < behind ∧ d = (cat g (a + 1) (secs d.length)).take d.length ∧ 1 ≤ s ∧ s ≤ 4611686018427387904 ∧ d.length ≤ 4000 := by
  unfold recO at h
  cases hh : hdr (g a) with
  | none => rw [hh] at h; cases h
  | some x =>
    obtain ⟨s', n⟩ := x
    rw [hh] at h
    simp only at h
    by_cases hb : behind < a + 1 + secs n
    · rw [if_pos hb] at h; cases h
    · rw [if_neg hb] at h
      injection h with h
      injection h with h1 h2
      subst h1
      have hl : d.length = n := by
        rw [← h2, List.length_take, cat_len (fun i hi => hg _ (by omega))]
        unfold secs
        omega
      rw [hl]
      obtain ⟨q1, q2, q3, _⟩ := hdr_some hh
      exact ⟨rfl, by omega, h2.symm, q1, q2, q3⟩
theorem scan_rec {g : Nat → List UInt8} {a behind s : Nat} {d : List UInt8} {nx : Option Nat} (hg : ∀ i, i < behind → (g i).length = 64) (h : recO g a behind = some (s, d)) (hn : nx = none ∨ nx = some s) :
    scan g behind a nx = (s, d) :: scan g behind (a + 1 + secs d.length) (some (s + 1)) := by
  obtain ⟨h1, h2, h3, _⟩ := recO_some hg h
  unfold scan
  obtain ⟨f, hf⟩ : ∃ f, behind - a = f + 1 := ⟨behind - a - 1, by omega⟩
  rw [hf]
  simp only [scanF]
  rw [if_pos (by omega), h1]
  simp only
  rw [if_pos ⟨hn, h2⟩, ← h3, scanF_fuel g behind f (behind - (a + 1 + secs d.length)) _ _ (by omega) (by omega)]
theorem scan_norec {g : Nat → List UInt8} {a behind : Nat} {nx : Option Nat} (h : recO g a behind = none) : scan g behind a nx = [] := by
  cases hh : hdr (g a) with
  | none => exact scan_none fun _ => hh
  | some x =>
    obtain ⟨s, n⟩ := x
    refine scan_bad hh fun hb => ?_
    unfold recO at h
    rw [hh] at h
    simp only at h
    rw [if_neg (by omega)] at h
    cases h
theorem scan_other {g : Nat → List UInt8} {a behind s : Nat} {d : List UInt8} {nx : Option Nat} (hg : ∀ i, i < behind → (g i).length = 64) (h : recO g a behind = some (s, d)) (hn : ¬ (nx = none ∨ nx = some s)) : scan g behind a nx = [] :=
  scan_bad (recO_some hg h).1 fun hb => hn hb.1
/-- The document's room is the log's. -/
theorem room_same {L : LG} (hok : L.Ok) : roomR L.first (L.behind - L.first) L.next L.recs = L.room := by
  have h1 := hok.first
  have h2 := hok.endd
  have h3 := hok.behind
  unfold roomR LG.room
  unfold LG.endd at h2 ⊢
  have h4 := endR_le L.first L.recs
  by_cases he : endR L.first L.recs = L.behind
  · rw [if_pos (.inl (by omega)), if_pos (.inl he)]
  · by_cases hn : 4611686018427387904 < L.next
    · rw [if_pos (.inr (by omega)), if_pos (.inr hn)]
    · rw [if_neg (by omega), if_neg (by omega)]
      congr 1
      omega
end Go.Proofs.Ytajakmfloeefpaa
