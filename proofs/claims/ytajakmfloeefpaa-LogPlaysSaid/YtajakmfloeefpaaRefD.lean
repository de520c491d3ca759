/- The document's disk: zero, New. -/
import Derived.Test.YtajakmfloeefpaaJnE
import Derived.Test.YtajakmfloeefpaaJnC
import Derived.Deep.RegionHeld
import Derived.Deep.RegionWith
import Derived.Deep.RegionLaw
namespace Go.Proofs.Ytajakmfloeefpaa
open Go.RowKit Go.Maps

set_option maxRecDepth 100000 in
theorem zero_any (w : World) : Calls Try.prog 27 #[] w fun e w' => e = .returned (.string ⟨zero64.toArray⟩) ∧ w' = w.alloc (.cells (u8s zero64).toArray 5) := by
  have hmk := make64 w
  have rN : Rd (w.alloc (.cells (u8s zero64).toArray 5)) (w.heap.size + 1) (some ⟨w.heap.size, 0, none⟩) (u8s zero64) := Rd.new w (u8s zero64).toArray 5 (0, 0)
  have q3 := strAt (n := 64) (c := 64) rN zero64_len.symm
  clear rN
  go_enter Try.func27, Try.ntmps27
  go_wp2
  go_ret
  exact ⟨rfl, rfl⟩
theorem resNew {w : World} {b : Nat} {v0 v1 v2 v3 v4 : Value} (h : w.heap[b]? = some (.cells #[v0, v1, v2, v3, v4] 33 (0, 0))) (tmps : Array Value) (h2 : tmps.getD 2 undef = .pointer (some ⟨b, 0, none⟩)) :
    (results Try.f6 tmps).run Try.prog w = .ok (.tuple #[.agg #[v0, v1, v2, v3, v4], tmps.getD 3 undef]) w := by
  have e0 : w.cell? ⟨b, 0, none⟩ = some v0 := cell_of_row w b 0 _ _ _ h
  have e1 : w.cell? ⟨b, 1, none⟩ = some v1 := cell_of_row w b 1 _ _ _ h
  have e2 : w.cell? ⟨b, 2, none⟩ = some v2 := cell_of_row w b 2 _ _ _ h
  have e3 : w.cell? ⟨b, 3, none⟩ = some v3 := cell_of_row w b 3 _ _ _ h
  have e4 : w.cell? ⟨b, 4, none⟩ = some v4 := cell_of_row w b 4 _ _ _ h
  have h2' := h2
  simp only [Array.getD_eq_getD_getElem?] at h2'
  simp [results, Try.results6, go_sem, h2', e0, e1, e2, e3, e4]

/-- Two rows that a disk's maker appends to, in the block b of the disk. -/
structure Mk (w0 w : World) (b : Nat) (base : Nat) (vs vn v2 v3 v4 : Value) (ns : Nat) (S : List Value) (nn : Nat) (N : List Value) : Prop where
  below : Below w0.heap.size w0 w
  blk : w.heap[b]? = some (.cells #[vs, vn, v2, v3, v4] 33)
  lt : b < base
  size : base ≤ w.heap.size
  s : w.ownsRow base 9 1 vs ns S
  n : w.ownsRow base 9 1 vn nn N
  apart : vs.ownBlock = none ∨ vs.ownBlock ≠ vn.ownBlock
  apart2 : vn.ownBlock = none ∨ vn.ownBlock ≠ vs.ownBlock
/-- Behind an append to the first. -/
theorem Mk.app0 {w0 w w1 w2 : World} {b base ns nn : Nat} {vs vn v2 v3 v4 v' : Value} {S N S' : List Value} (h : Mk w0 w b base vs vn v2 v3 v4 ns S nn N) (h1 : Below w.heap.size w w1) (hown : w2.ownsRow base 9 1 v' (ns + 1) S') (hg : w1.grownBy w2 vs.ownBlock) (ha : v'.ownBlock = vs.ownBlock ∨ v'.ownBlock = some w1.heap.size) (hw0 : w0.heap.size ≤ b) :
    Mk w0 (w2.setCell ⟨b, 0, none⟩ v') b base v' vn v2 v3 v4 (ns + 1) S' nn N ∧ ∀ k, k < base → k ≠ b → (w2.setCell ⟨b, 0, none⟩ v').heap[k]? = w.heap[k]? := by
  have hsz := h.size
  have hlt := h.lt
  have z1 := h1.size
  have z2 := hg.size
  have hvs : ∀ k, vs.ownBlock = some k → base ≤ k := fun k hk => (World.ownsRow.lt h.s k hk).1
  have hvn : ∀ k, vn.ownBlock = some k → base ≤ k ∧ k < w.heap.size := fun k hk => World.ownsRow.lt h.n k hk
  have hbk : ∀ k, k < base → w2.heap[k]? = w.heap[k]? := fun k hk => (hg.block k (by omega) (fun e => by have := hvs k e.symm; omega)).trans (h1.block k (by omega))
  have hs2 : (w2.setCell ⟨b, 0, none⟩ v').heap.size = w2.heap.size := by simp [World.setCell]
  have n2 : w2.ownsRow base 9 1 vn nn N := World.ownsRow.kept (own_below h.n h1 (Nat.le_refl _)) hg h.apart2
  refine ⟨⟨?_, heap_setCell_same w2 b 0 _ _ v' ((hbk b hlt).trans h.blk), hlt, by omega, own_keptBy hown (grown_set w2 b 0 v') hlt, own_keptBy n2 (grown_set w2 b 0 v') hlt, ?_, ?_⟩, fun k hk hkb => (Below.heap_setCell _ _ _ _ (by exact hkb)).trans (hbk k hk)⟩
  · have hwb := h.below.size
    refine ((h.below.trans (lower' h1 hwb)).trans (grown_below' hg (fun k hk => ?_) (by omega))).setCell (by exact hw0) _
    have := hvs k hk; omega
  · rcases ha with e | e
    · rw [e]; exact h.apart
    · right; rw [e]; intro e2; have := hvn _ e2.symm; omega
  · rcases ha with e | e
    · rw [e]; exact h.apart2
    · right; rw [e]; intro e2; have := hvn _ e2; omega
/-- Behind an append to the second. -/
theorem Mk.app1 {w0 w w1 w2 : World} {b base ns nn : Nat} {vs vn v2 v3 v4 v' : Value} {S N N' : List Value} (h : Mk w0 w b base vs vn v2 v3 v4 ns S nn N) (h1 : Below w.heap.size w w1) (hown : w2.ownsRow base 9 1 v' (nn + 1) N') (hg : w1.grownBy w2 vn.ownBlock) (ha : v'.ownBlock = vn.ownBlock ∨ v'.ownBlock = some w1.heap.size) (hw0 : w0.heap.size ≤ b) :
    Mk w0 (w2.setCell ⟨b, 1, none⟩ v') b base vs v' v2 v3 v4 ns S (nn + 1) N' ∧ ∀ k, k < base → k ≠ b → (w2.setCell ⟨b, 1, none⟩ v').heap[k]? = w.heap[k]? := by
  have hsz := h.size
  have hlt := h.lt
  have z1 := h1.size
  have z2 := hg.size
  have hvs : ∀ k, vs.ownBlock = some k → base ≤ k ∧ k < w.heap.size := fun k hk => World.ownsRow.lt h.s k hk
  have hvn : ∀ k, vn.ownBlock = some k → base ≤ k ∧ k < w.heap.size := fun k hk => World.ownsRow.lt h.n k hk
  have hbk : ∀ k, k < base → w2.heap[k]? = w.heap[k]? := fun k hk => (hg.block k (by omega) (fun e => by have := (hvn k e.symm).1; omega)).trans (h1.block k (by omega))
  have hs2 : (w2.setCell ⟨b, 1, none⟩ v').heap.size = w2.heap.size := by simp [World.setCell]
  have n2 : w2.ownsRow base 9 1 vs ns S := World.ownsRow.kept (own_below h.s h1 (Nat.le_refl _)) hg h.apart
  refine ⟨⟨?_, heap_setCell_same w2 b 1 _ _ v' ((hbk b hlt).trans h.blk), hlt, by omega, own_keptBy n2 (grown_set w2 b 1 v') hlt, own_keptBy hown (grown_set w2 b 1 v') hlt, ?_, ?_⟩, fun k hk hkb => (Below.heap_setCell _ _ _ _ (by exact hkb)).trans (hbk k hk)⟩
  · have hwb := h.below.size
    refine ((h.below.trans (lower' h1 hwb)).trans (grown_below' hg (fun k hk => ?_) (by omega))).setCell (by exact hw0) _
    have := (hvn k hk).1; omega
  · rcases ha with e | e
    · rw [e]; exact h.apart
    · right; rw [e]; intro e2; have := (hvs _ e2).2; omega
  · rcases ha with e | e
    · rw [e]; exact h.apart2
    · right; rw [e]; intro e2; have := (hvs _ e2.symm).2; omega
theorem strs_rep (k : Nat) : strs (List.replicate k zero64) ++ [.string ⟨zero64.toArray⟩] = strs (List.replicate (k + 1) zero64) := by
  rw [List.replicate_succ']; simp [strs]
def RD.new (n : Nat) : RD := ⟨List.replicate n zero64, List.replicate n zero64, List.replicate n false, 0, -1⟩
set_option maxRecDepth 100000 in
set_option maxHeartbeats 2000000 in
theorem rnew_any (w : World) (n : Nat) (X : List Nat) (hX : ∀ x ∈ X, x < w.heap.size) (h1 : 1 ≤ n) (h2 : n ≤ 4096) :
    Calls Try.prog 6 #[.int .i64 (n : Int)] w fun e w' => ∃ v', e = .returned (.tuple #[v', .int .i64 0]) ∧ RefV w' X (RD.new n) v' ∧ Below w.heap.size w w' := by
  have hn1 : ¬ ((n : Int) < 1) := by omega
  have hn2 : ¬ (4096 < (n : Int)) := by omega
  have hmk := makeBools n h2 (w.alloc (.cells #[.slice none 0 0, .slice none 0 0, .slice none 0 0, .int .i64 0, .int .i64 0] 33))
  have HN := Lib.hid (And.intro h1 h2)
  go_enter Try.func6, Try.ntmps6
  go_wp2_with go_in
  have m0 : Mk w (((w.alloc (.cells #[.slice none 0 0, .slice none 0 0, .slice none 0 0, .int .i64 0, .int .i64 0] 33)).alloc (.cells (bools (List.replicate n false)).toArray 4)).alloc (.cells #[.slice none 0 0, .slice none 0 0, (.slice (some ⟨w.heap.size + 1, 0, none⟩) n n), .int .i64 0, .int .i64 (-1)] 33)) (w.heap.size + 1 + 1) (w.heap.size + 3) (.slice none 0 0) (.slice none 0 0) (.slice (some ⟨w.heap.size + 1, 0, none⟩) n n) (.int .i64 0) (.int .i64 (-1)) 0 [] 0 [] :=
    ⟨(((Below.refl _ _).alloc (Nat.le_refl _) _).alloc (by simp) _).alloc (by simp; omega) _, by have := heap_alloc_new ((w.alloc (.cells #[.slice none 0 0, .slice none 0 0, .slice none 0 0, .int .i64 0, .int .i64 0] 33)).alloc (.cells (bools (List.replicate n false)).toArray 4)) (.cells #[.slice none 0 0, .slice none 0 0, (.slice (some ⟨w.heap.size + 1, 0, none⟩) n n), .int .i64 0, .int .i64 (-1)] 33); simp only [alloc1_size] at this; exact this, by omega, by simp, World.ownsRow_nil _ _ _ _, World.ownsRow_nil _ _ _ _, .inl rfl, .inl rfl⟩
  obtain ⟨g0, g1⟩ := two_new w (.cells #[.slice none 0 0, .slice none 0 0, .slice none 0 0, .int .i64 0, .int .i64 0] 33) (.cells (bools (List.replicate n false)).toArray 4)
  have d0 := (Below.heap_alloc ((w.alloc (.cells #[.slice none 0 0, .slice none 0 0, .slice none 0 0, .int .i64 0, .int .i64 0] 33)).alloc (.cells (bools (List.replicate n false)).toArray 4)) (.cells #[.slice none 0 0, .slice none 0 0, (.slice (some ⟨w.heap.size + 1, 0, none⟩) n n), .int .i64 0, .int .i64 (-1)] 33) w.heap.size (by simp; omega)).trans g0
  have d1 := (Below.heap_alloc ((w.alloc (.cells #[.slice none 0 0, .slice none 0 0, .slice none 0 0, .int .i64 0, .int .i64 0] 33)).alloc (.cells (bools (List.replicate n false)).toArray 4)) (.cells #[.slice none 0 0, .slice none 0 0, (.slice (some ⟨w.heap.size + 1, 0, none⟩) n n), .int .i64 0, .int .i64 (-1)] 33) (w.heap.size + 1) (by simp)).trans g1
  have HZ := Lib.hid (And.intro m0 (And.intro d0 d1))
  clear m0 g0 g1 d0 d1 hmk
  generalize (((w.alloc (.cells #[.slice none 0 0, .slice none 0 0, .slice none 0 0, .int .i64 0, .int .i64 0] 33)).alloc (.cells (bools (List.replicate n false)).toArray 4)).alloc (.cells #[.slice none 0 0, .slice none 0 0, (.slice (some ⟨w.heap.size + 1, 0, none⟩) n n), .int .i64 0, .int .i64 (-1)] 33)) = W at HZ ⊢
  go_loopw [5] (fun i wr => ∃ (k : Nat) (vs vn : Value), k ≤ n ∧ i = .int .i64 (k : Int) ∧ Mk w wr (w.heap.size + 1 + 1) (w.heap.size + 3) vs vn (.slice (some ⟨w.heap.size + 1, 0, none⟩) n n) (.int .i64 0) (.int .i64 (-1)) k (strs (List.replicate k zero64)) k (strs (List.replicate k zero64)) ∧ wr.heap[w.heap.size]? = some (.cells #[.slice none 0 0, .slice none 0 0, .slice none 0 0, .int .i64 0, .int .i64 0] 33) ∧ wr.heap[w.heap.size + 1]? = some (.cells (bools (List.replicate n false)).toArray 4))
    (fun i _ => n - (intOf i).toNat)
  case atStart => exact ⟨0, _, _, by omega, rfl, HZ.out.1, HZ.out.2.1, HZ.out.2.2⟩
  case round =>
    obtain ⟨k, vs, vn, hk, rfl, hm, hd0, hd1⟩ := hrel
    by_cases hkn : k < n
    · have hkI : (k : Int) < (n : Int) := by omega
      obtain ⟨As, cs, rfl, _, _, _⟩ := own_shape hm.s
      obtain ⟨An, cn, rfl, _, _, _⟩ := own_shape hm.n
      obtain ⟨i0, hi, hz0, hz1, hz2⟩ := info_parts infoStr
      have HK := Lib.hid hkn
      have hm1 := hm
      have hda1 := hd0
      have hdb1 := hd1
      clear hm hd0 hd1
      have ca := cell_of_row wr (w.heap.size + 1 + 1) 0 _ _ _ hm1.blk
      have hlta : w.heap.size + 1 + 1 < wr.heap.size := by have := hm1.lt; have := hm1.size; omega
      have hKSa : ∀ w' : World, Below wr.heap.size wr w' → w'.cell? ⟨w.heap.size + 1 + 1, 0, none⟩ = some (.slice As k cs) := fun w' h => by
        rw [← (show wr.cell? ⟨w.heap.size + 1 + 1, 0, none⟩ = some (.slice As k cs) from ca)]
        exact h.cell (p := ⟨w.heap.size + 1 + 1, 0, none⟩) hlta
      have hOa : (((wr.alloc (.cells (u8s zero64).toArray 5)).alloc (.cells #[.string ⟨zero64.toArray⟩] 9)).drew).ownsRow (w.heap.size + 3) 9 1 (.slice As k cs) k (strs (List.replicate k zero64)) := (World.ownsRow.alloc (World.ownsRow.alloc hm1.s _) _)
      have hRNa : Rd (((wr.alloc (.cells (u8s zero64).toArray 5)).alloc (.cells #[.string ⟨zero64.toArray⟩] 9)).drew) (wr.heap.size + 2) (some ⟨wr.heap.size + 1, 0, none⟩) [.string ⟨zero64.toArray⟩] := by
        have := (Rd.new (wr.alloc (.cells (u8s zero64).toArray 5)) #[.string ⟨zero64.toArray⟩] 9 (0, 0)).drew
        rw [alloc1_size] at this
        exact this
      obtain ⟨va, wa, hruna, howna, hga, haa⟩ := run_appR (P := Try.prog) (((wr.alloc (.cells (u8s zero64).toArray 5)).alloc (.cells #[.string ⟨zero64.toArray⟩] 9)).drew) (w.heap.size + 3) 30 30 9 i0 _ 1 16 Try.underlying30 hi hz0 hz1 hz2 rfl (by omega) (.slice As k cs) k (strs (List.replicate k zero64)) hOa (wr.heap.size + 2) (some ⟨wr.heap.size + 1, 0, none⟩) 1 1 [.string ⟨zero64.toArray⟩] rfl hRNa (by simp [Value.oneCell']) (by have := HN.out; have := HK.out; omega) (by omega) (by have := hm1.size; simp; omega)
      obtain ⟨ga, c5a, rfl, _, _, _, _⟩ := own_form howna (by omega)
      have hmxa := hm1.app0 (w1 := ((wr.alloc (.cells (u8s zero64).toArray 5)).alloc (.cells #[.string ⟨zero64.toArray⟩] 9)).drew) (((Below.refl _ _).alloc (Nat.le_refl _) _).alloc (by simp) _).drew howna hga haa (by omega)
      have hoba := ((hga.block (w.heap.size + 1 + 1) (by simp; omega) (by intro e; have := hm1.lt; have := (World.ownsRow.lt hm1.s _ e.symm).1; omega)).trans ((((Below.refl _ _).alloc (Nat.le_refl _) (.cells (u8s zero64).toArray 5)).alloc (by simp) (.cells #[.string ⟨zero64.toArray⟩] 9)).block (w.heap.size + 1 + 1) hlta |>.trans hm1.blk))
      have e5a := cell_of_row wa (w.heap.size + 1 + 1) 0 _ _ _ hoba
      have f5a := frozen_of_row wa (w.heap.size + 1 + 1) 0 _ _ hoba
      have HMXa := Lib.hid (And.intro hmxa (And.intro ((hmxa.2 w.heap.size (by omega) (by omega)).trans hda1) ((hmxa.2 (w.heap.size + 1) (by omega) (by omega)).trans hdb1)))
      have k0a := hKSa _ (Below.refl _ wr)
      have k1a := hKSa _ ((Below.refl _ wr).alloc (Nat.le_refl _) (.cells (u8s zero64).toArray 5))
      have k2a := hKSa _ (((Below.refl _ wr).alloc (Nat.le_refl _) (.cells (u8s zero64).toArray 5)).alloc (by simp) (.cells #[.string ⟨zero64.toArray⟩] 9))
      clear hmxa howna hga haa hoba hKSa ca hOa hRNa hm1 hda1 hdb1 hlta
      go_upto_region 7 with go_in
      go_region_law (first
          | (go_simp; go_at_call 27; (refine (zero_any _).mono ?_); rintro e wz ⟨rfl, rfl⟩; dsimp only)
          | (refine step_appK _ (by rfl) (.tmp 22) (.tmp 24) 30 rfl rfl _ _ _ _ rfl rfl hruna ?_))
      all_goals
        obtain ⟨⟨hm2, _⟩, hda2, hdb2⟩ := HMXa.out
        rw [strs_rep] at hm2
        clear k0a k1a k2a e5a f5a hruna HMXa
        generalize wa.setCell ⟨w.heap.size + 1 + 1, 0, none⟩ (.slice (some ⟨ga, 0, none⟩) (k + 1) c5a) = wr2 at hm2 hda2 hdb2 ⊢
        have cb := cell_of_row wr2 (w.heap.size + 1 + 1) 1 _ _ _ hm2.blk
        have hltb : w.heap.size + 1 + 1 < wr2.heap.size := by have := hm2.lt; have := hm2.size; omega
        have hKSb : ∀ w' : World, Below wr2.heap.size wr2 w' → w'.cell? ⟨w.heap.size + 1 + 1, 1, none⟩ = some (.slice An k cn) := fun w' h => by
          rw [← (show wr2.cell? ⟨w.heap.size + 1 + 1, 1, none⟩ = some (.slice An k cn) from cb)]
          exact h.cell (p := ⟨w.heap.size + 1 + 1, 1, none⟩) hltb
        have hOb : (((wr2.alloc (.cells (u8s zero64).toArray 5)).alloc (.cells #[.string ⟨zero64.toArray⟩] 9)).drew).ownsRow (w.heap.size + 3) 9 1 (.slice An k cn) k (strs (List.replicate k zero64)) := (World.ownsRow.alloc (World.ownsRow.alloc hm2.n _) _)
        have hRNb : Rd (((wr2.alloc (.cells (u8s zero64).toArray 5)).alloc (.cells #[.string ⟨zero64.toArray⟩] 9)).drew) (wr2.heap.size + 2) (some ⟨wr2.heap.size + 1, 0, none⟩) [.string ⟨zero64.toArray⟩] := by
          have := (Rd.new (wr2.alloc (.cells (u8s zero64).toArray 5)) #[.string ⟨zero64.toArray⟩] 9 (0, 0)).drew
          rw [alloc1_size] at this
          exact this
        obtain ⟨vb, wb, hrunb, hownb, hgb, hab⟩ := run_appR (P := Try.prog) (((wr2.alloc (.cells (u8s zero64).toArray 5)).alloc (.cells #[.string ⟨zero64.toArray⟩] 9)).drew) (w.heap.size + 3) 30 30 9 i0 _ 1 16 Try.underlying30 hi hz0 hz1 hz2 rfl (by omega) (.slice An k cn) k (strs (List.replicate k zero64)) hOb (wr2.heap.size + 2) (some ⟨wr2.heap.size + 1, 0, none⟩) 1 1 [.string ⟨zero64.toArray⟩] rfl hRNb (by simp [Value.oneCell']) (by have := HN.out; have := HK.out; omega) (by omega) (by have := hm2.size; simp; omega)
        obtain ⟨gb, c5b, rfl, _, _, _, _⟩ := own_form hownb (by omega)
        have hmxb := hm2.app1 (w1 := ((wr2.alloc (.cells (u8s zero64).toArray 5)).alloc (.cells #[.string ⟨zero64.toArray⟩] 9)).drew) (((Below.refl _ _).alloc (Nat.le_refl _) _).alloc (by simp) _).drew hownb hgb hab (by omega)
        have hobb := ((hgb.block (w.heap.size + 1 + 1) (by simp; omega) (by intro e; have := hm2.lt; have := (World.ownsRow.lt hm2.n _ e.symm).1; omega)).trans ((((Below.refl _ _).alloc (Nat.le_refl _) (.cells (u8s zero64).toArray 5)).alloc (by simp) (.cells #[.string ⟨zero64.toArray⟩] 9)).block (w.heap.size + 1 + 1) hltb |>.trans hm2.blk))
        have e5b := cell_of_row wb (w.heap.size + 1 + 1) 1 _ _ _ hobb
        have f5b := frozen_of_row wb (w.heap.size + 1 + 1) 1 _ _ hobb
        have HMXb := Lib.hid (And.intro hmxb (And.intro ((hmxb.2 w.heap.size (by omega) (by omega)).trans hda2) ((hmxb.2 (w.heap.size + 1) (by omega) (by omega)).trans hdb2)))
        have k0b := hKSb _ (Below.refl _ wr2)
        have k1b := hKSb _ ((Below.refl _ wr2).alloc (Nat.le_refl _) (.cells (u8s zero64).toArray 5))
        have k2b := hKSb _ (((Below.refl _ wr2).alloc (Nat.le_refl _) (.cells (u8s zero64).toArray 5)).alloc (by simp) (.cells #[.string ⟨zero64.toArray⟩] 9))
        clear hmxb hownb hgb hab hobb hKSb cb hOb hRNb hm2 hda2 hdb2 hltb
        go_upto_region 8 with go_in
        go_region_law (first
            | (go_simp; go_at_call 27; (refine (zero_any _).mono ?_); rintro e wz ⟨rfl, rfl⟩; dsimp only)
            | (refine step_appK _ (by rfl) (.tmp 28) (.tmp 30) 30 rfl rfl _ _ _ _ rfl rfl hrunb ?_))
        all_goals
          obtain ⟨⟨hm3, _⟩, hda3, hdb3⟩ := HMXb.out
          rw [strs_rep] at hm3
          go_wp2_with go_in
          exact ⟨⟨k + 1, _, _, HK.out, by simp, hm3, hda3, hdb3⟩, by simp [intOf]; have := HK.out; omega⟩
    · obtain rfl : k = n := by omega
      have hX2 : ∀ x ∈ w.heap.size :: X, x < w.heap.size + 3 := by
        intro x hx
        rcases List.mem_cons.1 hx with rfl | hx
        · omega
        · have := hX x hx; omega
      obtain ⟨As, cs, rfl, _, _, sA⟩ := own_sl hm.s hX2
      obtain ⟨An, cn, rfl, _, _, sN⟩ := own_sl hm.n hX2
      have k0 := cell_of_row wr (w.heap.size + 1 + 1) 0 _ _ _ hm.blk
      have k1 := cell_of_row wr (w.heap.size + 1 + 1) 1 _ _ _ hm.blk
      have k2 := cell_of_row wr (w.heap.size + 1 + 1) 2 _ _ _ hm.blk
      have k3 := cell_of_row wr (w.heap.size + 1 + 1) 3 _ _ _ hm.blk
      have k4 := cell_of_row wr (w.heap.size + 1 + 1) 4 _ _ _ hm.blk
      have z0 := cell_of_row wr (w.heap.size) 0 _ _ _ hd0
      have z1 := cell_of_row wr (w.heap.size) 1 _ _ _ hd0
      have z2 := cell_of_row wr (w.heap.size) 2 _ _ _ hd0
      have z3 := cell_of_row wr (w.heap.size) 3 _ _ _ hd0
      have z4 := cell_of_row wr (w.heap.size) 4 _ _ _ hd0
      have zf0 := frozen_of_row wr (w.heap.size) 0 _ _ hd0
      have zf1 := frozen_of_row wr (w.heap.size) 1 _ _ hd0
      have zf2 := frozen_of_row wr (w.heap.size) 2 _ _ hd0
      have zf3 := frozen_of_row wr (w.heap.size) 3 _ _ hd0
      have zf4 := frozen_of_row wr (w.heap.size) 4 _ _ hd0
      have hkI : ¬ ((k : Int) < (k : Int)) := by omega
      have HM := Lib.hid (And.intro hm (And.intro hd0 (And.intro hd1 (And.intro sA sN))))
      clear hm hd0 hd1 sA sN
      go_wp2_with go_in
      have fF : Fr wr (((((wr.setCell ⟨w.heap.size, 0, none⟩ (.slice As k cs)).setCell ⟨w.heap.size, 1, none⟩ (.slice An k cn)).setCell ⟨w.heap.size, 2, none⟩ (.slice (some ⟨w.heap.size + 1, 0, none⟩) k k)).setCell ⟨w.heap.size, 3, none⟩ (.int .i64 0)).setCell ⟨w.heap.size, 4, none⟩ (.int .i64 (-1))) [w.heap.size] := (((((Fr.refl _ _).setCell (by simp) _).setCell (by simp) _).setCell (by simp) _).setCell (by simp) _).setCell (by simp) _
      have hBf : Below w.heap.size w (((((wr.setCell ⟨w.heap.size, 0, none⟩ (.slice As k cs)).setCell ⟨w.heap.size, 1, none⟩ (.slice An k cn)).setCell ⟨w.heap.size, 2, none⟩ (.slice (some ⟨w.heap.size + 1, 0, none⟩) k k)).setCell ⟨w.heap.size, 3, none⟩ (.int .i64 0)).setCell ⟨w.heap.size, 4, none⟩ (.int .i64 (-1))) := HM.out.1.below.trans (fF.below (by have := HM.out.1.below.size; omega) (by simp))
      have sF : Sl wr (w.heap.size :: X) (some ⟨w.heap.size + 1, 0, none⟩) (bools (List.replicate k false)) := by
        refine ⟨fun hn => ⟨w.heap.size + 1, 0, rfl, heap_lt HM.out.2.2.1, fun j u hu => ?_⟩, fun a ha => by cases ha; intro hx; rcases List.mem_cons.1 hx with h | h; exact absurd h (by simp); exact absurd (hX _ h) (by show ¬ (w.heap.size + 1 < w.heap.size); omega)⟩
        rw [cell_of_row wr (w.heap.size + 1) (0 + j) _ _ _ HM.out.2.2.1]
        simpa using hu
      refine bodyPost_ret (resNew (set5 HM.out.2.1 _ _ _ _ _) _ rfl) rfl ⟨dv As An (some ⟨w.heap.size + 1, 0, none⟩) k k k cs cn k 0 (-1), rfl, ?_, hBf⟩
      exact ⟨As, An, some ⟨w.heap.size + 1, 0, none⟩, cs, cn, k, by simp [dv, RD.new], (HM.out.2.2.2.1.fr fF (by simp)).sub (fun y hy => by simp [hy]), (HM.out.2.2.2.2.fr fF (by simp)).sub (fun y hy => by simp [hy]), (sF.fr fF (by simp)).sub (fun y hy => by simp [hy])⟩
end Go.Proofs.Ytajakmfloeefpaa
