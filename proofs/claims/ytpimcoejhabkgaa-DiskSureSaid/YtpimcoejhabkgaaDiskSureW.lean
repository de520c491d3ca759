/- DiskSure: the walk. -/
import Derived.Test.YtpimcoejhabkgaaDiskSureA
import Derived.Lib.SliceRun
namespace Go.Proofs.Ytpimcoejhabkgaa
open Go.RowKit Go.Maps

/-- Bytes of two bytes that were just laid. -/
theorem bytes_two (x y : UInt8) (w : World) :
    Calls Try.prog 21 #[.slice (some ⟨w.heap.size, 0, none⟩) 2 2] (w.alloc (.cells #[.int .u8 (x.toNat : Int), .int .u8 (y.toNat : Int)] 5)) fun e w' => ∃ g, e = .returned (.slice (some ⟨g, 0, none⟩) 64 64) ∧ w.heap.size < g ∧ g < w'.heap.size ∧ Rd w' w'.heap.size (some ⟨g, 0, none⟩) (u8s (bytesL [x, y])) ∧ Below w.heap.size w w' := by
  have hs : (w.alloc (.cells #[.int .u8 (x.toNat : Int), .int .u8 (y.toNat : Int)] 5)).heap.size = w.heap.size + 1 := by simp
  have hr : Rd (w.alloc (.cells #[.int .u8 (x.toNat : Int), .int .u8 (y.toNat : Int)] 5)) (w.heap.size + 1) (some ⟨w.heap.size, 0, none⟩) (u8s [x, y]) := Rd.new w #[.int .u8 (x.toNat : Int), .int .u8 (y.toNat : Int)] 5 (0, 0)
  refine (bytesC (some ⟨w.heap.size, 0, none⟩) [x, y] 2 _ _ hr (by omega) (by simp)).mono ?_
  rintro e w' ⟨g, rfl, h1, h2, h3, h4⟩
  rw [hs] at h1 h4
  exact ⟨g, rfl, by omega, h2, h3, ((Below.refl _ w).alloc (Nat.le_refl _) _).trans (lower h4 (by omega))⟩
theorem wrap_byte (x : UInt8) : wrap64 (x.toNat : Int) = (x.toNat : Int) := by
  have := x.toNat_lt
  unfold wrap64
  omega
theorem byte_k (k : Nat) (hk : k < 6) : IntKind.u8.wrap ((k : Int) + 1) = ((UInt8.ofNat (k + 1)).toNat : Int) := by
  have : (UInt8.ofNat (k + 1)).toNat = k + 1 := by simp [UInt8.toNat_ofNat']; omega
  rw [this]
  have := @IntKind.wrap_u64
  simp [IntKind.wrap, IntKind.bits, IntKind.signed]
  omega

/-- What was written last of each sector, as a block of twelve slices. -/
def LastCells (w : World) (X : List Nat) (bl : Nat) (last : Nat → Option (List UInt8)) : Prop :=
  ∃ vs : Array Value, w.heap[bl]? = some (.cells vs 46 (0, 0)) ∧ vs.size = 12 ∧ ∀ j (h : j < vs.size), (last j = none → vs[j] = .slice none 0 0) ∧ (∀ l, last j = some l → l.length = 64 ∧ ∃ g, vs[j] = .slice (some ⟨g, 0, none⟩) 64 64 ∧ Sl w X (some ⟨g, 0, none⟩) (u8s l))
theorem LastCells.fr {w w' : World} {X S : List Nat} {bl : Nat} {last : Nat → Option (List UInt8)} (h : LastCells w X bl last) (hf : Fr w w' S) (hS : ∀ x ∈ S, x ∈ X) (hb : bl ∉ S) : LastCells w' X bl last := by
  obtain ⟨vs, hg, hs, hv⟩ := h
  refine ⟨vs, (hf.block bl (Array.getElem?_eq_some_iff.1 hg).1 hb).trans hg, hs, fun j hj => ⟨(hv j hj).1, fun l hl => ?_⟩⟩
  obtain ⟨h1, g, h2, h3⟩ := (hv j hj).2 l hl
  exact ⟨h1, g, h2, h3.fr hf hS⟩
theorem LastCells.below {w w' : World} {X : List Nat} {bl : Nat} {last : Nat → Option (List UInt8)} (h : LastCells w X bl last) (hb : Below w.heap.size w w') : LastCells w' X bl last :=
  h.fr (Fr.of_below hb []) (by simp) (by simp)
theorem LastCells.set {w : World} {X : List Nat} {bl i g : Nat} {l : List UInt8} {last : Nat → Option (List UInt8)} (h : LastCells w X bl last) (hbl : bl ∈ X) (hl : l.length = 64) (hs : Sl w X (some ⟨g, 0, none⟩) (u8s l)) :
    LastCells (w.setCell ⟨bl, i, none⟩ (.slice (some ⟨g, 0, none⟩) 64 64)) X bl (setAt last i l) := by
  obtain ⟨vs, hg, hz, hv⟩ := h
  have hf : Fr w (w.setCell ⟨bl, i, none⟩ (.slice (some ⟨g, 0, none⟩) 64 64)) [bl] := (Fr.refl _ _).setCell (by simp) _
  refine ⟨_, heap_setCell_same w bl i vs _ _ hg, by simpa using hz, fun j hj => ?_⟩
  have hj' : j < vs.size := by simpa using hj
  unfold setAt
  rw [Array.getElem_setIfInBounds hj']
  by_cases e : j = i
  · subst e
    refine ⟨fun h => by simp at h, fun l' hl' => ?_⟩
    have : l = l' := by simpa using hl'
    subst this
    exact ⟨hl, g, by simp, hs.fr hf (by simp [hbl])⟩
  · rw [if_neg e, if_neg fun h => e h.symm]
    refine ⟨(hv j hj').1, fun l hl => ?_⟩
    obtain ⟨h1, g, h2, h3⟩ := (hv j hj').2 l hl
    exact ⟨h1, g, h2, h3.fr hf (by simp [hbl])⟩

theorem LastCells.cell {w : World} {X : List Nat} {bl : Nat} {last : Nat → Option (List UInt8)} (h : LastCells w X bl last) {j : Nat} (hj : j < 12) : ∃ v, w.cell? ⟨bl, j, none⟩ = some v ∧ w.frozen? ⟨bl, j, none⟩ = false := by
  obtain ⟨vs, hg, hz, hv⟩ := h
  refine ⟨vs[j], ?_, frozen_of_row w bl j _ _ hg⟩
  rw [cell_of_row w bl j _ _ _ hg, Array.getElem?_eq_getElem (by omega)]
theorem LastCells.new {w : World} {X : List Nat} : LastCells (w.alloc (.cells #[.slice none 0 0, .slice none 0 0, .slice none 0 0, .slice none 0 0, .slice none 0 0, .slice none 0 0, .slice none 0 0, .slice none 0 0, .slice none 0 0, .slice none 0 0, .slice none 0 0, .slice none 0 0] 46)) X w.heap.size (fun _ => none) := by
  refine ⟨_, heap_alloc_new w _, rfl, fun j hj => ⟨fun _ => ?_, fun l hl => by cases hl⟩⟩
  have hj' : j < 12 := hj
  match j, hj' with
  | 0, _ | 1, _ | 2, _ | 3, _ | 4, _ | 5, _ | 6, _ | 7, _ | 8, _ | 9, _ | 10, _ | 11, _ => rfl

theorem bytes_two' (x y : UInt8) (w : World) {n : Nat} (hn : w.heap.size = n) :
    Calls Try.prog 21 #[.slice (some ⟨n, 0, none⟩) 2 2] (w.alloc (.cells #[.int .u8 (x.toNat : Int), .int .u8 (y.toNat : Int)] 5)) fun e w' => ∃ g, e = .returned (.slice (some ⟨g, 0, none⟩) 64 64) ∧ n < g ∧ g < w'.heap.size ∧ Rd w' w'.heap.size (some ⟨g, 0, none⟩) (u8s (bytesL [x, y])) ∧ Below n w w' := by
  subst hn
  exact bytes_two x y w
theorem not_nil (g n c : Nat) (w : World) : (binOp BinOp.eql 36 (.slice (some ⟨g, 0, none⟩) n c) (.slice none 0 0)).run Try.prog w = .ok (.bool false) w := Lib.run_eql_slice_nil w _ _ (some ⟨g, 0, none⟩) n c 0 0 Try.underlying36
theorem Below.drewN' {B : Nat} {a b : World} (h : Below B a b) (n : Nat) : Below B a (b.drewN n) := ⟨h.os, h.tape, h.output, h.size, h.block⟩
theorem rd_drop {w : World} {B g k : Nat} {l : List UInt8} (h : Rd w B (some ⟨g, 0, none⟩) (u8s l)) : Rd w B (some ⟨g, k, none⟩) (u8s (l.drop k)) := by
  intro hn
  have h0 : u8s l ≠ [] := by rintro e; apply hn; have := congrArg List.length e; rw [u8s_len] at this; have h2 : l = [] := List.eq_nil_of_length_eq_zero this; rw [h2]; simp [u8s]
  obtain ⟨b, o, e, hb, hc⟩ := h h0
  cases e
  refine ⟨g, k, rfl, hb, fun j u hu => ?_⟩
  have := hc (k + j) u (by rw [← hu]; simp [u8s, List.getElem?_drop])
  rw [Nat.zero_add] at this
  exact this
theorem beq_bytes {a b : List UInt8} (h : a ≠ b) : (a == b) = false := beq_eq_false_iff_ne.2 h


set_option maxRecDepth 100000 in
set_option maxHeartbeats 4000000 in
theorem diskSure_walk (A : Option Addr) (rows : List RowB) (c : Nat) (A2 : Option Addr) (keep : List Bool) (c2 : Nat) (n0 n1 : Int) (w : World) (hr : Rd w w.heap.size A (rows.map RowB.v)) (hrows : ∀ r ∈ rows, r.ok w w.heap.size) (hr2 : Rd w w.heap.size A2 (keep.map Value.bool)) :
    Calls Try.prog 4 #[.slice A rows.length c, .slice A2 keep.length c2, .agg #[.int .i64 n0, .int .i64 n1]] w fun e w' => e = .returned (.bool true) ∧ Below w.heap.size w w' := by
  have hB0 : Below w.heap.size w (w.alloc (.cells #[.int .i64 n0, .int .i64 n1] 42)) := (Below.refl _ _).alloc (Nat.le_refl _) _
  have g5 : (w.alloc (.cells #[.int .i64 n0, .int .i64 n1] 42)).heap[w.heap.size]? = some (.cells #[.int .i64 n0, .int .i64 n1] 42) := heap_alloc_new w _
  have s0 : (w.alloc (.cells #[.int .i64 n0, .int .i64 n1] 42)).heap.size = w.heap.size + 1 := by simp
  have H1 := Lib.hid (fun W => awake_any W)
  have HR := Lib.hid hr
  have HR2 := Lib.hid hr2
  have HS := Lib.hid hrows
  have HB0 := Lib.hid (And.intro hB0 (And.intro g5 s0))
  clear hr hr2 hrows hB0 g5 s0
  go_enter Try.func4, Try.ntmps4
  go_upto_region 1 with go_in
  generalize w.alloc (.cells #[.int .i64 n0, .int .i64 n1] 42) = W0 at HB0 ⊢
  go_upto_region 6 with (first
    | (go_at_call 15; (refine (H1.out W0).mono ?_); rintro e w1 ⟨rfl, hb1⟩)
    | (go_at_call 16; (refine (newM 12 w1 (by omega) (by omega)).mono ?_); rintro e w2 ⟨rfl, hD, hF⟩)
    | go_in)
  have z1 := hb1.size
  have lD := hD.lt
  have hW : Below W0.heap.size W0 w2 := hb1.trans (hF.lower z1 (by simp))
  have HZ := Lib.hid (And.intro hW (And.intro hD z1))
  clear hW hb1 hF z1 lD hD
  go_wp2_with go_in
  go_loopw [9] (fun i wr => ∃ (k : Nat) (M : DM), k ≤ 6 ∧ i = .int .i64 (k : Int) ∧ FillAt M k ∧ DiskM wr (w1.heap.size + 2) w1.heap.size (w1.heap.size + 1) M k ∧ Below W0.heap.size W0 wr)
    (fun i _ => 6 - (intOf i).toNat)
  case atStart => exact ⟨0, _, by omega, rfl, FillAt.new, HZ.out.2.1, HZ.out.1⟩
  case round =>
    obtain ⟨k, M, hk, rfl, hf, hD, hb⟩ := hrel
    by_cases hk6 : k < 6
    · have hkI : (k : Int) < 6 := by omega
      have hby := byte_k k hk6
      have hwr := hf.write hk6
      have hcw := fun (w3 : World) (g : Nat) (hg : g ≠ w1.heap.size + 2) (h : DiskM w3 (w1.heap.size + 2) w1.heap.size (w1.heap.size + 1) M k) (hr : Rd w3 w3.heap.size (some ⟨g, 0, none⟩) (u8s (baseB k))) => writeC h (hf.ok (T := k) hk (by omega)) (k : Int) g (baseB k) (bytesL_len _) _ hr hg
      rw [hwr.1] at hcw
      have HCW := Lib.hid hcw
      have HX := Lib.hid (And.intro hD (And.intro hb hwr.2))
      have hk2 : ¬ ((k : Int) + 1 < 0) := by omega
      clear hcw hwr hf hD hb
      go_wp2_with (first
        | (go_at_call 21; (refine (bytes_two (UInt8.ofNat (k + 1)) 7 wr).mono ?_); rintro e w3 ⟨g, rfl, hg1, hg2, hr3, hb3⟩)
        | (go_at_call 20; (refine (HCW.out w3 g (by have := HX.out.1.lt; omega) (HX.out.1.kept hb3) hr3).mono ?_); rintro e w4 ⟨rfl, hD4, hF4⟩)
        | go_in)
      have y0 := HX.out.2.1.size
      have y3 := hb3.size
      have yw := HZ.out.2.2
      exact ⟨⟨k + 1, _, hk6, by simp, HX.out.2.2, hD4, HX.out.2.1.trans ((lower hb3 y0).trans (hF4.lower (by omega) (by simp; omega)))⟩, by simp [intOf]; omega⟩
    · obtain rfl : k = 6 := by omega
      have hfl := hf.flush
      have hcf := flushM hD (hf.ok (T := 6) (by omega) (by omega))
      rw [hfl.1] at hcf
      have HFL := Lib.hid hcf
      have HX := Lib.hid (And.intro hfl.2 hb)
      clear hfl hcf hf hD hb
      go_upto_region 14 with (first
        | (go_at_call 22; (refine HFL.out.mono ?_); rintro e w3 ⟨rfl, hD3, hF3⟩)
        | go_in)
      have lD3 := hD3.lt
      have yw := HZ.out.2.2
      have hb3 : Below W0.heap.size W0 w3 := HX.out.2.trans (hF3.lower HX.out.2.size (by simp; omega))
      have hb4 : Below w3.heap.size w3 (w3.alloc (.cells #[.slice none 0 0, .slice none 0 0, .slice none 0 0, .slice none 0 0, .slice none 0 0, .slice none 0 0, .slice none 0 0, .slice none 0 0, .slice none 0 0, .slice none 0 0, .slice none 0 0, .slice none 0 0] 46)) := (Below.refl _ _).alloc (Nat.le_refl _) _
      have hL4 := LastCells.new (w := w3) (X := [w1.heap.size + 2, w1.heap.size, w1.heap.size + 1, w3.heap.size])
      have HY := Lib.hid (And.intro (hD3.kept hb4) (And.intro (hb3.trans (lower hb4 hb3.size)) (And.intro hL4 lD3)))
      clear hb3 hb4 hL4 hD3 hF3
      generalize w3.alloc (.cells #[.slice none 0 0, .slice none 0 0, .slice none 0 0, .slice none 0 0, .slice none 0 0, .slice none 0 0, .slice none 0 0, .slice none 0 0, .slice none 0 0, .slice none 0 0, .slice none 0 0, .slice none 0 0] 46) = W4 at HY ⊢
      obtain ⟨bl, hbl⟩ : ∃ bl, bl = w3.heap.size := ⟨_, rfl⟩
      rw [← hbl] at HY ⊢
      have HBL := Lib.hid hbl
      clear hbl lD3
      go_wp2_with go_in
      go_loopw [11, 12, 13] (fun i _ _ wr => ∃ (k : Nat) (last : Nat → Option (List UInt8)) (M : DM), k ≤ rows.length ∧ k ≤ 30 ∧ i = .int .i64 (k : Int) ∧ SureAt M last (7 + k) ∧ DiskM wr (w1.heap.size + 2) w1.heap.size (w1.heap.size + 1) M (6 + k) ∧ LastCells wr [w1.heap.size + 2, w1.heap.size, w1.heap.size + 1, bl] bl last ∧ Below W0.heap.size W0 wr ∧ bl < wr.heap.size)
        (fun i _ _ _ => rows.length - (intOf i).toNat)
      case atStart => exact ⟨0, _, _, by omega, by omega, rfl, HX.out.1, HY.out.1, HY.out.2.2.1, HY.out.2.1, by obtain ⟨vs, hg, _⟩ := HY.out.2.2.1; exact (Array.getElem?_eq_some_iff.1 hg).1⟩
      case round =>
        obtain ⟨k, last, M, hk, hk30, rfl, hs, hD, hL, hb, hlt⟩ := hrel
        by_cases hkl : k < rows.length
        · by_cases hk3 : k < 30
          · have hkI : (k : Int) < (rows.length : Int) := by omega
            have hkJ : (k : Int) < 30 := by omega
            obtain ⟨r, hre⟩ : ∃ r, r = rows[k] := ⟨_, rfl⟩
            have hro : r.ok w w.heap.size := by rw [hre]; exact HS.out _ (List.getElem_mem hkl)
            have hB : Below w.heap.size w wr := HB0.out.1.trans (lower hb HB0.out.1.size)
            obtain ⟨ab, ao, rfl, hab, hcell⟩ := HR.out.get (k := k) (by simpa using hkl)
            have hrow : wr.cell? ⟨ab, ao + k, none⟩ = some (.slice r.A r.l.length r.c) := by
              have h := hcell
              simp only [List.getElem_map, ← hre] at h
              rw [show (Value.slice r.A r.l.length r.c) = r.v from rfl, ← h]
              exact hB.cell (p := ⟨ab, ao + k, none⟩) hab
            clear hre hcell
            obtain ⟨rA, rl, rc⟩ := r
            by_cases hl0 : rl.length = 0
            · obtain rfl : rl = [] := List.eq_nil_of_length_eq_zero hl0
              have HX2 := Lib.hid (And.intro (hs.mono (k' := 7 + (k + 1)) (by omega)) (And.intro (hD.mono (T' := 6 + (k + 1)) (by omega)) (And.intro hL (And.intro hb hlt))))
              clear hs hD hL hb hB hro hl0
              go_wp2_with go_in
              exact ⟨⟨k + 1, last, M, hkl, hk3, by simp, HX2.out.1, HX2.out.2.1, HX2.out.2.2.1, HX2.out.2.2.2.1, HX2.out.2.2.2.2⟩, by simp [intOf]; omega⟩
            · obtain ⟨xb, xo, rfl, hxb, hxc⟩ := hro.1.get (k := 0) (by rw [u8s_len]; show 0 < rl.length; omega)
              have hx0 : wr.cell? ⟨xb, xo, none⟩ = some (.int .u8 ((rl[0]'(by omega)).toNat : Int)) := by
                have h := hxc
                rw [u8s_get _ _ (show 0 < rl.length by omega), Nat.add_zero] at h
                rw [← h]
                exact hB.cell (p := ⟨xb, xo, none⟩) hxb
              obtain ⟨x, hx⟩ : ∃ x, x = rl[0]'(by omega) := ⟨_, rfl⟩
              rw [← hx] at hx0
              have hwx := wrap_byte x
              have hmod : ((x.toNat : Int)).tmod 12 = ((x.toNat % 12 : Nat) : Int) := rfl
              have hm12 : x.toNat % 12 < 12 := Nat.mod_lt _ (by omega)
              obtain ⟨m, hm⟩ : ∃ m, m = x.toNat % 12 := ⟨_, rfl⟩
              rw [← hm] at hmod hm12
              have hmI : (m : Int) < 12 := by omega
              have hlI : ¬ ((rl.length : Int) = 0) := by omega
              have hlP : 0 < (rl.length : Int) := by omega
              have hwr := hs.write hm12 (bytesL_len rl)
              have hcw := fun (w3 : World) (g : Nat) (hg : g ≠ w1.heap.size + 2) (h : DiskM w3 (w1.heap.size + 2) w1.heap.size (w1.heap.size + 1) M (6 + k)) (hr : Rd w3 w3.heap.size (some ⟨g, 0, none⟩) (u8s (bytesL rl))) => writeC h (hs.ok (T := 6 + k) (by omega) (by omega)) (m : Int) g (bytesL rl) (bytesL_len _) _ hr hg
              rw [hwr.1] at hcw
              have HBC := Lib.hid (bytesC (some ⟨xb, xo, none⟩) rl rc w.heap.size wr (hro.1.below hB (Nat.le_refl _)) hB.size (by have h1 : rl.length ≤ rc := hro.2.1; have h2 : rc ≤ 140737488351232 := hro.2.2; omega))
              have HCW := Lib.hid hcw
              have HX2 := Lib.hid (And.intro hwr.2 (And.intro hD (And.intro hL (And.intro hb hlt))))
              have HM := Lib.hid hm12
              clear hcw hwr hs hD hL hb hB hro hl0 hxc hx hm hm12 hlt hab hxb
              go_wp2_with (first
                | (go_at_call 21; (with_reducible refine HBC.out.mono ?_); rintro e w5 ⟨g, rfl, hg1, hg2, hr5, hb5⟩; have hL5 := HX2.out.2.2.1.below hb5; obtain ⟨v5, hv5, hf5⟩ := hL5.cell HM.out; have hgt : w1.heap.size + 2 < g ∧ bl < g := ⟨(by have := HX2.out.2.1.lt; omega), (by have := HX2.out.2.2.2.2; omega)⟩; have hS5 : Sl w5 [w1.heap.size + 2, w1.heap.size, w1.heap.size + 1, bl] (some ⟨g, 0, none⟩) (u8s (bytesL rl)) := ⟨hr5, fun a ha => by cases ha; simp; omega⟩; have hfs : Fr w5 (w5.setCell ⟨bl, m, none⟩ (.slice (some ⟨g, 0, none⟩) 64 64)) [bl] := (Fr.refl _ _).setCell (by simp) _; have hD6 := (HX2.out.2.1.kept hb5).fr hfs (by have := HBL.out; have := HY.out.2.2.2; simp; omega) (by have := HBL.out; have := HY.out.2.2.2; simp; omega) (by have := HBL.out; have := HY.out.2.2.2; simp; omega); have hL6 := hL5.set (i := m) (by simp) (bytesL_len rl) hS5; have hS6 := hS5.fr hfs (by simp))
                | (go_at_call 20; (refine (HCW.out _ g (by omega) hD6 hS6.1).mono ?_); rintro e w7 ⟨rfl, hD7, hF7⟩)
                | go_in)
              have y0 := HX2.out.2.2.2.1.size
              have y5 := hb5.size
              have yw := HZ.out.2.2
              have ybl := HBL.out
              have yly := HY.out.2.2.2
              have f7 : Fr w5 w7 [w1.heap.size + 2, w1.heap.size + 1, bl] := (hfs.mono (by simp)).trans (hF7.mono (by simp))
              have yz := f7.size
              exact ⟨⟨k + 1, _, _, hkl, hk3, by simp, HX2.out.1.mono (by omega), hD7.mono (by omega), hL6.fr hF7 (by simp) (by simp; omega), HX2.out.2.2.2.1.trans ((lower hb5 y0).trans (f7.lower (by omega) (by simp; omega))), by have := HX2.out.2.2.2.2; omega⟩, by simp [intOf]; omega⟩
          · obtain rfl : k = 30 := by omega
            have hkI : ((30 : Nat) : Int) < (rows.length : Int) := by omega
            have hT : 6 + 30 ≤ 1000000000 := by omega
            have HT := Lib.hid hT
            have hB : Below w.heap.size w wr := HB0.out.1.trans (lower hb HB0.out.1.size)
            have g5 := (hb.block w.heap.size (by rw [HB0.out.2.2]; omega)).trans HB0.out.2.1
            have a0 := cell_of_row wr w.heap.size 0 _ _ _ g5
            have a1 := cell_of_row wr w.heap.size 1 _ _ _ g5
            have HX3 := Lib.hid (And.intro hs (And.intro hD (And.intro hL (And.intro hb (And.intro hlt hB)))))
            clear hs hD hL hb hlt hB g5 hT
            go_upto_region 27 with (first
              | (go_at_call 23; (refine (crashM HX3.out.2.1 HT.out A2 c2 keep n0 n1 ((HR2.out.below HX3.out.2.2.2.2.2 (Nat.le_refl _)).more HX3.out.2.2.2.2.2.size)).mono ?_); rintro e w8 ⟨p', bs', bw', rfl, hp', hbs', hbw', hD8, hb8⟩)
              | go_in)
            have hL8 := HX3.out.2.2.1.below hb8
            have hB8 : Below w.heap.size w w8 := HX3.out.2.2.2.2.2.trans (lower hb8 HX3.out.2.2.2.2.2.size)
            obtain ⟨hc1, hc2, hc3⟩ := crashed_facts M keep n0 n1
            have hcr := HX3.out.1.crashed keep n0 n1
            rw [HX3.out.1.size] at hc1
            generalize M.crashed keep n0 n1 = Mc at hD8 hc1 hc2 hc3 hcr
            have HX4 := Lib.hid (And.intro hD8 (And.intro hL8 (And.intro hB8 (And.intro hc1 (And.intro hc2 (And.intro hc3 hcr))))))
            clear hD8 hL8 hB8 hc1 hc2 hc3 hcr hb8 a0 a1 HX3
            go_wp2_with go_in
            go_loopw [15, 16, 17, 18, 19, 20] (fun wh i _ _ _ _ wr => ∃ (j n : Nat), j ≤ 12 ∧ i = .int .i64 (j : Int) ∧ wh = .int .i64 (n : Int) ∧ n ≤ j ∧ Below w8.heap.size w8 wr)
              (fun _ i _ _ _ _ _ => 12 - (intOf i).toNat)
            case atStart => exact ⟨0, 0, by omega, rfl, rfl, by omega, Below.refl _ _⟩
            case round =>
              obtain ⟨j, n, hj, rfl, rfl, hn, hb⟩ := hrel
              by_cases hj12 : j < 12
              · have hjI : (j : Int) < 12 := by omega
                have HBb := Lib.hid hb
                clear hb
                by_cases hj6 : j < 6
                · have hj6I : (j : Int) < 6 := by omega
                  have hby := byte_k j hj6
                  have hmk := make64 wr
                  have hk2 : ¬ ((j : Int) + 1 < 0) := by omega
                  have HB2 := Lib.hid (bytes_two' (UInt8.ofNat (j + 1)) 7 (wr.alloc (.cells (u8s zero64).toArray 5)) (alloc1_size _ _))
                  go_upto_region 33 with (first
                    | (go_at_call 21; (refine HB2.out.mono ?_); rintro e w9 ⟨gw, rfl, hg1, hg2, hr9, hb9⟩)
                    | go_in)
                  have sW : Rd w9 w9.heap.size (some ⟨gw, 0, none⟩) (u8s (baseS j)) := by
                    unfold baseS; rw [if_pos hj6]; exact hr9
                  have bW : Below w8.heap.size w8 w9 := HBb.out.trans (lower (((Below.refl _ wr).alloc (Nat.le_refl _) _).trans (lower hb9 (by omega))) HBb.out.size)
                  clear hmk hby hr9 hb9 hg1 hg2 hk2 HB2
                  have HW := Lib.hid (And.intro sW bW)
                  have hz12 : Mc.size ≤ 4096 := by rw [HX4.out.2.2.2.1]; omega
                  have hzj : j < Mc.size := by rw [HX4.out.2.2.2.1]; omega
                  have HRD := Lib.hid (readC (HX4.out.1.kept bW) hz12 hzj)
                  clear sW bW hz12 hzj
                  by_cases heq : Mc.get j = baseS j
                  · rw [heq] at HRD
                    go_wp2_with (first
                      | (go_at_call 24; (with_reducible refine HRD.out.mono ?_); rintro e w10 ⟨gb, rfl, hgb1, hgb2, hrb, hlb, hb10⟩; have q1 := strAt (n := 64) (c := 64) hrb (baseS_len j).symm; have q2 := strAt (n := 64) (c := 64) (HW.out.1.below hb10 (Nat.le_refl _)) (baseS_len j).symm)
                      | go_in)
                    exact ⟨⟨j + 1, n, hj12, by simp, rfl, by omega, HW.out.2.trans (lower hb10 HW.out.2.size)⟩, by simp [intOf]; omega⟩
                  · obtain ⟨l, hl⟩ : ∃ l, last j = some l := by
                      cases hlj : last j with
                      | none => exact absurd ((HX4.out.2.2.2.2.2.2 j).1 hlj) heq
                      | some l => exact ⟨l, rfl⟩
                    obtain ⟨nn, hnn⟩ := (HX4.out.2.2.2.2.2.2 j).2 l hl
                    obtain ⟨vs, hvg, hvz, hvv⟩ := HX4.out.2.1
                    obtain ⟨hll, gl, hvj, hsl⟩ := (hvv j (by omega)).2 l hl
                    have hvl : w8.cell? ⟨bl, j, none⟩ = some (.slice (some ⟨gl, 0, none⟩) 64 64) := by
                      rw [cell_of_row w8 bl j _ _ _ hvg, Array.getElem?_eq_getElem (by omega), hvj]
                    have hblt : bl < w8.heap.size := (Array.getElem?_eq_some_iff.1 hvg).1
                    have HL := Lib.hid (And.intro hll (And.intro hsl (And.intro hvl (And.intro hblt hnn))))
                    clear hvg hvz hvv hvj hll hsl hvl hblt hnn hl
                    have hne := beq_bytes heq
                    have HNE := Lib.hid heq
                    clear heq
                    by_cases heq2 : Mc.get j = l
                    · rw [heq2] at HRD hne
                      go_upto_region 39 with (first
                        | (go_at_call 24; (with_reducible refine HRD.out.mono ?_); rintro e w10 ⟨gb, rfl, hgb1, hgb2, hrb, hlb, hb10⟩; have q1 := strAt (n := 64) (c := 64) hrb HL.out.1.symm; have q2 := strAt (n := 64) (c := 64) (HW.out.1.below hb10 (Nat.le_refl _)) (baseS_len j).symm; have b810 : Below w8.heap.size w8 w10 := HW.out.2.trans (lower hb10 HW.out.2.size); have nn10 := not_nil gl 64 64 w10; have cl : w10.cell? ⟨bl, j, none⟩ = some (.slice (some ⟨gl, 0, none⟩) 64 64) := (by rw [← HL.out.2.2.1]; exact b810.cell (p := ⟨bl, j, none⟩) HL.out.2.2.2.1))
                        | go_in)
                      have q3 := fun n => strAt (n := 64) (c := 64) (hrb.drewN n) HL.out.1.symm
                      have q4 := fun n => strAt (n := 64) (c := 64) ((HL.out.2.1.below b810).1.drewN n) HL.out.1.symm
                      have HB10 := Lib.hid b810
                      clear b810 hrb hb10 q1 q2
                      go_quiet (fail)
                      go_wp2_with go_in
                      exact ⟨⟨j + 1, n + 1, hj12, by simp, by simp, by omega, Below.drewN' HB10.out _⟩, by simp [intOf]; omega⟩
                    · have hne2 := beq_bytes heq2
                      have hlb' : (Mc.get j).length = 64 := by
                        rw [HL.out.2.2.2.2]; simp [HL.out.1, baseS_len]; omega
                      obtain ⟨bb, hbb⟩ : ∃ bb, bb = Mc.get j := ⟨_, rfl⟩
                      rw [← hbb] at HRD hne hne2 hlb'
                      have HBB := Lib.hid (And.intro hbb hlb')
                      clear hbb hlb' heq2
                      go_upto_region 39 with (first
                        | (go_at_call 24; (with_reducible refine HRD.out.mono ?_); rintro e w10 ⟨gb, rfl, hgb1, hgb2, hrb, hlb, hb10⟩; have q1 := strAt (n := 64) (c := 64) hrb HBB.out.2.symm; have q2 := strAt (n := 64) (c := 64) (HW.out.1.below hb10 (Nat.le_refl _)) (baseS_len j).symm; have b810 : Below w8.heap.size w8 w10 := HW.out.2.trans (lower hb10 HW.out.2.size); have nn10 := not_nil gl 64 64 w10; have cl : w10.cell? ⟨bl, j, none⟩ = some (.slice (some ⟨gl, 0, none⟩) 64 64) := (by rw [← HL.out.2.2.1]; exact b810.cell (p := ⟨bl, j, none⟩) HL.out.2.2.2.1))
                        | go_in)
                      have q3 := fun n => strAt (n := 64) (c := 64) (hrb.drewN n) HBB.out.2.symm
                      have q4 := fun n => strAt (n := 64) (c := 64) ((HL.out.2.1.below b810).1.drewN n) HL.out.1.symm
                      have HB10 := Lib.hid (And.intro b810 (And.intro hrb hb10))
                      clear b810 hrb hb10 q1 q2
                      go_quiet (fail)
                      go_wp2_with go_in
                      have b11 := Below.drewN' HB10.out.1 nq
                      have rb11 : Rd (w10.drewN nq) (w10.drewN nq).heap.size (some ⟨gb, 0, none⟩) (u8s bb) := HB10.out.2.1.drewN nq
                      have rw11 := (HW.out.1.below HB10.out.2.2 (Nat.le_refl _)).drewN nq
                      have rl11 : Rd (w10.drewN nq) (w10.drewN nq).heap.size (some ⟨gl, 0, none⟩) (u8s l) := (HL.out.2.1.below HB10.out.1).1.drewN nq
                      have cl11 : (w10.drewN nq).cell? ⟨bl, j, none⟩ = some (.slice (some ⟨gl, 0, none⟩) 64 64) := cl
                      have zw : w9.heap.size ≤ (w10.drewN nq).heap.size := HB10.out.2.2.size
                      have H11 := Lib.hid (And.intro b11 (And.intro rb11 (And.intro rw11 (And.intro rl11 (And.intro cl11 zw)))))
                      clear b11 rb11 rw11 rl11 cl11 zw cl nn10 q3 q4 hne hne2
                      generalize w10.drewN nq = w11 at H11 ⊢
                      go_loopw [20] (fun v wr => ∃ kk : Nat, kk ≤ 64 ∧ v = .int .i64 (kk : Int) ∧ Below w11.heap.size w11 wr) (fun v _ => 64 - (intOf v).toNat)
                      case atStart => exact ⟨0, by omega, rfl, Below.refl _ _⟩
                      case round =>
                        obtain ⟨kk, hkk, rfl, hb5⟩ := hrel
                        have hkkI : (kk : Int) ≤ 64 := by omega
                        by_cases hk64 : kk < 64
                        · have hkkJ : (kk : Int) < 64 := by omega
                          obtain ⟨x, hx⟩ : ∃ x, bb[kk]? = some x := ⟨_, List.getElem?_eq_getElem (by rw [HBB.out.2]; exact hk64)⟩
                          obtain ⟨y, hy⟩ : ∃ y, l[kk]? = some y := ⟨_, List.getElem?_eq_getElem (by rw [HL.out.1]; exact hk64)⟩
                          have cb := rd_cell (H11.out.2.1.below hb5 (Nat.le_refl _)) hx
                          have cy := rd_cell (H11.out.2.2.2.1.below hb5 (Nat.le_refl _)) hy
                          have c5 : wr.cell? ⟨bl, j, none⟩ = some (.slice (some ⟨gl, 0, none⟩) 64 64) := by rw [← H11.out.2.2.2.2.1]; exact hb5.cell (p := ⟨bl, j, none⟩) (by have := H11.out.1.size; have := HL.out.2.2.2.1; show bl < _; omega)
                          have HB5 := Lib.hid hb5
                          clear hb5
                          by_cases hxy : x = y
                          · rw [← hxy] at cy
                            have hx256 : (x.toNat : Int) < 256 := by have := x.toNat_lt; omega
                            clear hx hy hxy
                            go_upto_region 42 with go_in
                            go_quiet (fail)
                            go_wp2_with go_in
                            exact ⟨⟨kk + 1, hk64, by simp, Below.drewN' HB5.out _⟩, by simp [intOf]; omega⟩
                          · have hd : kk = 64 ∨ bb[kk]? ≠ l[kk]? := .inr (by rw [hx, hy]; simpa using hxy)
                            have hdrop := drop_same (HBB.out.1.trans HL.out.2.2.2.2) HL.out.1 (baseS_len j) hkk hd
                            have hxyI : ¬ ((x.toNat : Int) = (y.toNat : Int)) := by
                              intro e; exact hxy (UInt8.toNat_inj.1 (by omega))
                            have hxyB : ((x.toNat : Int) == (y.toNat : Int)) = false := beq_eq_false_iff_ne.2 hxyI
                            have HD := Lib.hid hdrop
                            clear hd hdrop hx hy hxy
                            go_upto_region 42 with go_in
                            go_quiet (fail)
                            go_upto_region 44 with go_in
                            have q5 := fun n => strAt (n := 64 - kk) (c := 64 - kk) (rd_drop (k := kk) ((H11.out.2.1.below HB5.out (Nat.le_refl _)).drewN n)) (by rw [List.length_drop, HBB.out.2])
                            have q6 := fun n => strAt (n := 64 - kk) (c := 64 - kk) (rd_drop (k := kk) ((H11.out.2.2.1.below HB5.out H11.out.2.2.2.2.2).drewN n)) (by rw [List.length_drop, baseS_len])
                            rw [← HD.out] at q6
                            go_quiet (fail)
                            go_wp2_with go_in
                            exact ⟨⟨j + 1, n, hj12, by simp, rfl, by omega, Below.drewN' (H11.out.1.trans (lower HB5.out H11.out.1.size)) _⟩, by simp [intOf]; omega⟩
                        · obtain rfl : kk = 64 := by omega
                          have HB5 := Lib.hid hb5
                          clear hb5
                          go_upto_region 42 with go_in
                          go_quiet (fail)
                          go_upto_region 44 with go_in
                          have q5 := fun n => strAt (n := 0) (c := 0) (A := some ⟨gb, 0, none⟩) (l := []) (Rd.emp (wr.drewN n) 0 _) rfl
                          have q6 := fun n => strAt (n := 0) (c := 0) (A := some ⟨gw, 0, none⟩) (l := []) (Rd.emp (wr.drewN n) 0 _) rfl
                          go_quiet (fail)
                          go_wp2_with go_in
                          exact ⟨⟨j + 1, n, hj12, by simp, rfl, by omega, Below.drewN' (H11.out.1.trans (lower HB5.out H11.out.1.size)) _⟩, by simp [intOf]; omega⟩
                · have hj6I : ¬ ((j : Int) < 6) := by omega
                  have hmk := make64 wr
                  go_upto_region 33 with go_in
                  have sW : Rd (wr.alloc (.cells (u8s zero64).toArray 5)) (wr.alloc (.cells (u8s zero64).toArray 5)).heap.size (some ⟨wr.heap.size, 0, none⟩) (u8s (baseS j)) := by
                    have := Rd.new wr (u8s zero64).toArray 5 (0, 0)
                    rw [alloc1_size]
                    unfold baseS; rw [if_neg hj6]; exact this
                  have bW : Below w8.heap.size w8 (wr.alloc (.cells (u8s zero64).toArray 5)) := HBb.out.trans (lower ((Below.refl _ wr).alloc (Nat.le_refl _) _) HBb.out.size)
                  clear hmk
                  obtain ⟨gw, hgw⟩ : ∃ gw, gw = wr.heap.size := ⟨_, rfl⟩
                  rw [← hgw] at sW ⊢
                  generalize wr.alloc (.cells (u8s zero64).toArray 5) = w9 at sW bW ⊢
                  clear hgw
                  have HW := Lib.hid (And.intro sW bW)
                  have hz12 : Mc.size ≤ 4096 := by rw [HX4.out.2.2.2.1]; omega
                  have hzj : j < Mc.size := by rw [HX4.out.2.2.2.1]; omega
                  have HRD := Lib.hid (readC (HX4.out.1.kept bW) hz12 hzj)
                  clear sW bW hz12 hzj
                  by_cases heq : Mc.get j = baseS j
                  · rw [heq] at HRD
                    go_wp2_with (first
                      | (go_at_call 24; (with_reducible refine HRD.out.mono ?_); rintro e w10 ⟨gb, rfl, hgb1, hgb2, hrb, hlb, hb10⟩; have q1 := strAt (n := 64) (c := 64) hrb (baseS_len j).symm; have q2 := strAt (n := 64) (c := 64) (HW.out.1.below hb10 (Nat.le_refl _)) (baseS_len j).symm)
                      | go_in)
                    exact ⟨⟨j + 1, n, hj12, by simp, rfl, by omega, HW.out.2.trans (lower hb10 HW.out.2.size)⟩, by simp [intOf]; omega⟩
                  · obtain ⟨l, hl⟩ : ∃ l, last j = some l := by
                      cases hlj : last j with
                      | none => exact absurd ((HX4.out.2.2.2.2.2.2 j).1 hlj) heq
                      | some l => exact ⟨l, rfl⟩
                    obtain ⟨nn, hnn⟩ := (HX4.out.2.2.2.2.2.2 j).2 l hl
                    obtain ⟨vs, hvg, hvz, hvv⟩ := HX4.out.2.1
                    obtain ⟨hll, gl, hvj, hsl⟩ := (hvv j (by omega)).2 l hl
                    have hvl : w8.cell? ⟨bl, j, none⟩ = some (.slice (some ⟨gl, 0, none⟩) 64 64) := by
                      rw [cell_of_row w8 bl j _ _ _ hvg, Array.getElem?_eq_getElem (by omega), hvj]
                    have hblt : bl < w8.heap.size := (Array.getElem?_eq_some_iff.1 hvg).1
                    have HL := Lib.hid (And.intro hll (And.intro hsl (And.intro hvl (And.intro hblt hnn))))
                    clear hvg hvz hvv hvj hll hsl hvl hblt hnn hl
                    have hne := beq_bytes heq
                    have HNE := Lib.hid heq
                    clear heq
                    by_cases heq2 : Mc.get j = l
                    · rw [heq2] at HRD hne
                      go_upto_region 39 with (first
                        | (go_at_call 24; (with_reducible refine HRD.out.mono ?_); rintro e w10 ⟨gb, rfl, hgb1, hgb2, hrb, hlb, hb10⟩; have q1 := strAt (n := 64) (c := 64) hrb HL.out.1.symm; have q2 := strAt (n := 64) (c := 64) (HW.out.1.below hb10 (Nat.le_refl _)) (baseS_len j).symm; have b810 : Below w8.heap.size w8 w10 := HW.out.2.trans (lower hb10 HW.out.2.size); have nn10 := not_nil gl 64 64 w10; have cl : w10.cell? ⟨bl, j, none⟩ = some (.slice (some ⟨gl, 0, none⟩) 64 64) := (by rw [← HL.out.2.2.1]; exact b810.cell (p := ⟨bl, j, none⟩) HL.out.2.2.2.1))
                        | go_in)
                      have q3 := fun n => strAt (n := 64) (c := 64) (hrb.drewN n) HL.out.1.symm
                      have q4 := fun n => strAt (n := 64) (c := 64) ((HL.out.2.1.below b810).1.drewN n) HL.out.1.symm
                      have HB10 := Lib.hid b810
                      clear b810 hrb hb10 q1 q2
                      go_quiet (fail)
                      go_wp2_with go_in
                      exact ⟨⟨j + 1, n + 1, hj12, by simp, by simp, by omega, Below.drewN' HB10.out _⟩, by simp [intOf]; omega⟩
                    · have hne2 := beq_bytes heq2
                      have hlb' : (Mc.get j).length = 64 := by
                        rw [HL.out.2.2.2.2]; simp [HL.out.1, baseS_len]; omega
                      obtain ⟨bb, hbb⟩ : ∃ bb, bb = Mc.get j := ⟨_, rfl⟩
                      rw [← hbb] at HRD hne hne2 hlb'
                      have HBB := Lib.hid (And.intro hbb hlb')
                      clear hbb hlb' heq2
                      go_upto_region 39 with (first
                        | (go_at_call 24; (with_reducible refine HRD.out.mono ?_); rintro e w10 ⟨gb, rfl, hgb1, hgb2, hrb, hlb, hb10⟩; have q1 := strAt (n := 64) (c := 64) hrb HBB.out.2.symm; have q2 := strAt (n := 64) (c := 64) (HW.out.1.below hb10 (Nat.le_refl _)) (baseS_len j).symm; have b810 : Below w8.heap.size w8 w10 := HW.out.2.trans (lower hb10 HW.out.2.size); have nn10 := not_nil gl 64 64 w10; have cl : w10.cell? ⟨bl, j, none⟩ = some (.slice (some ⟨gl, 0, none⟩) 64 64) := (by rw [← HL.out.2.2.1]; exact b810.cell (p := ⟨bl, j, none⟩) HL.out.2.2.2.1))
                        | go_in)
                      have q3 := fun n => strAt (n := 64) (c := 64) (hrb.drewN n) HBB.out.2.symm
                      have q4 := fun n => strAt (n := 64) (c := 64) ((HL.out.2.1.below b810).1.drewN n) HL.out.1.symm
                      have HB10 := Lib.hid (And.intro b810 (And.intro hrb hb10))
                      clear b810 hrb hb10 q1 q2
                      go_quiet (fail)
                      go_wp2_with go_in
                      have b11 := Below.drewN' HB10.out.1 nq
                      have rb11 : Rd (w10.drewN nq) (w10.drewN nq).heap.size (some ⟨gb, 0, none⟩) (u8s bb) := HB10.out.2.1.drewN nq
                      have rw11 := (HW.out.1.below HB10.out.2.2 (Nat.le_refl _)).drewN nq
                      have rl11 : Rd (w10.drewN nq) (w10.drewN nq).heap.size (some ⟨gl, 0, none⟩) (u8s l) := (HL.out.2.1.below HB10.out.1).1.drewN nq
                      have cl11 : (w10.drewN nq).cell? ⟨bl, j, none⟩ = some (.slice (some ⟨gl, 0, none⟩) 64 64) := cl
                      have zw : w9.heap.size ≤ (w10.drewN nq).heap.size := HB10.out.2.2.size
                      have H11 := Lib.hid (And.intro b11 (And.intro rb11 (And.intro rw11 (And.intro rl11 (And.intro cl11 zw)))))
                      clear b11 rb11 rw11 rl11 cl11 zw cl nn10 q3 q4 hne hne2
                      generalize w10.drewN nq = w11 at H11 ⊢
                      go_loopw [20] (fun v wr => ∃ kk : Nat, kk ≤ 64 ∧ v = .int .i64 (kk : Int) ∧ Below w11.heap.size w11 wr) (fun v _ => 64 - (intOf v).toNat)
                      case atStart => exact ⟨0, by omega, rfl, Below.refl _ _⟩
                      case round =>
                        obtain ⟨kk, hkk, rfl, hb5⟩ := hrel
                        have hkkI : (kk : Int) ≤ 64 := by omega
                        by_cases hk64 : kk < 64
                        · have hkkJ : (kk : Int) < 64 := by omega
                          obtain ⟨x, hx⟩ : ∃ x, bb[kk]? = some x := ⟨_, List.getElem?_eq_getElem (by rw [HBB.out.2]; exact hk64)⟩
                          obtain ⟨y, hy⟩ : ∃ y, l[kk]? = some y := ⟨_, List.getElem?_eq_getElem (by rw [HL.out.1]; exact hk64)⟩
                          have cb := rd_cell (H11.out.2.1.below hb5 (Nat.le_refl _)) hx
                          have cy := rd_cell (H11.out.2.2.2.1.below hb5 (Nat.le_refl _)) hy
                          have c5 : wr.cell? ⟨bl, j, none⟩ = some (.slice (some ⟨gl, 0, none⟩) 64 64) := by rw [← H11.out.2.2.2.2.1]; exact hb5.cell (p := ⟨bl, j, none⟩) (by have := H11.out.1.size; have := HL.out.2.2.2.1; show bl < _; omega)
                          have HB5 := Lib.hid hb5
                          clear hb5
                          by_cases hxy : x = y
                          · rw [← hxy] at cy
                            have hx256 : (x.toNat : Int) < 256 := by have := x.toNat_lt; omega
                            clear hx hy hxy
                            go_upto_region 42 with go_in
                            go_quiet (fail)
                            go_wp2_with go_in
                            exact ⟨⟨kk + 1, hk64, by simp, Below.drewN' HB5.out _⟩, by simp [intOf]; omega⟩
                          · have hd : kk = 64 ∨ bb[kk]? ≠ l[kk]? := .inr (by rw [hx, hy]; simpa using hxy)
                            have hdrop := drop_same (HBB.out.1.trans HL.out.2.2.2.2) HL.out.1 (baseS_len j) hkk hd
                            have hxyI : ¬ ((x.toNat : Int) = (y.toNat : Int)) := by
                              intro e; exact hxy (UInt8.toNat_inj.1 (by omega))
                            have hxyB : ((x.toNat : Int) == (y.toNat : Int)) = false := beq_eq_false_iff_ne.2 hxyI
                            have HD := Lib.hid hdrop
                            clear hd hdrop hx hy hxy
                            go_upto_region 42 with go_in
                            go_quiet (fail)
                            go_upto_region 44 with go_in
                            have q5 := fun n => strAt (n := 64 - kk) (c := 64 - kk) (rd_drop (k := kk) ((H11.out.2.1.below HB5.out (Nat.le_refl _)).drewN n)) (by rw [List.length_drop, HBB.out.2])
                            have q6 := fun n => strAt (n := 64 - kk) (c := 64 - kk) (rd_drop (k := kk) ((H11.out.2.2.1.below HB5.out H11.out.2.2.2.2.2).drewN n)) (by rw [List.length_drop, baseS_len])
                            rw [← HD.out] at q6
                            go_quiet (fail)
                            go_wp2_with go_in
                            exact ⟨⟨j + 1, n, hj12, by simp, rfl, by omega, Below.drewN' (H11.out.1.trans (lower HB5.out H11.out.1.size)) _⟩, by simp [intOf]; omega⟩
                        · obtain rfl : kk = 64 := by omega
                          have HB5 := Lib.hid hb5
                          clear hb5
                          go_upto_region 42 with go_in
                          go_quiet (fail)
                          go_upto_region 44 with go_in
                          have q5 := fun n => strAt (n := 0) (c := 0) (A := some ⟨gb, 0, none⟩) (l := []) (Rd.emp (wr.drewN n) 0 _) rfl
                          have q6 := fun n => strAt (n := 0) (c := 0) (A := some ⟨gw, 0, none⟩) (l := []) (Rd.emp (wr.drewN n) 0 _) rfl
                          go_quiet (fail)
                          go_wp2_with go_in
                          exact ⟨⟨j + 1, n, hj12, by simp, rfl, by omega, Below.drewN' (H11.out.1.trans (lower HB5.out H11.out.1.size)) _⟩, by simp [intOf]; omega⟩
              · obtain rfl : j = 12 := by omega
                have hnI : (n : Int) ≤ 12 := by omega
                have hD9 := HX4.out.1.kept hb
                have hun := unsureM hD9 HT.out
                rw [HX4.out.2.2.2.2.2.1] at hun
                have HUN := Lib.hid hun
                have hst := fun (W : World) (h : DiskM W p' bs' bw' Mc (6 + 30)) => stepsM h
                rw [HX4.out.2.2.2.2.1] at hst
                have HST := Lib.hid hst
                have HB9 := Lib.hid (And.intro hb hD9)
                clear hun hst hb hD9
                go_wp2_with (first
                  | (go_at_call 25; (with_reducible refine HUN.out.mono ?_); rintro e w9 ⟨v9, rfl, hrow, hb9⟩; obtain ⟨A9, c9, rfl, _, _, _⟩ := own_shape hrow; have hD10 := HB9.out.2.kept hb9)
                  | (go_at_call 26; (refine (HST.out w9 hD10).mono ?_); rintro e w10 ⟨rfl, rfl⟩)
                  | go_in)
                go_ret
                exact ⟨rfl, HX4.out.2.2.1.trans ((lower HB9.out.1 HX4.out.2.2.1.size).trans (lower hb9 (by have := HX4.out.2.2.1.size; have := HB9.out.1.size; omega)))⟩
        · have hkI : ¬ ((k : Int) < (rows.length : Int)) := by omega
          have hT : 6 + k ≤ 1000000000 := by omega
          have HT := Lib.hid hT
          have hB : Below w.heap.size w wr := HB0.out.1.trans (lower hb HB0.out.1.size)
          have g5 := (hb.block w.heap.size (by rw [HB0.out.2.2]; omega)).trans HB0.out.2.1
          have a0 := cell_of_row wr w.heap.size 0 _ _ _ g5
          have a1 := cell_of_row wr w.heap.size 1 _ _ _ g5
          have HX3 := Lib.hid (And.intro hs (And.intro hD (And.intro hL (And.intro hb (And.intro hlt hB)))))
          clear hs hD hL hb hlt hB g5 hT
          go_upto_region 27 with (first
            | (go_at_call 23; (refine (crashM HX3.out.2.1 HT.out A2 c2 keep n0 n1 ((HR2.out.below HX3.out.2.2.2.2.2 (Nat.le_refl _)).more HX3.out.2.2.2.2.2.size)).mono ?_); rintro e w8 ⟨p', bs', bw', rfl, hp', hbs', hbw', hD8, hb8⟩)
            | go_in)
          have hL8 := HX3.out.2.2.1.below hb8
          have hB8 : Below w.heap.size w w8 := HX3.out.2.2.2.2.2.trans (lower hb8 HX3.out.2.2.2.2.2.size)
          obtain ⟨hc1, hc2, hc3⟩ := crashed_facts M keep n0 n1
          have hcr := HX3.out.1.crashed keep n0 n1
          rw [HX3.out.1.size] at hc1
          generalize M.crashed keep n0 n1 = Mc at hD8 hc1 hc2 hc3 hcr
          have HX4 := Lib.hid (And.intro hD8 (And.intro hL8 (And.intro hB8 (And.intro hc1 (And.intro hc2 (And.intro hc3 hcr))))))
          clear hD8 hL8 hB8 hc1 hc2 hc3 hcr hb8 a0 a1 HX3
          go_wp2_with go_in
          go_loopw [15, 16, 17, 18, 19, 20] (fun wh i _ _ _ _ wr => ∃ (j n : Nat), j ≤ 12 ∧ i = .int .i64 (j : Int) ∧ wh = .int .i64 (n : Int) ∧ n ≤ j ∧ Below w8.heap.size w8 wr)
            (fun _ i _ _ _ _ _ => 12 - (intOf i).toNat)
          case atStart => exact ⟨0, 0, by omega, rfl, rfl, by omega, Below.refl _ _⟩
          case round =>
            obtain ⟨j, n, hj, rfl, rfl, hn, hb⟩ := hrel
            by_cases hj12 : j < 12
            · have hjI : (j : Int) < 12 := by omega
              have HBb := Lib.hid hb
              clear hb
              by_cases hj6 : j < 6
              · have hj6I : (j : Int) < 6 := by omega
                have hby := byte_k j hj6
                have hmk := make64 wr
                have hk2 : ¬ ((j : Int) + 1 < 0) := by omega
                have HB2 := Lib.hid (bytes_two' (UInt8.ofNat (j + 1)) 7 (wr.alloc (.cells (u8s zero64).toArray 5)) (alloc1_size _ _))
                go_upto_region 33 with (first
                  | (go_at_call 21; (refine HB2.out.mono ?_); rintro e w9 ⟨gw, rfl, hg1, hg2, hr9, hb9⟩)
                  | go_in)
                have sW : Rd w9 w9.heap.size (some ⟨gw, 0, none⟩) (u8s (baseS j)) := by
                  unfold baseS; rw [if_pos hj6]; exact hr9
                have bW : Below w8.heap.size w8 w9 := HBb.out.trans (lower (((Below.refl _ wr).alloc (Nat.le_refl _) _).trans (lower hb9 (by omega))) HBb.out.size)
                clear hmk hby hr9 hb9 hg1 hg2 hk2 HB2
                have HW := Lib.hid (And.intro sW bW)
                have hz12 : Mc.size ≤ 4096 := by rw [HX4.out.2.2.2.1]; omega
                have hzj : j < Mc.size := by rw [HX4.out.2.2.2.1]; omega
                have HRD := Lib.hid (readC (HX4.out.1.kept bW) hz12 hzj)
                clear sW bW hz12 hzj
                by_cases heq : Mc.get j = baseS j
                · rw [heq] at HRD
                  go_wp2_with (first
                    | (go_at_call 24; (with_reducible refine HRD.out.mono ?_); rintro e w10 ⟨gb, rfl, hgb1, hgb2, hrb, hlb, hb10⟩; have q1 := strAt (n := 64) (c := 64) hrb (baseS_len j).symm; have q2 := strAt (n := 64) (c := 64) (HW.out.1.below hb10 (Nat.le_refl _)) (baseS_len j).symm)
                    | go_in)
                  exact ⟨⟨j + 1, n, hj12, by simp, rfl, by omega, HW.out.2.trans (lower hb10 HW.out.2.size)⟩, by simp [intOf]; omega⟩
                · obtain ⟨l, hl⟩ : ∃ l, last j = some l := by
                    cases hlj : last j with
                    | none => exact absurd ((HX4.out.2.2.2.2.2.2 j).1 hlj) heq
                    | some l => exact ⟨l, rfl⟩
                  obtain ⟨nn, hnn⟩ := (HX4.out.2.2.2.2.2.2 j).2 l hl
                  obtain ⟨vs, hvg, hvz, hvv⟩ := HX4.out.2.1
                  obtain ⟨hll, gl, hvj, hsl⟩ := (hvv j (by omega)).2 l hl
                  have hvl : w8.cell? ⟨bl, j, none⟩ = some (.slice (some ⟨gl, 0, none⟩) 64 64) := by
                    rw [cell_of_row w8 bl j _ _ _ hvg, Array.getElem?_eq_getElem (by omega), hvj]
                  have hblt : bl < w8.heap.size := (Array.getElem?_eq_some_iff.1 hvg).1
                  have HL := Lib.hid (And.intro hll (And.intro hsl (And.intro hvl (And.intro hblt hnn))))
                  clear hvg hvz hvv hvj hll hsl hvl hblt hnn hl
                  have hne := beq_bytes heq
                  have HNE := Lib.hid heq
                  clear heq
                  by_cases heq2 : Mc.get j = l
                  · rw [heq2] at HRD hne
                    go_upto_region 39 with (first
                      | (go_at_call 24; (with_reducible refine HRD.out.mono ?_); rintro e w10 ⟨gb, rfl, hgb1, hgb2, hrb, hlb, hb10⟩; have q1 := strAt (n := 64) (c := 64) hrb HL.out.1.symm; have q2 := strAt (n := 64) (c := 64) (HW.out.1.below hb10 (Nat.le_refl _)) (baseS_len j).symm; have b810 : Below w8.heap.size w8 w10 := HW.out.2.trans (lower hb10 HW.out.2.size); have nn10 := not_nil gl 64 64 w10; have cl : w10.cell? ⟨bl, j, none⟩ = some (.slice (some ⟨gl, 0, none⟩) 64 64) := (by rw [← HL.out.2.2.1]; exact b810.cell (p := ⟨bl, j, none⟩) HL.out.2.2.2.1))
                      | go_in)
                    have q3 := fun n => strAt (n := 64) (c := 64) (hrb.drewN n) HL.out.1.symm
                    have q4 := fun n => strAt (n := 64) (c := 64) ((HL.out.2.1.below b810).1.drewN n) HL.out.1.symm
                    have HB10 := Lib.hid b810
                    clear b810 hrb hb10 q1 q2
                    go_quiet (fail)
                    go_wp2_with go_in
                    exact ⟨⟨j + 1, n + 1, hj12, by simp, by simp, by omega, Below.drewN' HB10.out _⟩, by simp [intOf]; omega⟩
                  · have hne2 := beq_bytes heq2
                    have hlb' : (Mc.get j).length = 64 := by
                      rw [HL.out.2.2.2.2]; simp [HL.out.1, baseS_len]; omega
                    obtain ⟨bb, hbb⟩ : ∃ bb, bb = Mc.get j := ⟨_, rfl⟩
                    rw [← hbb] at HRD hne hne2 hlb'
                    have HBB := Lib.hid (And.intro hbb hlb')
                    clear hbb hlb' heq2
                    go_upto_region 39 with (first
                      | (go_at_call 24; (with_reducible refine HRD.out.mono ?_); rintro e w10 ⟨gb, rfl, hgb1, hgb2, hrb, hlb, hb10⟩; have q1 := strAt (n := 64) (c := 64) hrb HBB.out.2.symm; have q2 := strAt (n := 64) (c := 64) (HW.out.1.below hb10 (Nat.le_refl _)) (baseS_len j).symm; have b810 : Below w8.heap.size w8 w10 := HW.out.2.trans (lower hb10 HW.out.2.size); have nn10 := not_nil gl 64 64 w10; have cl : w10.cell? ⟨bl, j, none⟩ = some (.slice (some ⟨gl, 0, none⟩) 64 64) := (by rw [← HL.out.2.2.1]; exact b810.cell (p := ⟨bl, j, none⟩) HL.out.2.2.2.1))
                      | go_in)
                    have q3 := fun n => strAt (n := 64) (c := 64) (hrb.drewN n) HBB.out.2.symm
                    have q4 := fun n => strAt (n := 64) (c := 64) ((HL.out.2.1.below b810).1.drewN n) HL.out.1.symm
                    have HB10 := Lib.hid (And.intro b810 (And.intro hrb hb10))
                    clear b810 hrb hb10 q1 q2
                    go_quiet (fail)
                    go_wp2_with go_in
                    have b11 := Below.drewN' HB10.out.1 nq
                    have rb11 : Rd (w10.drewN nq) (w10.drewN nq).heap.size (some ⟨gb, 0, none⟩) (u8s bb) := HB10.out.2.1.drewN nq
                    have rw11 := (HW.out.1.below HB10.out.2.2 (Nat.le_refl _)).drewN nq
                    have rl11 : Rd (w10.drewN nq) (w10.drewN nq).heap.size (some ⟨gl, 0, none⟩) (u8s l) := (HL.out.2.1.below HB10.out.1).1.drewN nq
                    have cl11 : (w10.drewN nq).cell? ⟨bl, j, none⟩ = some (.slice (some ⟨gl, 0, none⟩) 64 64) := cl
                    have zw : w9.heap.size ≤ (w10.drewN nq).heap.size := HB10.out.2.2.size
                    have H11 := Lib.hid (And.intro b11 (And.intro rb11 (And.intro rw11 (And.intro rl11 (And.intro cl11 zw)))))
                    clear b11 rb11 rw11 rl11 cl11 zw cl nn10 q3 q4 hne hne2
                    generalize w10.drewN nq = w11 at H11 ⊢
                    go_loopw [20] (fun v wr => ∃ kk : Nat, kk ≤ 64 ∧ v = .int .i64 (kk : Int) ∧ Below w11.heap.size w11 wr) (fun v _ => 64 - (intOf v).toNat)
                    case atStart => exact ⟨0, by omega, rfl, Below.refl _ _⟩
                    case round =>
                      obtain ⟨kk, hkk, rfl, hb5⟩ := hrel
                      have hkkI : (kk : Int) ≤ 64 := by omega
                      by_cases hk64 : kk < 64
                      · have hkkJ : (kk : Int) < 64 := by omega
                        obtain ⟨x, hx⟩ : ∃ x, bb[kk]? = some x := ⟨_, List.getElem?_eq_getElem (by rw [HBB.out.2]; exact hk64)⟩
                        obtain ⟨y, hy⟩ : ∃ y, l[kk]? = some y := ⟨_, List.getElem?_eq_getElem (by rw [HL.out.1]; exact hk64)⟩
                        have cb := rd_cell (H11.out.2.1.below hb5 (Nat.le_refl _)) hx
                        have cy := rd_cell (H11.out.2.2.2.1.below hb5 (Nat.le_refl _)) hy
                        have c5 : wr.cell? ⟨bl, j, none⟩ = some (.slice (some ⟨gl, 0, none⟩) 64 64) := by rw [← H11.out.2.2.2.2.1]; exact hb5.cell (p := ⟨bl, j, none⟩) (by have := H11.out.1.size; have := HL.out.2.2.2.1; show bl < _; omega)
                        have HB5 := Lib.hid hb5
                        clear hb5
                        by_cases hxy : x = y
                        · rw [← hxy] at cy
                          have hx256 : (x.toNat : Int) < 256 := by have := x.toNat_lt; omega
                          clear hx hy hxy
                          go_upto_region 42 with go_in
                          go_quiet (fail)
                          go_wp2_with go_in
                          exact ⟨⟨kk + 1, hk64, by simp, Below.drewN' HB5.out _⟩, by simp [intOf]; omega⟩
                        · have hd : kk = 64 ∨ bb[kk]? ≠ l[kk]? := .inr (by rw [hx, hy]; simpa using hxy)
                          have hdrop := drop_same (HBB.out.1.trans HL.out.2.2.2.2) HL.out.1 (baseS_len j) hkk hd
                          have hxyI : ¬ ((x.toNat : Int) = (y.toNat : Int)) := by
                            intro e; exact hxy (UInt8.toNat_inj.1 (by omega))
                          have hxyB : ((x.toNat : Int) == (y.toNat : Int)) = false := beq_eq_false_iff_ne.2 hxyI
                          have HD := Lib.hid hdrop
                          clear hd hdrop hx hy hxy
                          go_upto_region 42 with go_in
                          go_quiet (fail)
                          go_upto_region 44 with go_in
                          have q5 := fun n => strAt (n := 64 - kk) (c := 64 - kk) (rd_drop (k := kk) ((H11.out.2.1.below HB5.out (Nat.le_refl _)).drewN n)) (by rw [List.length_drop, HBB.out.2])
                          have q6 := fun n => strAt (n := 64 - kk) (c := 64 - kk) (rd_drop (k := kk) ((H11.out.2.2.1.below HB5.out H11.out.2.2.2.2.2).drewN n)) (by rw [List.length_drop, baseS_len])
                          rw [← HD.out] at q6
                          go_quiet (fail)
                          go_wp2_with go_in
                          exact ⟨⟨j + 1, n, hj12, by simp, rfl, by omega, Below.drewN' (H11.out.1.trans (lower HB5.out H11.out.1.size)) _⟩, by simp [intOf]; omega⟩
                      · obtain rfl : kk = 64 := by omega
                        have HB5 := Lib.hid hb5
                        clear hb5
                        go_upto_region 42 with go_in
                        go_quiet (fail)
                        go_upto_region 44 with go_in
                        have q5 := fun n => strAt (n := 0) (c := 0) (A := some ⟨gb, 0, none⟩) (l := []) (Rd.emp (wr.drewN n) 0 _) rfl
                        have q6 := fun n => strAt (n := 0) (c := 0) (A := some ⟨gw, 0, none⟩) (l := []) (Rd.emp (wr.drewN n) 0 _) rfl
                        go_quiet (fail)
                        go_wp2_with go_in
                        exact ⟨⟨j + 1, n, hj12, by simp, rfl, by omega, Below.drewN' (H11.out.1.trans (lower HB5.out H11.out.1.size)) _⟩, by simp [intOf]; omega⟩
              · have hj6I : ¬ ((j : Int) < 6) := by omega
                have hmk := make64 wr
                go_upto_region 33 with go_in
                have sW : Rd (wr.alloc (.cells (u8s zero64).toArray 5)) (wr.alloc (.cells (u8s zero64).toArray 5)).heap.size (some ⟨wr.heap.size, 0, none⟩) (u8s (baseS j)) := by
                  have := Rd.new wr (u8s zero64).toArray 5 (0, 0)
                  rw [alloc1_size]
                  unfold baseS; rw [if_neg hj6]; exact this
                have bW : Below w8.heap.size w8 (wr.alloc (.cells (u8s zero64).toArray 5)) := HBb.out.trans (lower ((Below.refl _ wr).alloc (Nat.le_refl _) _) HBb.out.size)
                clear hmk
                obtain ⟨gw, hgw⟩ : ∃ gw, gw = wr.heap.size := ⟨_, rfl⟩
                rw [← hgw] at sW ⊢
                generalize wr.alloc (.cells (u8s zero64).toArray 5) = w9 at sW bW ⊢
                clear hgw
                have HW := Lib.hid (And.intro sW bW)
                have hz12 : Mc.size ≤ 4096 := by rw [HX4.out.2.2.2.1]; omega
                have hzj : j < Mc.size := by rw [HX4.out.2.2.2.1]; omega
                have HRD := Lib.hid (readC (HX4.out.1.kept bW) hz12 hzj)
                clear sW bW hz12 hzj
                by_cases heq : Mc.get j = baseS j
                · rw [heq] at HRD
                  go_wp2_with (first
                    | (go_at_call 24; (with_reducible refine HRD.out.mono ?_); rintro e w10 ⟨gb, rfl, hgb1, hgb2, hrb, hlb, hb10⟩; have q1 := strAt (n := 64) (c := 64) hrb (baseS_len j).symm; have q2 := strAt (n := 64) (c := 64) (HW.out.1.below hb10 (Nat.le_refl _)) (baseS_len j).symm)
                    | go_in)
                  exact ⟨⟨j + 1, n, hj12, by simp, rfl, by omega, HW.out.2.trans (lower hb10 HW.out.2.size)⟩, by simp [intOf]; omega⟩
                · obtain ⟨l, hl⟩ : ∃ l, last j = some l := by
                    cases hlj : last j with
                    | none => exact absurd ((HX4.out.2.2.2.2.2.2 j).1 hlj) heq
                    | some l => exact ⟨l, rfl⟩
                  obtain ⟨nn, hnn⟩ := (HX4.out.2.2.2.2.2.2 j).2 l hl
                  obtain ⟨vs, hvg, hvz, hvv⟩ := HX4.out.2.1
                  obtain ⟨hll, gl, hvj, hsl⟩ := (hvv j (by omega)).2 l hl
                  have hvl : w8.cell? ⟨bl, j, none⟩ = some (.slice (some ⟨gl, 0, none⟩) 64 64) := by
                    rw [cell_of_row w8 bl j _ _ _ hvg, Array.getElem?_eq_getElem (by omega), hvj]
                  have hblt : bl < w8.heap.size := (Array.getElem?_eq_some_iff.1 hvg).1
                  have HL := Lib.hid (And.intro hll (And.intro hsl (And.intro hvl (And.intro hblt hnn))))
                  clear hvg hvz hvv hvj hll hsl hvl hblt hnn hl
                  have hne := beq_bytes heq
                  have HNE := Lib.hid heq
                  clear heq
                  by_cases heq2 : Mc.get j = l
                  · rw [heq2] at HRD hne
                    go_upto_region 39 with (first
                      | (go_at_call 24; (with_reducible refine HRD.out.mono ?_); rintro e w10 ⟨gb, rfl, hgb1, hgb2, hrb, hlb, hb10⟩; have q1 := strAt (n := 64) (c := 64) hrb HL.out.1.symm; have q2 := strAt (n := 64) (c := 64) (HW.out.1.below hb10 (Nat.le_refl _)) (baseS_len j).symm; have b810 : Below w8.heap.size w8 w10 := HW.out.2.trans (lower hb10 HW.out.2.size); have nn10 := not_nil gl 64 64 w10; have cl : w10.cell? ⟨bl, j, none⟩ = some (.slice (some ⟨gl, 0, none⟩) 64 64) := (by rw [← HL.out.2.2.1]; exact b810.cell (p := ⟨bl, j, none⟩) HL.out.2.2.2.1))
                      | go_in)
                    have q3 := fun n => strAt (n := 64) (c := 64) (hrb.drewN n) HL.out.1.symm
                    have q4 := fun n => strAt (n := 64) (c := 64) ((HL.out.2.1.below b810).1.drewN n) HL.out.1.symm
                    have HB10 := Lib.hid b810
                    clear b810 hrb hb10 q1 q2
                    go_quiet (fail)
                    go_wp2_with go_in
                    exact ⟨⟨j + 1, n + 1, hj12, by simp, by simp, by omega, Below.drewN' HB10.out _⟩, by simp [intOf]; omega⟩
                  · have hne2 := beq_bytes heq2
                    have hlb' : (Mc.get j).length = 64 := by
                      rw [HL.out.2.2.2.2]; simp [HL.out.1, baseS_len]; omega
                    obtain ⟨bb, hbb⟩ : ∃ bb, bb = Mc.get j := ⟨_, rfl⟩
                    rw [← hbb] at HRD hne hne2 hlb'
                    have HBB := Lib.hid (And.intro hbb hlb')
                    clear hbb hlb' heq2
                    go_upto_region 39 with (first
                      | (go_at_call 24; (with_reducible refine HRD.out.mono ?_); rintro e w10 ⟨gb, rfl, hgb1, hgb2, hrb, hlb, hb10⟩; have q1 := strAt (n := 64) (c := 64) hrb HBB.out.2.symm; have q2 := strAt (n := 64) (c := 64) (HW.out.1.below hb10 (Nat.le_refl _)) (baseS_len j).symm; have b810 : Below w8.heap.size w8 w10 := HW.out.2.trans (lower hb10 HW.out.2.size); have nn10 := not_nil gl 64 64 w10; have cl : w10.cell? ⟨bl, j, none⟩ = some (.slice (some ⟨gl, 0, none⟩) 64 64) := (by rw [← HL.out.2.2.1]; exact b810.cell (p := ⟨bl, j, none⟩) HL.out.2.2.2.1))
                      | go_in)
                    have q3 := fun n => strAt (n := 64) (c := 64) (hrb.drewN n) HBB.out.2.symm
                    have q4 := fun n => strAt (n := 64) (c := 64) ((HL.out.2.1.below b810).1.drewN n) HL.out.1.symm
                    have HB10 := Lib.hid (And.intro b810 (And.intro hrb hb10))
                    clear b810 hrb hb10 q1 q2
                    go_quiet (fail)
                    go_wp2_with go_in
                    have b11 := Below.drewN' HB10.out.1 nq
                    have rb11 : Rd (w10.drewN nq) (w10.drewN nq).heap.size (some ⟨gb, 0, none⟩) (u8s bb) := HB10.out.2.1.drewN nq
                    have rw11 := (HW.out.1.below HB10.out.2.2 (Nat.le_refl _)).drewN nq
                    have rl11 : Rd (w10.drewN nq) (w10.drewN nq).heap.size (some ⟨gl, 0, none⟩) (u8s l) := (HL.out.2.1.below HB10.out.1).1.drewN nq
                    have cl11 : (w10.drewN nq).cell? ⟨bl, j, none⟩ = some (.slice (some ⟨gl, 0, none⟩) 64 64) := cl
                    have zw : w9.heap.size ≤ (w10.drewN nq).heap.size := HB10.out.2.2.size
                    have H11 := Lib.hid (And.intro b11 (And.intro rb11 (And.intro rw11 (And.intro rl11 (And.intro cl11 zw)))))
                    clear b11 rb11 rw11 rl11 cl11 zw cl nn10 q3 q4 hne hne2
                    generalize w10.drewN nq = w11 at H11 ⊢
                    go_loopw [20] (fun v wr => ∃ kk : Nat, kk ≤ 64 ∧ v = .int .i64 (kk : Int) ∧ Below w11.heap.size w11 wr) (fun v _ => 64 - (intOf v).toNat)
                    case atStart => exact ⟨0, by omega, rfl, Below.refl _ _⟩
                    case round =>
                      obtain ⟨kk, hkk, rfl, hb5⟩ := hrel
                      have hkkI : (kk : Int) ≤ 64 := by omega
                      by_cases hk64 : kk < 64
                      · have hkkJ : (kk : Int) < 64 := by omega
                        obtain ⟨x, hx⟩ : ∃ x, bb[kk]? = some x := ⟨_, List.getElem?_eq_getElem (by rw [HBB.out.2]; exact hk64)⟩
                        obtain ⟨y, hy⟩ : ∃ y, l[kk]? = some y := ⟨_, List.getElem?_eq_getElem (by rw [HL.out.1]; exact hk64)⟩
                        have cb := rd_cell (H11.out.2.1.below hb5 (Nat.le_refl _)) hx
                        have cy := rd_cell (H11.out.2.2.2.1.below hb5 (Nat.le_refl _)) hy
                        have c5 : wr.cell? ⟨bl, j, none⟩ = some (.slice (some ⟨gl, 0, none⟩) 64 64) := by rw [← H11.out.2.2.2.2.1]; exact hb5.cell (p := ⟨bl, j, none⟩) (by have := H11.out.1.size; have := HL.out.2.2.2.1; show bl < _; omega)
                        have HB5 := Lib.hid hb5
                        clear hb5
                        by_cases hxy : x = y
                        · rw [← hxy] at cy
                          have hx256 : (x.toNat : Int) < 256 := by have := x.toNat_lt; omega
                          clear hx hy hxy
                          go_upto_region 42 with go_in
                          go_quiet (fail)
                          go_wp2_with go_in
                          exact ⟨⟨kk + 1, hk64, by simp, Below.drewN' HB5.out _⟩, by simp [intOf]; omega⟩
                        · have hd : kk = 64 ∨ bb[kk]? ≠ l[kk]? := .inr (by rw [hx, hy]; simpa using hxy)
                          have hdrop := drop_same (HBB.out.1.trans HL.out.2.2.2.2) HL.out.1 (baseS_len j) hkk hd
                          have hxyI : ¬ ((x.toNat : Int) = (y.toNat : Int)) := by
                            intro e; exact hxy (UInt8.toNat_inj.1 (by omega))
                          have hxyB : ((x.toNat : Int) == (y.toNat : Int)) = false := beq_eq_false_iff_ne.2 hxyI
                          have HD := Lib.hid hdrop
                          clear hd hdrop hx hy hxy
                          go_upto_region 42 with go_in
                          go_quiet (fail)
                          go_upto_region 44 with go_in
                          have q5 := fun n => strAt (n := 64 - kk) (c := 64 - kk) (rd_drop (k := kk) ((H11.out.2.1.below HB5.out (Nat.le_refl _)).drewN n)) (by rw [List.length_drop, HBB.out.2])
                          have q6 := fun n => strAt (n := 64 - kk) (c := 64 - kk) (rd_drop (k := kk) ((H11.out.2.2.1.below HB5.out H11.out.2.2.2.2.2).drewN n)) (by rw [List.length_drop, baseS_len])
                          rw [← HD.out] at q6
                          go_quiet (fail)
                          go_wp2_with go_in
                          exact ⟨⟨j + 1, n, hj12, by simp, rfl, by omega, Below.drewN' (H11.out.1.trans (lower HB5.out H11.out.1.size)) _⟩, by simp [intOf]; omega⟩
                      · obtain rfl : kk = 64 := by omega
                        have HB5 := Lib.hid hb5
                        clear hb5
                        go_upto_region 42 with go_in
                        go_quiet (fail)
                        go_upto_region 44 with go_in
                        have q5 := fun n => strAt (n := 0) (c := 0) (A := some ⟨gb, 0, none⟩) (l := []) (Rd.emp (wr.drewN n) 0 _) rfl
                        have q6 := fun n => strAt (n := 0) (c := 0) (A := some ⟨gw, 0, none⟩) (l := []) (Rd.emp (wr.drewN n) 0 _) rfl
                        go_quiet (fail)
                        go_wp2_with go_in
                        exact ⟨⟨j + 1, n, hj12, by simp, rfl, by omega, Below.drewN' (H11.out.1.trans (lower HB5.out H11.out.1.size)) _⟩, by simp [intOf]; omega⟩
            · obtain rfl : j = 12 := by omega
              have hnI : (n : Int) ≤ 12 := by omega
              have hD9 := HX4.out.1.kept hb
              have hun := unsureM hD9 HT.out
              rw [HX4.out.2.2.2.2.2.1] at hun
              have HUN := Lib.hid hun
              have hst := fun (W : World) (h : DiskM W p' bs' bw' Mc (6 + k)) => stepsM h
              rw [HX4.out.2.2.2.2.1] at hst
              have HST := Lib.hid hst
              have HB9 := Lib.hid (And.intro hb hD9)
              clear hun hst hb hD9
              go_wp2_with (first
                | (go_at_call 25; (with_reducible refine HUN.out.mono ?_); rintro e w9 ⟨v9, rfl, hrow, hb9⟩; obtain ⟨A9, c9, rfl, _, _, _⟩ := own_shape hrow; have hD10 := HB9.out.2.kept hb9)
                | (go_at_call 26; (refine (HST.out w9 hD10).mono ?_); rintro e w10 ⟨rfl, rfl⟩)
                | go_in)
              go_ret
              exact ⟨rfl, HX4.out.2.2.1.trans ((lower HB9.out.1 HX4.out.2.2.1.size).trans (lower hb9 (by have := HX4.out.2.2.1.size; have := HB9.out.1.size; omega)))⟩
end Go.Proofs.Ytpimcoejhabkgaa
