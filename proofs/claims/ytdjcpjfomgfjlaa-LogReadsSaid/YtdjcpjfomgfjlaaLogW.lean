/- The document's log: record. -/
import Derived.Test.YtdjcpjfomgfjlaaLogV
import Derived.Test.YtdjcpjfomgfjlaaRefH
import Derived.Deep.CutRange
import Derived.Deep.CutBlock
namespace Go.Proofs.Ytdjcpjfomgfjlaa
open Go.RowKit Go.Maps

/-- The record at a sector, as the document reads it. -/
def recO (g : Nat → List UInt8) (at_ behind : Nat) : Option Rec :=
  match hdr (g at_) with
  | none => none
  | some (s, n) => if behind < at_ + 1 + secs n then none else some (s, (cat g (at_ + 1) (secs n)).take n)
def recOV : Option Rec → Value
  | none => .tuple #[.agg #[.int .i64 0, .string ⟨#[]⟩], .bool false]
  | some (s, d) => .tuple #[.agg #[.int .i64 (s : Int), .string ⟨d.toArray⟩], .bool true]
theorem beV_take_le (l : List UInt8) (k : Nat) : beV (l.take k) * 256 ^ (l.length - k) ≤ beV l := by
  have h : ∀ (r : List UInt8) (l : List UInt8), beV l * 256 ^ r.length ≤ beV (l ++ r) := by
    intro r
    induction r with
    | nil => intro l; simp
    | cons x r ih =>
      intro l
      have := ih (l ++ [x])
      rw [List.append_assoc, beV_snoc] at this
      refine Nat.le_trans ?_ this
      rw [List.length_cons, Nat.pow_succ, Nat.mul_comm (256 ^ r.length) 256, ← Nat.mul_assoc]
      exact Nat.mul_le_mul_right _ (Nat.le_add_right _ _)
  have := h (l.drop k) (l.take k)
  rwa [List.take_append_drop, List.length_drop] at this
theorem ba_app (x y : List UInt8) : (⟨x.toArray⟩ : ByteArray) ++ ⟨y.toArray⟩ = ⟨(x ++ y).toArray⟩ := by
  apply ByteArray.ext
  simp
theorem ba_take (x : List UInt8) (n : Nat) : (⟨x.toArray⟩ : ByteArray).extract 0 n = ⟨(x.take n).toArray⟩ := by
  apply ByteArray.ext
  simp
theorem recO_none {g : Nat → List UInt8} {a behind : Nat} (h : hdr (g a) = none) : recO g a behind = none := by unfold recO; rw [h]
theorem set2 {w : World} {b : Nat} {t : TypeId} {x0 x1 : Value} (h : w.heap[b]? = some (.cells #[x0, x1] t (0, 0))) (v0 v1 : Value) :
    ((w.setCell ⟨b, 0, none⟩ v0).setCell ⟨b, 1, none⟩ v1).heap[b]? = some (.cells #[v0, v1] t (0, 0)) := by
  have h1 := heap_setCell_same w b 0 #[x0, x1] t v0 h
  have h2 := heap_setCell_same _ b 1 _ t v1 h1
  simpa using h2
theorem below_set2 {B b : Nat} {a w : World} (h : Below B a w) (hb : B ≤ b) (v0 v1 : Value) : Below B a ((w.setCell ⟨b, 0, none⟩ v0).setCell ⟨b, 1, none⟩ v1) :=
  (h.setCell (p := ⟨b, 0, none⟩) hb v0).setCell (p := ⟨b, 1, none⟩) hb v1
theorem resRec {w : World} {b : Nat} {v0 v1 : Value} (h : w.heap[b]? = some (.cells #[v0, v1] 97 (0, 0))) (tmps : Array Value) (h4 : tmps.getD 6 undef = .pointer (some ⟨b, 0, none⟩)) :
    (results Try.f74 tmps).run Try.prog w = .ok (.tuple #[.agg #[v0, v1], tmps.getD 7 undef]) w := by
  have e0 : w.cell? ⟨b, 0, none⟩ = some v0 := cell_of_row w b 0 _ _ _ h
  have e1 : w.cell? ⟨b, 1, none⟩ = some v1 := cell_of_row w b 1 _ _ _ h
  have h4' := h4
  simp only [Array.getD_eq_getD_getElem?] at h4'
  simp [results, Try.results74, go_sem, h4', e0, e1]
theorem hdr_big {b : List UInt8} (h : 4611686018427387904 < seqV b) : hdr b = none := by
  unfold hdr
  rw [if_neg (fun hh => by omega)]
theorem seq_big {b : List UInt8} {k : Nat} (hk : k < 8) (hl : b.length = 64) (h : 18014398509481984 < beV ((b.drop 1).take k)) : hdr b = none := by
  apply hdr_big
  have h1 := beV_take_le ((b.drop 1).take 8) k
  have h2 : ((b.drop 1).take 8).length = 8 := by simp; omega
  rw [h2, List.take_take, show min k 8 = k by omega] at h1
  have h3 : 256 ^ 1 ≤ 256 ^ (8 - k) := Nat.pow_le_pow_right (by omega) (by omega)
  have h4 : beV ((b.drop 1).take k) * 256 ≤ beV ((b.drop 1).take k) * 256 ^ (8 - k) := Nat.mul_le_mul_left _ (by simpa using h3)
  unfold seqV
  omega
set_option maxRecDepth 100000 in
set_option maxHeartbeats 2000000 in
theorem rrec_any (g : Nat → List UInt8) (N at_ behind : Nat) (s0 f0 : Value) (st lf : Int) (A : Option Addr) (c B : Nat) (w : World) (hr : Rd w B A (strs ((List.range N).map g))) (hB : B ≤ w.heap.size) (hg : ∀ i, i < N → (g i).length = 64) (ha : at_ < N) (hb : behind ≤ N) (hN : N ≤ 4096) :
    Calls Try.prog 74 #[.agg #[s0, .slice A N c, f0, .int .i64 st, .int .i64 lf], .int .i64 (at_ : Int), .int .i64 (behind : Int)] w fun e w' => e = .returned (recOV (recO g at_ behind)) ∧ Below w.heap.size w w' := by
  have hb0 : Below w.heap.size w ((w.alloc (.cells #[s0, .slice A N c, f0, .int .i64 st, .int .i64 lf] 33)).alloc (.cells #[.int .i64 0, .string ⟨#[]⟩] 97)) := ((Below.refl _ _).alloc (Nat.le_refl _) _).alloc (by simp) _
  have hg0 : ((w.alloc (.cells #[s0, .slice A N c, f0, .int .i64 st, .int .i64 lf] 33)).alloc (.cells #[.int .i64 0, .string ⟨#[]⟩] 97)).heap[w.heap.size]? = some (.cells #[s0, .slice A N c, f0, .int .i64 st, .int .i64 lf] 33 (0, 0)) := (Below.heap_alloc _ _ _ (by simp)).trans (heap_alloc_new w _)
  have hg1 : ((w.alloc (.cells #[s0, .slice A N c, f0, .int .i64 st, .int .i64 lf] 33)).alloc (.cells #[.int .i64 0, .string ⟨#[]⟩] 97)).heap[w.heap.size + 1]? = some (.cells #[.int .i64 0, .string ⟨#[]⟩] 97 (0, 0)) := by
    have := heap_alloc_new (w.alloc (.cells #[s0, .slice A N c, f0, .int .i64 st, .int .i64 lf] 33)) (.cells #[.int .i64 0, .string ⟨#[]⟩] 97)
    simpa using this
  have hr0 := hr.below hb0 hB
  obtain ⟨b, hbe⟩ : ∃ b, b = g at_ := ⟨_, rfl⟩
  have hbl : b.length = 64 := by rw [hbe]; exact hg at_ ha
  obtain ⟨ab, ao, rfl, hab, hcell⟩ := hr0.get (k := at_) (by simp [strs, ha])
  have haI : (at_ : Int) < (N : Int) := by omega
  have hNI : (N : Int) ≤ 4096 := by omega
  have hbI : (behind : Int) ≤ (N : Int) := by omega
  have hbz : (⟨b.toArray⟩ : ByteArray).size = 64 := by simp [ByteArray.size, hbl]
  have HH := Lib.hid (And.intro hb0 (And.intro hg (And.intro hr0 (And.intro hbe hbl))))
  have hstr : (strs ((List.range N).map g))[at_]'(by simp [strs, ha]) = .string ⟨b.toArray⟩ := by rw [hbe]; simp [strs]
  rw [hstr] at hcell
  clear hr0 hr hg hbe hstr
  go_enter Try.func74, Try.ntmps74
  go_upto_region 1 with (fail)
  generalize (w.alloc (.cells #[s0, .slice (some ⟨ab, ao, none⟩) N c, f0, .int .i64 st, .int .i64 lf] 33)).alloc (.cells #[.int .i64 0, .string ⟨#[]⟩] 97) = W0 at hb0 hg0 hg1 HH hcell ⊢
  have x1 := cell_of_row W0 w.heap.size 1 _ _ _ hg0
  have r0 := cell_of_row W0 (w.heap.size + 1) 0 _ _ _ hg1
  have r1 := cell_of_row W0 (w.heap.size + 1) 1 _ _ _ hg1
  have z0 := frozen_of_row W0 (w.heap.size + 1) 0 _ _ hg1
  have z1 := frozen_of_row W0 (w.heap.size + 1) 1 _ _ hg1
  have HB := Lib.hid (And.intro hb0 (And.intro hg0 hg1))
  clear hb0 hg0 hg1
  go_upto_block 0 with (fail)
  go_cut [9, 10] from 19 to 32 (fun u _ w' => u = .int .i64 (seqV b : Int) ∧ w' = W0 ∧ seqV b ≤ 4611686018427388159)
  case first =>
    go_wp2
    go_loop [9, 10] (fun u i => ∃ k : Nat, k ≤ 8 ∧ i = .int .i64 (1 + (k : Int)) ∧ u = .int .i64 (beV ((b.drop 1).take k) : Int) ∧ beV ((b.drop 1).take k) ≤ 4611686018427388159) (fun _ i => 9 - (intOf i).toNat)
    case atStart => exact ⟨0, by omega, rfl, rfl, by simp [beV]⟩
    case round =>
      obtain ⟨k, hk, rfl, rfl, hle⟩ := hrel
      by_cases hk8 : k < 8
      · have hkI : (1 : Int) + (k : Int) < 9 := by omega
        have hkJ : (0 : Int) ≤ 1 + (k : Int) := by omega
        have hkN : ((1 : Int) + (k : Int)).toNat = 1 + k := by omega
        have hd8 : ((b.drop 1)).length = 63 := by simp; omega
        obtain ⟨x, hx⟩ : ∃ x, x = b[1 + k]'(by omega) := ⟨_, rfl⟩
        have hxb : (⟨b.toArray⟩ : ByteArray)[1 + k]'(by rw [hbz]; omega) = x := by rw [hx]; rfl
        have hsn : beV ((b.drop 1).take (k + 1)) = beV ((b.drop 1).take k) * 256 + x.toNat := by
          rw [take_snoc' _ k (by omega), beV_snoc, hx]
          simp [Nat.add_comm]
        obtain ⟨V, hV⟩ : ∃ V, V = beV ((b.drop 1).take k) := ⟨_, rfl⟩
        rw [← hV] at hsn ⊢
        have hxl : (x.toNat : Int) ≤ 255 := by have := x.toNat_lt; omega
        by_cases hbig : 18014398509481984 < (V : Int)
        · have HX := Lib.hid (And.intro hV hbig)
          clear hV hsn hx hxb
          go_wp2
          have hno : recO g at_ behind = none := recO_none (by rw [← HH.out.2.2.2.1]; exact seq_big hk8 hbl (by rw [← HX.out.1]; have := HX.out.2; omega))
          exact bodyPost_ret (resRec (set2 HB.out.2.2 _ _) _ rfl) rfl ⟨by rw [hno]; rfl, below_set2 HB.out.1 (by omega) _ _⟩
        · have HX := Lib.hid hsn
          have hVl : (V : Int) ≤ 18014398509481984 := by omega
          clear hV hsn hx hbig
          go_wp2
          exact ⟨⟨k + 1, by omega, by simp; omega, by rw [HX.out]; simp, by rw [HX.out]; omega⟩, by simp [intOf]; omega⟩
      · obtain rfl : k = 8 := by omega
        go_wp2
        go_meet
        exact ⟨by simp [seqV], rfl, hle⟩
  case rest =>
    obtain ⟨rfl, rfl, hsl⟩ := hcut
    obtain ⟨x9, hx9⟩ : ∃ x, x = b[9]'(by omega) := ⟨_, rfl⟩
    obtain ⟨x10, hx10⟩ : ∃ x, x = b[10]'(by omega) := ⟨_, rfl⟩
    have i9 : (⟨b.toArray⟩ : ByteArray)[9]'(by rw [hbz]; omega) = x9 := by rw [hx9]; rfl
    have i10 : (⟨b.toArray⟩ : ByteArray)[10]'(by rw [hbz]; omega) = x10 := by rw [hx10]; rfl
    have hlen : lenV b = x9.toNat * 256 + x10.toNat := by rw [lenV_two b hbl, hx9, hx10]
    have l9 := x9.toNat_lt
    have l10 := x10.toNat_lt
    have q1 : IntKind.i64.wrap ((x9.toNat : Int) * 256) = (x9.toNat : Int) * 256 := IntWalk.i64_in _ (by omega)
    have q2 : IntKind.i64.wrap ((x9.toNat : Int) * 256 + (x10.toNat : Int)) = (lenV b : Int) := by rw [hlen]; rw [IntWalk.i64_in _ (by omega)]; omega
    have q3 : IntKind.i64.wrap (x9.toNat : Int) = (x9.toNat : Int) := IntWalk.i64_in _ (by omega)
    have q4 : IntKind.i64.wrap (x10.toNat : Int) = (x10.toNat : Int) := IntWalk.i64_in _ (by omega)
    clear hx9 hx10 hlen
    go_upto_region 9 with (fail)
    go_quiet (fail)
    have hw2 : Below w.heap.size w (wc.drewN nq) := below_draws HB.out.1 nq
    have hg0 : (wc.drewN nq).heap[w.heap.size]? = some (.cells #[s0, .slice (some ⟨ab, ao, none⟩) N c, f0, .int .i64 st, .int .i64 lf] 33 (0, 0)) := HB.out.2.1
    have hg1 : (wc.drewN nq).heap[w.heap.size + 1]? = some (.cells #[.int .i64 0, .string ⟨#[]⟩] 97 (0, 0)) := HB.out.2.2
    have hr2 : Rd (wc.drewN nq) B (some ⟨ab, ao, none⟩) (strs ((List.range N).map g)) := HH.out.2.2.1.drewN nq
    clear hcell x1 r0 r1 z0 z1 i9 i10 l9 l10 q1 q2 q3 q4
    generalize wc.drewN nq = W2 at hw2 hg0 hg1 hr2 ⊢
    have r0 := cell_of_row W2 (w.heap.size + 1) 0 _ _ _ hg1
    have r1 := cell_of_row W2 (w.heap.size + 1) 1 _ _ _ hg1
    have z0 := frozen_of_row W2 (w.heap.size + 1) 0 _ _ hg1
    have z1 := frozen_of_row W2 (w.heap.size + 1) 1 _ _ hg1
    have HW := Lib.hid (And.intro hw2 (And.intro hg0 (And.intro hg1 hr2)))
    have hdef : hdr b = if 1 ≤ seqV b ∧ seqV b ≤ 4611686018427387904 ∧ lenV b ≤ 4000 ∧ b = headL (seqV b) (lenV b) then some (seqV b, lenV b) else none := rfl
    obtain ⟨S, hS⟩ : ∃ S, S = seqV b := ⟨_, rfl⟩
    obtain ⟨Y, hY⟩ : ∃ Y, Y = lenV b := ⟨_, rfl⟩
    rw [← hS, ← hY] at hdef
    rw [← hS] at hsl
    rw [← hS, ← hY]
    clear hw2 hg0 hg1 hr2 hS hY
    have hbw : w.heap.size ≤ w.heap.size + 1 := by omega
    by_cases hbad : S < 1 ∨ 4611686018427387904 < S ∨ 4000 < Y
    · have hno : recO g at_ behind = none := recO_none (by rw [← HH.out.2.2.2.1, hdef, if_neg (fun hh => by omega)])
      have HNO := Lib.hid hno
      have hbad' : (S : Int) < 1 ∨ (¬ (S : Int) < 1 ∧ (4611686018427387904 : Int) < (S : Int)) ∨ (¬ (S : Int) < 1 ∧ ¬ (4611686018427387904 : Int) < (S : Int) ∧ (4000 : Int) < (Y : Int)) := by omega
      clear hbad hno hdef hsl
      obtain ⟨X, hX⟩ : ∃ X : Int, X = (S : Int) := ⟨_, rfl⟩
      rw [← hX] at hbad' ⊢
      clear hX
      rcases hbad' with h1 | ⟨h1, h2⟩ | ⟨h1, h2, h3⟩
      all_goals
        go_wp2
        exact bodyPost_ret (resRec (set2 HW.out.2.2.1 _ _) _ rfl) rfl ⟨by rw [HNO.out]; rfl, below_set2 HW.out.1 hbw _ _⟩
    · have hho := rHead_any S Y W2 (by omega) (by omega)
      obtain ⟨X, hX⟩ : ∃ X : Int, X = (S : Int) := ⟨_, rfl⟩
      have h1 : ¬ X < 1 := by omega
      have h2 : ¬ (4611686018427387904 : Int) < X := by omega
      have h3 : ¬ (4000 : Int) < (Y : Int) := by omega
      have HRG := Lib.hid (show 1 ≤ S ∧ S ≤ 4611686018427387904 ∧ Y ≤ 4000 by omega)
      rw [← hX] at hho ⊢
      have HHO := Lib.hid hho
      have HX := Lib.hid hX
      have HDF := Lib.hid hdef
      clear hbad hho hX hdef hsl
      by_cases hbe : b = headL S Y
      · have HHO2 := HHO.out
        rw [← hbe] at HHO2
        have HHO := Lib.hid HHO2
        have hsx : hdr b = some (S, Y) := by rw [HDF.out, if_pos ⟨HRG.out.1, HRG.out.2.1, HRG.out.2.2, hbe⟩]
        have hro : recO g at_ behind = if behind < at_ + 1 + secs Y then none else some (S, (cat g (at_ + 1) (secs Y)).take Y) := by unfold recO; rw [← HH.out.2.2.2.1, hsx]
        have hse := fun W => rsecs_any Y W (by have := HRG.out.2.2; omega)
        have hD6 : secs Y ≤ 63 := by have := HRG.out.2.2; unfold secs; omega
        have hY64 : Y ≤ 64 * secs Y := by unfold secs; omega
        obtain ⟨D, hD⟩ : ∃ D, D = secs Y := ⟨_, rfl⟩
        rw [← hD] at hro hD6 hY64
        rw [← hD] at hse
        have HSE := Lib.hid hse
        have HRO := Lib.hid hro
        have hDI : (D : Int) ≤ 63 := by omega
        clear HHO2 hbe hsx hro hse hD
        by_cases hfar : behind < at_ + 1 + D
        · have hfI : (behind : Int) < (at_ : Int) + 1 + (D : Int) := by omega
          have hno : recO g at_ behind = none := by rw [HRO.out, if_pos hfar]
          have HNO := Lib.hid hno
          clear hno hfar
          go_wp2_with (first
            | (go_at_call 27; (with_reducible refine HHO.out.mono ?_); rintro e w3 ⟨rfl, hb3⟩; have hg3 := (hb3.block (w.heap.size + 1) (heap_lt HW.out.2.2.1)).trans HW.out.2.2.1; have p0 := cell_of_row _ (w.heap.size + 1) 0 _ _ _ hg3; have p1 := cell_of_row _ (w.heap.size + 1) 1 _ _ _ hg3; have y0 := frozen_of_row _ (w.heap.size + 1) 0 _ _ hg3; have y1 := frozen_of_row _ (w.heap.size + 1) 1 _ _ hg3; have HG3 := Lib.hid hg3; clear hg3)
            | (go_at_call 47; (with_reducible refine (HSE.out _).mono ?_); rintro e w4 ⟨rfl, rfl⟩))
          exact bodyPost_ret (resRec (set2 HG3.out _ _) _ rfl) rfl ⟨by rw [HNO.out]; rfl, below_set2 (HW.out.1.trans (lower' hb3 HW.out.1.size)) hbw _ _⟩
        · have hfI : ¬ (behind : Int) < (at_ : Int) + 1 + (D : Int) := by omega
          have hyes : recO g at_ behind = some (S, (cat g (at_ + 1) D).take Y) := by rw [HRO.out, if_neg hfar]
          have HYES := Lib.hid hyes
          clear hyes
          go_upto_region 13 with (first
            | (go_at_call 27; (with_reducible refine HHO.out.mono ?_); rintro e w3 ⟨rfl, hb3⟩; have hg3 := (hb3.block (w.heap.size + 1) (heap_lt HW.out.2.2.1)).trans HW.out.2.2.1; have p0 := cell_of_row _ (w.heap.size + 1) 0 _ _ _ hg3; have p1 := cell_of_row _ (w.heap.size + 1) 1 _ _ _ hg3; have y0 := frozen_of_row _ (w.heap.size + 1) 0 _ _ hg3; have y1 := frozen_of_row _ (w.heap.size + 1) 1 _ _ hg3; have HG3 := Lib.hid hg3; clear hg3)
            | (go_at_call 47; (with_reducible refine (HSE.out _).mono ?_); rintro e w4 ⟨rfl, rfl⟩))
          have hw3 := HW.out.1.trans (lower' hb3 HW.out.1.size)
          have x1 := cell_of_row w3 w.heap.size 1 _ _ _ ((hb3.block w.heap.size (heap_lt HW.out.2.1)).trans HW.out.2.1)
          have hr3 := HW.out.2.2.2.below hb3 (Nat.le_trans hB HW.out.1.size)
          have HV := Lib.hid (And.intro hw3 hr3)
          clear hw3 hr3 HHO HRO HDF
          go_wp2
          go_loop [12, 13] (fun u i => ∃ k : Nat, k ≤ D ∧ i = .int .i64 (k : Int) ∧ u = .string ⟨(cat g (at_ + 1) k).toArray⟩) (fun _ i => D - (intOf i).toNat)
          case atStart => exact ⟨0, by omega, rfl, rfl⟩
          case round =>
            obtain ⟨k, hk, rfl, rfl⟩ := hrel
            by_cases hkD : k < D
            · have hkI : (k : Int) < (D : Int) := by omega
              have hkN : (at_ : Int) + 1 + (k : Int) < (N : Int) := by omega
              obtain ⟨ab2, ao2, e2, hab2, hc2⟩ := HV.out.2.get (k := at_ + 1 + k) (by simp [strs]; omega)
              cases e2
              have hc3 : w3.cell? ⟨ab, ao + (at_ + 1 + k), none⟩ = some (.string ⟨(g (at_ + 1 + k)).toArray⟩) := by rw [hc2]; simp [strs]
              have hns : ¬ 9223372036854775807 < (cat g (at_ + 1) k).length + (g (at_ + 1 + k)).length := by
                rw [cat_len (fun i hi => HH.out.2.1 _ (by omega)), HH.out.2.1 _ (by omega)]
                omega
              clear hc2
              go_wp2_with (go_at_call 47; (with_reducible refine (HSE.out _).mono ?_); rintro e w4 ⟨rfl, rfl⟩)
              exact ⟨⟨k + 1, hkD, by simp, by rw [ba_app, cat_succ]⟩, by simp [intOf]; omega⟩
            · obtain rfl : k = D := by omega
              have hkI : ¬ (k : Int) < (k : Int) := by omega
              have hcl : (cat g (at_ + 1) k).length = 64 * k := cat_len (fun i hi => HH.out.2.1 _ (by omega))
              have hYc : (Y : Int) ≤ ((cat g (at_ + 1) k).length : Int) := by omega
              have hex := ba_take (cat g (at_ + 1) k) Y
              clear hcl
              go_wp2_with (go_at_call 47; (with_reducible refine (HSE.out _).mono ?_); rintro e w4 ⟨rfl, rfl⟩)
              exact bodyPost_ret (resRec (set2 HG3.out _ _) _ rfl) rfl ⟨by rw [HYES.out, HX.out]; rfl, below_set2 HV.out.1 hbw _ _⟩
      · have hno : recO g at_ behind = none := recO_none (by rw [← HH.out.2.2.2.1, HDF.out, if_neg (fun hh => hbe hh.2.2.2)])
        have HNO := Lib.hid hno
        clear hno
        have hbf : ¬ (⟨b.toArray⟩ : ByteArray) = ⟨(headL S Y).toArray⟩ := by intro e; apply hbe; simpa using e
        go_wp2_with (go_at_call 27; (with_reducible refine HHO.out.mono ?_); rintro e w3 ⟨rfl, hb3⟩; have hg3 := (hb3.block (w.heap.size + 1) (heap_lt HW.out.2.2.1)).trans HW.out.2.2.1; have p0 := cell_of_row _ (w.heap.size + 1) 0 _ _ _ hg3; have p1 := cell_of_row _ (w.heap.size + 1) 1 _ _ _ hg3; have y0 := frozen_of_row _ (w.heap.size + 1) 0 _ _ hg3; have y1 := frozen_of_row _ (w.heap.size + 1) 1 _ _ hg3; have HG3 := Lib.hid hg3; clear hg3)
        exact bodyPost_ret (resRec (set2 HG3.out _ _) _ rfl) rfl ⟨by rw [HNO.out]; rfl, below_set2 (HW.out.1.trans (lower' hb3 HW.out.1.size)) hbw _ _⟩
end Go.Proofs.Ytdjcpjfomgfjlaa
