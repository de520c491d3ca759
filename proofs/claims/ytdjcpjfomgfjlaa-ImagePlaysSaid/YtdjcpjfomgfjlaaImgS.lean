/- The document's image: area. -/
import Derived.Test.YtdjcpjfomgfjlaaImgR
import Derived.Test.YtdjcpjfomgfjlaaImgD
namespace Go.Proofs.Ytdjcpjfomgfjlaa
open Go.RowKit Go.Maps

theorem ahd_big {b : List UInt8} {k : Nat} (room : Nat) (hk : k < 8) (hl : b.length = 64) (h : 18014398509481984 < beV ((b.drop 1).take k)) : ahd room b = none := by
  have h1 := beV_take_le ((b.drop 1).take 8) k
  have h2 : ((b.drop 1).take 8).length = 8 := by simp; omega
  rw [h2, List.take_take, show min k 8 = k by omega] at h1
  have h3 : 256 ^ 1 ≤ 256 ^ (8 - k) := Nat.pow_le_pow_right (by omega) (by omega)
  have h4 : beV ((b.drop 1).take k) * 256 ≤ beV ((b.drop 1).take k) * 256 ^ (8 - k) := Nat.mul_le_mul_left _ (by simpa using h3)
  unfold ahd
  rw [if_neg]
  rintro ⟨_, hx, _⟩
  unfold seqV at hx
  omega
set_option maxRecDepth 100000 in
set_option maxHeartbeats 2000000 in
theorem rarea_any (g : Nat → List UInt8) (N at_ count : Nat) (s0 f0 : Value) (st lf : Int) (A : Option Addr) (c B : Nat) (w : World) (hr : Rd w B A (strs ((List.range N).map g))) (hB : B ≤ w.heap.size) (hg : ∀ i, i < N → (g i).length = 64) (ha : at_ < N) (hN : N ≤ 4096) (hc2 : 2 ≤ count) (hc : count ≤ 4096) (R : Nat) (hR : R = roomI count) :
    Calls Try.prog 82 #[.agg #[s0, .slice A N c, f0, .int .i64 st, .int .i64 lf], .int .i64 (at_ : Int), .int .i64 (count : Int)] w fun e w' => e = .returned (.tuple #[.int .i64 (seqO (ahd R (g at_)) : Int), .int .i64 (sizO (ahd R (g at_)) : Int)]) ∧ Below w.heap.size w w' := by
  have hb0 : Below w.heap.size w (w.alloc (.cells #[s0, .slice A N c, f0, .int .i64 st, .int .i64 lf] 33)) := (Below.refl _ _).alloc (Nat.le_refl _) _
  have hg0 := heap_alloc_new w (.cells #[s0, .slice A N c, f0, .int .i64 st, .int .i64 lf] 33)
  have hr0 := hr.below hb0 hB
  obtain ⟨b, hbe⟩ : ∃ b, b = g at_ := ⟨_, rfl⟩
  have hbl : b.length = 64 := by rw [hbe]; exact hg at_ ha
  obtain ⟨ab, ao, rfl, hab, hcell⟩ := hr0.get (k := at_) (by simp [strs, ha])
  have haI : (at_ : Int) < (N : Int) := by omega
  have hNI : (N : Int) ≤ 4096 := by omega
  have hcI : (count : Int) ≤ 4096 := by omega
  have hcJ : (2 : Int) ≤ (count : Int) := by omega
  have hroom : 64 * ((count : Int) - 1) = (R : Int) := by rw [hR]; unfold roomI; omega
  have hbz : (⟨b.toArray⟩ : ByteArray).size = 64 := by simp [ByteArray.size, hbl]
  have hRl : R ≤ 262144 := by rw [hR]; unfold roomI; omega
  have HH := Lib.hid (And.intro hb0 (And.intro hbl hRl))
  have hstr : (strs ((List.range N).map g))[at_]'(by simp [strs, ha]) = .string ⟨b.toArray⟩ := by rw [hbe]; simp [strs]
  rw [hstr] at hcell
  rw [← hbe]
  have HRM := Lib.hid hroom
  clear hr0 hr hg hbe hstr hR hRl hroom
  go_enter Try.func82, Try.ntmps82
  go_upto_region 1 with (fail)
  generalize w.alloc (.cells #[s0, .slice (some ⟨ab, ao, none⟩) N c, f0, .int .i64 st, .int .i64 lf] 33) = W0 at hb0 hg0 HH hcell ⊢
  have x1 := cell_of_row W0 w.heap.size 1 _ _ _ hg0
  clear hb0 hg0
  go_upto_block 0 with (fail)
  go_cut [9, 11] from 18 to 30 (fun u _ w' => u = .int .i64 (seqV b : Int) ∧ w' = W0 ∧ seqV b ≤ 4611686018427388159)
  case first =>
    go_wp2
    go_loop [9, 11] (fun u i => ∃ k : Nat, k ≤ 8 ∧ i = .int .i64 (1 + (k : Int)) ∧ u = .int .i64 (beV ((b.drop 1).take k) : Int) ∧ beV ((b.drop 1).take k) ≤ 4611686018427388159) (fun _ i => 9 - (intOf i).toNat)
    case atStart => exact ⟨0, by omega, rfl, rfl, by simp [beV]⟩
    case round =>
      obtain ⟨k, hk, rfl, rfl, hle⟩ := hrel
      by_cases hk8 : k < 8
      · have hkI : (1 : Int) + (k : Int) < 9 := by omega
        have hkJ : (0 : Int) ≤ 1 + (k : Int) := by omega
        have hkN : ((1 : Int) + (k : Int)).toNat = 1 + k := by omega
        have hd8 : ((b.drop 1)).length = 63 := by simp; omega
        obtain ⟨x, hx⟩ : ∃ x, x = b[1 + k]'(by omega) := ⟨_, rfl⟩
        have hxb : (⟨b.toArray⟩ : ByteArray)[1 + k]'(by rw [hbz]; omega) = x := by rw [hx]; rfl
        have hsn : beV ((b.drop 1).take (k + 1)) = beV ((b.drop 1).take k) * 256 + x.toNat := by
          rw [take_snoc' _ k (by omega), beV_snoc, hx]
          simp [Nat.add_comm]
        obtain ⟨V, hV⟩ : ∃ V, V = beV ((b.drop 1).take k) := ⟨_, rfl⟩
        rw [← hV] at hsn ⊢
        have hxl : (x.toNat : Int) ≤ 255 := by have := x.toNat_lt; omega
        by_cases hbig : 18014398509481984 < (V : Int)
        · have hno : ahd R b = none := ahd_big R hk8 hbl (by rw [← hV]; omega)
          have HX := Lib.hid hno
          clear hV hsn hx hxb hno
          go_wp2
          go_ret2
          exact ⟨by rw [HX.out]; rfl, HH.out.1⟩
        · have HX := Lib.hid hsn
          have hVl : (V : Int) ≤ 18014398509481984 := by omega
          clear hV hsn hx hbig
          go_wp2
          exact ⟨⟨k + 1, by omega, by simp; omega, by rw [HX.out]; simp, by rw [HX.out]; omega⟩, by simp [intOf]; omega⟩
      · obtain rfl : k = 8 := by omega
        go_wp2
        go_meet
        exact ⟨by simp [seqV], rfl, hle⟩
  case rest =>
    obtain ⟨rfl, rfl, hsl⟩ := hcut
    have hdef : ahd R b = if 1 ≤ seqV b ∧ seqV b ≤ 4611686018427387904 ∧ sizeV b ≤ R ∧ b = headI (seqV b) (sizeV b) then some (seqV b, sizeV b) else none := rfl
    have hszl := sizeV_lt b
    obtain ⟨S, hS⟩ : ∃ S, S = seqV b := ⟨_, rfl⟩
    rw [← hS] at hdef hsl
    rw [← hS]
    clear hS
    have HDF := Lib.hid (And.intro hdef (And.intro hsl hszl))
    clear hdef hsl hszl hcell x1
    go_upto_block 2 with (fail)
    go_cut [10, 12] from 31 to 41 (fun u _ w' => u = .int .i64 (sizeV b : Int) ∧ Below w.heap.size w w')
    case first =>
      go_wp2
      go_loop [10, 12] (fun u i => ∃ k : Nat, k ≤ 4 ∧ i = .int .i64 (9 + (k : Int)) ∧ u = .int .i64 (beV ((b.drop 9).take k) : Int)) (fun _ i => 13 - (intOf i).toNat)
      case atStart => exact ⟨0, by omega, rfl, rfl⟩
      case round =>
        obtain ⟨k, hk, rfl, rfl⟩ := hrel
        by_cases hk4 : k < 4
        · have hkI : (9 : Int) + (k : Int) < 13 := by omega
          have hkJ : (0 : Int) ≤ 9 + (k : Int) := by omega
          have hkN : ((9 : Int) + (k : Int)).toNat = 9 + k := by omega
          have hbl := HH.out.2.1
          have hd8 : ((b.drop 9)).length = 55 := by simp; omega
          obtain ⟨x, hx⟩ : ∃ x, x = b[9 + k]'(by omega) := ⟨_, rfl⟩
          have hxb : (⟨b.toArray⟩ : ByteArray)[9 + k]'(by rw [hbz]; omega) = x := by rw [hx]; rfl
          have hsn : beV ((b.drop 9).take (k + 1)) = beV ((b.drop 9).take k) * 256 + x.toNat := by
            rw [take_snoc' _ k (by omega), beV_snoc, hx]
            simp [Nat.add_comm]
          have hlt : beV ((b.drop 9).take k) < 16777216 := by
            have := beV_lt ((b.drop 9).take k)
            have h2 : ((b.drop 9).take k).length ≤ 3 := by rw [List.length_take]; omega
            have h3 : 256 ^ ((b.drop 9).take k).length ≤ 256 ^ 3 := Nat.pow_le_pow_right (by omega) h2
            omega
          obtain ⟨V, hV⟩ : ∃ V, V = beV ((b.drop 9).take k) := ⟨_, rfl⟩
          rw [← hV] at hsn hlt ⊢
          have hxl : (x.toNat : Int) ≤ 255 := by have := x.toNat_lt; omega
          have hVl : (V : Int) < 16777216 := by omega
          have HX := Lib.hid hsn
          clear hV hsn hx hbl hd8 hlt
          go_wp2
          exact ⟨⟨k + 1, by omega, by simp; omega, by rw [HX.out]; simp⟩, by simp [intOf]; omega⟩
        · obtain rfl : k = 4 := by omega
          go_wp2
          go_meet
          exact ⟨rfl, HH.out.1⟩
    case rest =>
      obtain ⟨rfl, hwc⟩ := hcut
      have HDF2 := HDF.out
      obtain ⟨Y, hY⟩ : ∃ Y, Y = sizeV b := ⟨_, rfl⟩
      rw [← hY] at HDF2
      rw [← hY]
      have HD := Lib.hid HDF2
      have HB := Lib.hid hwc
      have hroom := HRM.out
      clear HDF2 HDF hY hwc
      by_cases hbad : S < 1 ∨ 4611686018427387904 < S ∨ R < Y
      · have hno : ahd R b = none := by rw [HD.out.1, if_neg (fun hh => by omega)]
        have HNO := Lib.hid hno
        have hbad' : (S : Int) < 1 ∨ (¬ (S : Int) < 1 ∧ (4611686018427387904 : Int) < (S : Int)) ∨ (¬ (S : Int) < 1 ∧ ¬ (4611686018427387904 : Int) < (S : Int) ∧ (R : Int) < (Y : Int)) := by omega
        clear hbad hno
        obtain ⟨X, hX⟩ : ∃ X : Int, X = (S : Int) := ⟨_, rfl⟩
        rw [← hX] at hbad' ⊢
        clear hX
        rcases hbad' with h1 | ⟨h1, h2⟩ | ⟨h1, h2, h3⟩
        all_goals
          go_wp2
          go_ret2
          exact ⟨by rw [HNO.out]; rfl, HB.out⟩
      · have hho := rHeadI_any S Y wc (by omega) (by have := HD.out.2.2; omega)
        obtain ⟨X, hX⟩ : ∃ X : Int, X = (S : Int) := ⟨_, rfl⟩
        have h1 : ¬ X < 1 := by omega
        have h2 : ¬ (4611686018427387904 : Int) < X := by omega
        have h3 : ¬ (R : Int) < (Y : Int) := by omega
        have HRG := Lib.hid (show 1 ≤ S ∧ S ≤ 4611686018427387904 ∧ Y ≤ R by omega)
        rw [← hX] at hho ⊢
        have HHO := Lib.hid hho
        have HX := Lib.hid hX
        clear hbad hho hX
        by_cases hbe : b = headI S Y
        · have HHO2 := HHO.out
          rw [← hbe] at HHO2
          have HHO := Lib.hid HHO2
          have hyes : ahd R b = some (S, Y) := by rw [HD.out.1, if_pos ⟨HRG.out.1, HRG.out.2.1, HRG.out.2.2, hbe⟩]
          have HYS := Lib.hid hyes
          clear HHO2 hbe hyes
          go_wp2_with (go_at_call 66; (with_reducible refine HHO.out.mono ?_); rintro e w3 ⟨rfl, hb3⟩; have HB3 := Lib.hid hb3; clear hb3)
          go_ret2
          exact ⟨by rw [HYS.out, HX.out]; rfl, HB.out.trans (lower' HB3.out HB.out.size)⟩
        · have hno : ahd R b = none := by rw [HD.out.1, if_neg (fun hh => hbe hh.2.2.2)]
          have HNO := Lib.hid hno
          have hbq : (b == headI S Y) = false := beq_eq_false_iff_ne.2 hbe
          clear hno
          go_wp2_with (go_at_call 66; (with_reducible refine HHO.out.mono ?_); rintro e w3 ⟨rfl, hb3⟩; have HB3 := Lib.hid hb3; clear hb3)
          go_ret2
          exact ⟨by rw [HNO.out]; rfl, HB.out.trans (lower' HB3.out HB.out.size)⟩
end Go.Proofs.Ytdjcpjfomgfjlaa
