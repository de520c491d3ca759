/- ValEE, what this seat can fill of it. -/
import Derived.Test.YtgjjdmkoamjdpaaGreatDoorProg
import Derived.Test.YtgjjdmkoamjdpaaGreatDoorValDD
import Derived.WalkKit
import Derived.WalkSpells
import Derived.WalkLawsBesides
import Derived.Deep.QuietTactic
import Derived.BigQuiet
import Derived.KernelRfl
import Derived.Lib.Hide
namespace Go.Proofs.YtgjjdmkoamjdpaaGreatDoor
/- val.read. -/
open Go.RowKit

theorem rdG_le : ∀ (l : List UInt8) (i u : Nat), i ≤ 9 → u < 128 ^ i → (rdG i u l).1 ≤ 18446744073709551615 ∧ (rdG i u l).2 ≤ 10
  | [], _, _, _, _ => by simp [rdG]
  | c :: t, i, u, hi, hu => by
    rw [rdG]
    have hc : c.toNat < 256 := UInt8.toNat_lt _
    split
    · simp
    · rename_i h1
      have hod := (or_digit i u c.toNat hi hu (fun h => by omega)).2
      split
      · exact rdG_le t (i + 1) _ (by omega) hod
      · split
        · simp
        · refine ⟨?_, by show i + 1 ≤ 10; omega⟩
          show u + c.toNat % 128 * 128 ^ i ≤ _
          have h99 : (128 : Nat) ^ 9 = 9223372036854775808 := by decide
          by_cases h : i = 9
          · subst h
            have hm : c.toNat % 128 ≤ 1 := by omega
            have := Nat.mul_le_mul_right (128 ^ 9) hm
            omega
          · have : 128 ^ (i + 1) ≤ 128 ^ 9 := Nat.pow_le_pow_right (by omega) (by omega)
            omega
theorem rdD_le (l : List UInt8) : (rdD l).1 ≤ 18446744073709551615 ∧ (rdD l).2 ≤ 10 := rdG_le l 0 0 (by omega) (by simp)

theorem resRD {w : World} {b : Nat} {v0 v1 v2 : Value} (h : w.heap[b]? = some (.cells #[v0, v1, v2] 51 (0, 0))) (tmps : Array Value) (h2 : tmps.getD 2 undef = .pointer (some ⟨b, 0, none⟩)) :
    (results Tryz.f95 tmps).run Tryz.prog w = .ok (.tuple #[.agg #[v0, v1, v2], tmps.getD 3 undef]) w := by
  have e0 : w.cell? ⟨b, 0, none⟩ = some v0 := cell_of_row w b 0 _ _ _ h
  have e1 : w.cell? ⟨b, 1, none⟩ = some v1 := cell_of_row w b 1 _ _ _ h
  have e2 : w.cell? ⟨b, 2, none⟩ = some v2 := cell_of_row w b 2 _ _ _ h
  have h2' := h2
  simp only [Array.getD_eq_getD_getElem?] at h2'
  simp [results, Tryz.results95, go_sem, h2', e0, e1, e2]

/-- The value that bytes begin with, and how many; 0: none. -/
def rvV (l : List UInt8) : VVal × Nat :=
  if l.length < 2 then (noV, 0)
  else if (l.getD 0 0).toNat = 1 then (if (rdD (l.drop 1)).2 = 0 then (noV, 0) else (⟨1, unfN (rdD (l.drop 1)).1, ⟨#[]⟩⟩, 1 + (rdD (l.drop 1)).2))
  else if (l.getD 0 0).toNat = 3 then (if 1 < (l.getD 1 0).toNat then (noV, 0) else (⟨3, ((l.getD 1 0).toNat : Int), ⟨#[]⟩⟩, 2))
  else if (l.getD 0 0).toNat = 2 then rtV l
  else (noV, 0)

set_option maxRecDepth 100000 in
set_option maxHeartbeats 2000000 in
theorem read_any (A : Option Addr) (l : List UInt8) (n c B : Nat) (w : World) (hn : n = l.length) (hr : Rd w B A (u8s l)) (hB : B ≤ w.heap.size) (hl : l.length ≤ 140737488355328) (hc : l.length ≤ c) (hcm : c ≤ 9223372036854775807) (hT : Tabs w) :
    Calls Tryz.prog 95 #[.slice A n c] w fun e w' => e = .returned (.tuple #[.agg (rvV l).1.cells, .int .i64 ((rvV l).2 : Int)]) ∧ Below w.heap.size w w' := by
  subst hn
  have hZ := fun (v0 v1 v2 : Value) => heap_alloc_new w (.cells #[v0, v1, v2] 51)
  have hBZ : ∀ (o : Obj), Below w.heap.size w (w.alloc o) := fun o => (Below.refl _ _).alloc (Nat.le_refl _) _
  have hrW := fun (o : Obj) => hr.alloc hB o
  have HZ := Lib.hid hZ
  have HBZ := Lib.hid hBZ
  obtain ⟨X, hX⟩ : ∃ X, X = rvV l := ⟨_, rfl⟩
  rw [← hX]
  unfold rvV at hX
  have HX := Lib.hid hX
  clear hX hZ hBZ
  by_cases hlen : l.length < 2
  · have HXX := Lib.hid (HX.out.trans (if_pos hlen))
    have hlen' : (l.length : Int) < 2 := by omega
    clear HX hlen hrW
    go_enter Tryz.func95, Tryz.ntmps95
    go_wp2
    refine bodyPost_ret (resRD (HZ.out _ _ _) _ rfl) rfl ⟨?_, HBZ.out _⟩
    rw [HXX.out]
    rfl
  · have HX2 := Lib.hid (HX.out.trans (if_neg hlen))
    have hlen' : ¬ (l.length : Int) < 2 := by omega
    have h2 : 2 ≤ l.length := by omega
    obtain ⟨b, o, rfl, hb, hc0'⟩ := (hrW (.cells #[.int .i64 0, .int .i64 0, .string ⟨#[]⟩] 51)).byte (k := 0) (by omega)
    obtain ⟨b2, o2, hA2, hb2, hc1⟩ := (hrW (.cells #[.int .i64 0, .int .i64 0, .string ⟨#[]⟩] 51)).byte (k := 1) (by omega)
    injection hA2 with hA2
    injection hA2 with hA3 hA4
    subst hA3 hA4
    have hc0 := (show (w.alloc (.cells #[.int .i64 0, .int .i64 0, .string ⟨#[]⟩] 51)).cell? ⟨b, o, none⟩ = _ from hc0')
    obtain ⟨k0, hk0⟩ : ∃ m, m = (l.getD 0 0).toNat := ⟨_, rfl⟩
    have hk1 : (l[0]'(by omega)).toNat = k0 := by rw [hk0]; simp [List.getD, List.getElem?_eq_getElem (show 0 < l.length by omega)]
    obtain ⟨m, hm⟩ : ∃ m, m = (l.getD 1 0).toNat := ⟨_, rfl⟩
    have hm1 : (l[1]'(by omega)).toNat = m := by rw [hm]; simp [List.getD, List.getElem?_eq_getElem (show 1 < l.length by omega)]
    rw [hk1] at hc0
    rw [hm1] at hc1
    rw [← hk0, ← hm] at HX2
    have hk256 : k0 < 256 := by rw [hk0]; exact UInt8.toNat_lt _
    have hm256 : m < 256 := by rw [hm]; exact UInt8.toNat_lt _
    clear hk1 hm1 hk0 hm hc0' HX hlen
    by_cases h1 : k0 = 1
    · have HX3 := Lib.hid (HX2.out.trans (if_pos h1))
      have hcut := (hrW (.cells #[.int .i64 0, .int .i64 0, .string ⟨#[]⟩] 51)).cut (k := 1) (size := 1) (cap := c) (n := l.length) (by rw [u8s_length]; simp) (by omega) hc
      rw [Nat.mul_one, ← u8s_drop, Option.map_some, plainAdd, if_neg (by omega)] at hcut
      have hrd := readDigits_any _ (l.drop 1) (l.length - 1) (c - 1) B _ (by rw [List.length_drop]) hcut (by rw [List.length_drop]; omega)
      have hle := rdD_le (l.drop 1)
      obtain ⟨⟨u, z⟩, hP⟩ : ∃ P, P = rdD (l.drop 1) := ⟨_, rfl⟩
      rw [← hP] at hrd hle HX3
      simp only at hrd hle HX3
      have HRD := Lib.hid hrd
      have HUF := Lib.hid (fun W => unfold_any u W hle.1)
      have hz10 := hle.2
      clear hrd hle hP hcut hrW HX2 hT
      have hc1' : (1 : Int) ≤ (c : Int) := by omega
      have hl1' : (1 : Int) ≤ (l.length : Int) := by omega
      by_cases hz : z = 0
      · have HXX := Lib.hid (HX3.out.trans (if_pos hz))
        subst h1 hz
        clear HX3
        go_enter Tryz.func95, Tryz.ntmps95
        go_wp2_with (go_at_call 114; (with_reducible refine HRD.out.mono ?_); rintro e w' ⟨rfl, rfl⟩)
        refine bodyPost_ret (resRD (HZ.out _ _ _) _ rfl) rfl ⟨?_, HBZ.out _⟩
        rw [HXX.out]
        rfl
      · have HXX := Lib.hid (HX3.out.trans (if_neg hz))
        have hz' : ((z : Int) == 0) = false := by rw [beq_eq_false_iff_ne]; omega
        subst h1
        clear HX3
        go_enter Tryz.func95, Tryz.ntmps95
        go_wp2_with (first
          | (go_at_call 114; (with_reducible refine HRD.out.mono ?_); rintro e w' ⟨rfl, rfl⟩)
          | (go_at_call 115; (with_reducible refine (HUF.out _).mono ?_); rintro e w' ⟨rfl, rfl⟩))
        refine bodyPost_ret (resRD (HZ.out _ _ _) _ rfl) rfl ⟨?_, HBZ.out _⟩
        rw [HXX.out]
        rfl
    · have HX3 := Lib.hid (HX2.out.trans (if_neg h1))
      have n1 : ((k0 : Int) == 1) = false := by rw [beq_eq_false_iff_ne]; omega
      clear HX2
      by_cases h3 : k0 = 3
      · have HX4 := Lib.hid (HX3.out.trans (if_pos h3))
        clear HX3 hrW hT
        by_cases hm1 : 1 < m
        · have HXX := Lib.hid (HX4.out.trans (if_pos hm1))
          have hm1' : (1 : Int) < (m : Int) := by omega
          subst h3
          clear HX4
          go_enter Tryz.func95, Tryz.ntmps95
          go_wp2
          refine bodyPost_ret (resRD (HZ.out _ _ _) _ rfl) rfl ⟨?_, HBZ.out _⟩
          rw [HXX.out]
          rfl
        · have HXX := Lib.hid (HX4.out.trans (if_neg hm1))
          have hm1' : ¬ (1 : Int) < (m : Int) := by omega
          subst h3
          clear HX4
          go_enter Tryz.func95, Tryz.ntmps95
          go_wp2
          refine bodyPost_ret (resRD (HZ.out _ _ _) _ rfl) rfl ⟨?_, HBZ.out _⟩
          rw [HXX.out]
          rfl
      · have HX4 := Lib.hid (HX3.out.trans (if_neg h3))
        have n3 : ((k0 : Int) == 3) = false := by rw [beq_eq_false_iff_ne]; omega
        clear HX3
        by_cases h22 : k0 = 2
        · have HXX := Lib.hid (HX4.out.trans (if_pos h22))
          have hrt := readText_any (some ⟨b, o, none⟩) l l.length c B (w.alloc (.cells #[.int .i64 0, .int .i64 0, .string ⟨#[]⟩] 51)) rfl (hrW _) (by simp; omega) hl h2 hc hcm (hT.alloc _)
          obtain ⟨⟨⟨k5, n5, s5⟩, z5⟩, hY⟩ : ∃ Y, Y = rtV l := ⟨_, rfl⟩
          rw [← hY] at hrt HXX
          simp only [VVal.cells] at hrt
          have HRT := Lib.hid hrt
          have hsz : w.heap.size < (w.alloc (.cells #[.int .i64 0, .int .i64 0, .string ⟨#[]⟩] 51)).heap.size := by simp
          have HSZ := Lib.hid hsz
          subst h22
          clear HX4 hrt hY hrW hT hsz n1 n3 h1 h3
          go_enter Tryz.func95, Tryz.ntmps95
          go_wp2_with fail
          refine HRT.out.mono ?_
          rintro e w3 ⟨rfl, hb3⟩
          have hg0 := (hb3.block w.heap.size HSZ.out).trans (HZ.out _ _ _)
          have hB3 := (HBZ.out _).trans (hb3.mono (Nat.le_of_lt HSZ.out))
          clear hb3
          have e0 := cell_of_row w3 w.heap.size 0 _ _ _ hg0
          have e1 := cell_of_row w3 w.heap.size 1 _ _ _ hg0
          have e2 := cell_of_row w3 w.heap.size 2 _ _ _ hg0
          have f0 := frozen_of_row w3 w.heap.size 0 _ _ hg0
          have f1 := frozen_of_row w3 w.heap.size 1 _ _ hg0
          have f2 := frozen_of_row w3 w.heap.size 2 _ _ hg0
          have HG0 := Lib.hid hg0
          clear hg0
          go_wp2
          refine bodyPost_ret (resRD (vSet3 HG0.out _ _ _) _ rfl) rfl ⟨?_, vBelow_set3 hB3 (Nat.le_refl _) _ _ _⟩
          rw [HXX.out]
          rfl
        · have HXX := Lib.hid (HX4.out.trans (if_neg h22))
          have n2 : ((k0 : Int) == 2) = false := by rw [beq_eq_false_iff_ne]; omega
          clear HX4 hrW hT
          go_enter Tryz.func95, Tryz.ntmps95
          go_wp2
          refine bodyPost_ret (resRD (HZ.out _ _ _) _ rfl) rfl ⟨?_, HBZ.out _⟩
          rw [HXX.out]
          rfl
end Go.Proofs.YtgjjdmkoamjdpaaGreatDoor
