/- ValDD, what this seat can fill of it. -/
import Derived.Test.YtgjjdmkoamjdpaaGreatDoorProg
import Derived.Test.YtgjjdmkoamjdpaaGreatDoorValCC
import Derived.Test.YtgjjdmkoamjdpaaGreatDoorRcV
import Derived.WalkKit
import Derived.WalkSpells
import Derived.WalkLawsBesides
import Derived.Deep.QuietTactic
import Derived.BigQuiet
import Derived.KernelRfl
import Derived.Lib.Hide
namespace Go.Proofs.YtgjjdmkoamjdpaaGreatDoor
/- val.readText. -/
open Go.RowKit

theorem resRT {w : World} {b : Nat} {v0 v1 v2 : Value} (h : w.heap[b]? = some (.cells #[v0, v1, v2] 51 (0, 0))) (tmps : Array Value) (h2 : tmps.getD 2 undef = .pointer (some ⟨b, 0, none⟩)) :
    (results Tryz.f116 tmps).run Tryz.prog w = .ok (.tuple #[.agg #[v0, v1, v2], tmps.getD 3 undef]) w := by
  have e0 : w.cell? ⟨b, 0, none⟩ = some v0 := cell_of_row w b 0 _ _ _ h
  have e1 : w.cell? ⟨b, 1, none⟩ = some v1 := cell_of_row w b 1 _ _ _ h
  have e2 : w.cell? ⟨b, 2, none⟩ = some v2 := cell_of_row w b 2 _ _ _ h
  have h2' := h2
  simp only [Array.getD_eq_getD_getElem?] at h2'
  simp [results, Tryz.results116, go_sem, h2', e0, e1, e2]

def noV : VVal := ⟨0, 0, ⟨#[]⟩⟩
def txV (l : List UInt8) : VVal := ⟨2, 0, ⟨l.toArray⟩⟩
/-- A text's value that bytes begin with, and how many; 0: none. -/
def rtV (l : List UInt8) : VVal × Nat :=
  if l.length < 2 + (l.getD 1 0).toNat then (noV, 0)
  else if ckN (txV ((l.drop 2).take (l.getD 1 0).toNat)) = 0 then (txV ((l.drop 2).take (l.getD 1 0).toNat), 2 + (l.getD 1 0).toNat) else (noV, 0)

set_option maxRecDepth 100000 in
set_option maxHeartbeats 2000000 in
theorem readText_any (A : Option Addr) (l : List UInt8) (n c B : Nat) (w : World) (hn : n = l.length) (hr : Rd w B A (u8s l)) (hB : B ≤ w.heap.size) (hl : l.length ≤ 140737488355328) (h2 : 2 ≤ l.length) (hc : l.length ≤ c) (hcm : c ≤ 9223372036854775807) (hT : Tabs w) :
    Calls Tryz.prog 116 #[.slice A n c] w fun e w' => e = .returned (.tuple #[.agg (rtV l).1.cells, .int .i64 ((rtV l).2 : Int)]) ∧ Below w.heap.size w w' := by
  subst hn
  have hBW : Below w.heap.size w (w.alloc (.cells #[.int .i64 0, .int .i64 0, .string ⟨#[]⟩] 51)) := (Below.refl _ _).alloc (Nat.le_refl _) _
  have hblk := heap_alloc_new w (.cells #[.int .i64 0, .int .i64 0, .string ⟨#[]⟩] 51)
  have hszW : (w.alloc (.cells #[.int .i64 0, .int .i64 0, .string ⟨#[]⟩] 51)).heap.size = w.heap.size + 1 := by simp
  have hrW := hr.alloc hB (.cells #[.int .i64 0, .int .i64 0, .string ⟨#[]⟩] 51)
  have HTW := Lib.hid (hT.alloc (.cells #[.int .i64 0, .int .i64 0, .string ⟨#[]⟩] 51))
  obtain ⟨b, o, rfl, hb, hc1⟩ := hrW.byte (k := 1) (by omega)
  obtain ⟨m, hm⟩ : ∃ m, m = (l.getD 1 0).toNat := ⟨_, rfl⟩
  have hm1 : (l[1]'(by omega)).toNat = m := by rw [hm]; simp [List.getD, List.getElem?_eq_getElem (show 1 < l.length by omega)]
  rw [hm1] at hc1
  have hm256 : m < 256 := by rw [hm]; exact UInt8.toNat_lt _
  obtain ⟨X, hX⟩ : ∃ X, X = rtV l := ⟨_, rfl⟩
  rw [← hX]
  unfold rtV at hX
  rw [← hm] at hX
  have HX := Lib.hid hX
  have HBLK := Lib.hid hblk
  have HBW := Lib.hid hBW
  have HSZ := Lib.hid hszW
  clear hX hblk hBW hszW hm hm1 hT hr
  by_cases hlen : l.length < 2 + m
  · have HXX := Lib.hid (HX.out.trans (if_pos hlen))
    have hlen' : (l.length : Int) < 2 + (m : Int) := by omega
    clear HX hlen hrW
    go_enter Tryz.func116, Tryz.ntmps116
    go_wp2
    refine bodyPost_ret (resRT HBLK.out _ rfl) rfl ⟨?_, HBW.out⟩
    rw [HXX.out]
    rfl
  · have HX2 := Lib.hid (HX.out.trans (if_neg hlen))
    have hlen' : ¬ (l.length : Int) < 2 + (m : Int) := by omega
    have hm2 : 2 + m ≤ l.length := by omega
    have hm2' : 2 + (m : Int) ≤ (c : Int) := by omega
    have hcut := hrW.cut (k := 2) (size := 1) (cap := c) (n := l.length) (by rw [u8s_length]; simp) (by omega) hc
    rw [Nat.mul_one, ← u8s_drop, Option.map_some, plainAdd] at hcut
    have hcut2 := hcut.take m
    rw [← u8s_take] at hcut2
    have hck := check_any (txV ((l.drop 2).take m))
    have hsz2 : ((l.drop 2).take m).length ≤ 256 := by rw [List.length_take]; omega
    have hqn : m = ((l.drop 2).take m).length := by rw [List.length_take, List.length_drop]; omega
    obtain ⟨S, hS⟩ : ∃ S, S = (l.drop 2).take m := ⟨_, rfl⟩
    rw [← hS] at hcut2 hck hsz2 hqn HX2
    clear hS
    replace hck := fun W (h : Tabs W) => hck W ⟨by show (List.toArray _).size ≤ _; rw [List.size_toArray]; omega, by show (-9223372036854775808 : Int) ≤ 0; omega, by show (0 : Int) ≤ 9223372036854775807; omega⟩ h
    have hXX : X = if ckN (txV S) = 0 then (txV S, 2 + m) else (noV, 0) := HX2.out
    obtain ⟨x, hx⟩ : ∃ x, x = ckN (txV S) := ⟨_, rfl⟩
    rw [← hx] at hck hXX
    simp only [VVal.cells, txV] at hck
    have HCK := Lib.hid hck
    have HXX := Lib.hid hXX
    clear hck hXX hx HX2
    subst hqn
    clear HX hlen hcut hrW
    by_cases hc2 : c = 2
    · rw [if_pos hc2] at hcut2
      have q := vStrAt0 (n := S.length) (c := 0) hcut2 rfl
      go_enter Tryz.func116, Tryz.ntmps116
      go_wp2_with fail
      refine (HCK.out _ (HTW.out.alloc _)).mono ?_
      rintro e w3 ⟨rfl, hb3⟩
      have hg0 := (hb3.block w.heap.size (by simp; omega)).trans (vAt_old HBLK.out (.cells #[.int .i64 2, .int .i64 0, .string ⟨S.toArray⟩] 51) (by rw [HSZ.out]; omega))
      have hh1 : ((w.alloc (.cells #[.int .i64 0, .int .i64 0, .string ⟨#[]⟩] 51)).alloc (.cells #[.int .i64 2, .int .i64 0, .string ⟨S.toArray⟩] 51)).heap[w.heap.size + 1]? = some (.cells #[.int .i64 2, .int .i64 0, .string ⟨S.toArray⟩] 51) := by
        have := heap_alloc_new (w.alloc (.cells #[.int .i64 0, .int .i64 0, .string ⟨#[]⟩] 51)) (.cells #[.int .i64 2, .int .i64 0, .string ⟨S.toArray⟩] 51)
        rw [HSZ.out] at this
        exact this
      have hg1 := (hb3.block (w.heap.size + 1) (by rw [World.size_alloc, HSZ.out]; omega)).trans hh1
      clear hh1
      have hB3 := (HBW.out.alloc HBW.out.size (.cells #[.int .i64 2, .int .i64 0, .string ⟨S.toArray⟩] 51)).trans (hb3.mono (by simp; omega))
      clear q hcut2 hb3
      have e0 := cell_of_row w3 w.heap.size 0 _ _ _ hg0
      have e1 := cell_of_row w3 w.heap.size 1 _ _ _ hg0
      have e2 := cell_of_row w3 w.heap.size 2 _ _ _ hg0
      have f0 := frozen_of_row w3 w.heap.size 0 _ _ hg0
      have f1 := frozen_of_row w3 w.heap.size 1 _ _ hg0
      have f2 := frozen_of_row w3 w.heap.size 2 _ _ hg0
      have d0 := cell_of_row w3 (w.heap.size + 1) 0 _ _ _ hg1
      have d1 := cell_of_row w3 (w.heap.size + 1) 1 _ _ _ hg1
      have d2 := cell_of_row w3 (w.heap.size + 1) 2 _ _ _ hg1
      have HG0 := Lib.hid hg0
      clear hg0 hg1
      by_cases hx0 : x = 0
      · have HY := Lib.hid (HXX.out.trans (if_pos hx0))
        subst hx0
        clear HXX
        go_wp2
        refine bodyPost_ret (resRT (vSet3 HG0.out _ _ _) _ rfl) rfl ⟨?_, vBelow_set3 hB3 (Nat.le_refl _) _ _ _⟩
        rw [HY.out]
        rfl
      · have HY := Lib.hid (HXX.out.trans (if_neg hx0))
        have hx0' : ((x : Int) == 0) = false := by rw [beq_eq_false_iff_ne]; omega
        clear HXX
        go_wp2
        refine bodyPost_ret (resRT (vSet3 HG0.out _ _ _) _ rfl) rfl ⟨?_, vBelow_set3 hB3 (Nat.le_refl _) _ _ _⟩
        rw [HY.out]
        rfl
    · rw [if_neg hc2] at hcut2
      have q := vStrAt0 (n := S.length) (c := c - 2) hcut2 rfl
      go_enter Tryz.func116, Tryz.ntmps116
      go_wp2_with fail
      refine (HCK.out _ (HTW.out.alloc _)).mono ?_
      rintro e w3 ⟨rfl, hb3⟩
      have hg0 := (hb3.block w.heap.size (by simp; omega)).trans (vAt_old HBLK.out (.cells #[.int .i64 2, .int .i64 0, .string ⟨S.toArray⟩] 51) (by rw [HSZ.out]; omega))
      have hh1 : ((w.alloc (.cells #[.int .i64 0, .int .i64 0, .string ⟨#[]⟩] 51)).alloc (.cells #[.int .i64 2, .int .i64 0, .string ⟨S.toArray⟩] 51)).heap[w.heap.size + 1]? = some (.cells #[.int .i64 2, .int .i64 0, .string ⟨S.toArray⟩] 51) := by
        have := heap_alloc_new (w.alloc (.cells #[.int .i64 0, .int .i64 0, .string ⟨#[]⟩] 51)) (.cells #[.int .i64 2, .int .i64 0, .string ⟨S.toArray⟩] 51)
        rw [HSZ.out] at this
        exact this
      have hg1 := (hb3.block (w.heap.size + 1) (by rw [World.size_alloc, HSZ.out]; omega)).trans hh1
      clear hh1
      have hB3 := (HBW.out.alloc HBW.out.size (.cells #[.int .i64 2, .int .i64 0, .string ⟨S.toArray⟩] 51)).trans (hb3.mono (by simp; omega))
      clear q hcut2 hb3
      have e0 := cell_of_row w3 w.heap.size 0 _ _ _ hg0
      have e1 := cell_of_row w3 w.heap.size 1 _ _ _ hg0
      have e2 := cell_of_row w3 w.heap.size 2 _ _ _ hg0
      have f0 := frozen_of_row w3 w.heap.size 0 _ _ hg0
      have f1 := frozen_of_row w3 w.heap.size 1 _ _ hg0
      have f2 := frozen_of_row w3 w.heap.size 2 _ _ hg0
      have d0 := cell_of_row w3 (w.heap.size + 1) 0 _ _ _ hg1
      have d1 := cell_of_row w3 (w.heap.size + 1) 1 _ _ _ hg1
      have d2 := cell_of_row w3 (w.heap.size + 1) 2 _ _ _ hg1
      have HG0 := Lib.hid hg0
      clear hg0 hg1
      by_cases hx0 : x = 0
      · have HY := Lib.hid (HXX.out.trans (if_pos hx0))
        subst hx0
        clear HXX
        go_wp2
        refine bodyPost_ret (resRT (vSet3 HG0.out _ _ _) _ rfl) rfl ⟨?_, vBelow_set3 hB3 (Nat.le_refl _) _ _ _⟩
        rw [HY.out]
        rfl
      · have HY := Lib.hid (HXX.out.trans (if_neg hx0))
        have hx0' : ((x : Int) == 0) = false := by rw [beq_eq_false_iff_ne]; omega
        clear HXX
        go_wp2
        refine bodyPost_ret (resRT (vSet3 HG0.out _ _ _) _ rfl) rfl ⟨?_, vBelow_set3 hB3 (Nat.le_refl _) _ _ _⟩
        rw [HY.out]
        rfl
end Go.Proofs.YtgjjdmkoamjdpaaGreatDoor
