/- KeyJ, what this seat can fill of it. -/
import Derived.Test.YtgjjdmkoamjdpaaGreatDoorProg
import Derived.Test.YtgjjdmkoamjdpaaGreatDoorKeyI
import Derived.Test.YtgjjdmkoamjdpaaGreatDoorKeyP
import Derived.WalkKit
import Derived.WalkSpells
import Derived.WalkLawsBesides
import Derived.Deep.QuietTactic
import Derived.Deep.RegionHeld3
import Derived.BigQuiet
import Derived.KernelRfl
import Derived.Lib.Hide
namespace Go.Proofs.YtgjjdmkoamjdpaaGreatDoor
set_option maxRecDepth 100000
/- key.readNum, key.readPart, key.Decode. -/
open Go.RowKit

/-- The number that bytes are, the highest first. -/
def beV (l : List UInt8) : Nat := l.foldl (fun a b => a * 256 + b.toNat) 0
theorem beV_snoc (l : List UInt8) (b : UInt8) : beV (l ++ [b]) = beV l * 256 + b.toNat := by simp [beV]
theorem beV_lt (l : List UInt8) : beV l < 256 ^ l.length := by
  have h : ∀ (m : List UInt8) (a : Nat), m.foldl (fun a b => a * 256 + b.toNat) a < (a + 1) * 256 ^ m.length := by
    intro m
    induction m with
    | nil => intro a; simp
    | cons b m ih =>
      intro a
      have h1 := ih (a * 256 + b.toNat)
      have h2 := b.toNat_lt
      rw [List.foldl_cons, List.length_cons]
      refine Nat.lt_of_lt_of_le h1 ?_
      rw [Nat.pow_succ, Nat.mul_comm (256 ^ m.length) 256, ← Nat.mul_assoc]
      exact Nat.mul_le_mul_right _ (by omega)
  have := h l 0
  rw [Nat.zero_add, Nat.one_mul] at this
  exact this

/-- What a number's bytes (behind its mark) are read as. -/
def rdN (l : List UInt8) : Option (KPart × List UInt8) := if l.length < 8 then none else some (⟨false, ⟨#[]⟩, (beV (l.take 8) : Int) - 9223372036854775808⟩, l.drop 8)

theorem res40 {w : World} {b : Nat} {v0 v1 v2 : Value} (h : w.heap[b]? = some (.cells #[v0, v1, v2] 150 (0, 0))) (tmps : Array Value) (h2 : tmps.getD 2 undef = .pointer (some ⟨b, 0, none⟩)) :
    (results Tryz.f112 tmps).run Tryz.prog w = .ok (.tuple #[.agg #[v0, v1, v2], tmps.getD 3 undef, tmps.getD 4 undef]) w := by
  have e0 : w.cell? ⟨b, 0, none⟩ = some v0 := cell_of_row w b 0 _ _ _ h
  have e1 : w.cell? ⟨b, 1, none⟩ = some v1 := cell_of_row w b 1 _ _ _ h
  have e2 : w.cell? ⟨b, 2, none⟩ = some v2 := cell_of_row w b 2 _ _ _ h
  have h2' := h2
  simp only [Array.getD_eq_getD_getElem?] at h2'
  simp [results, Tryz.results112, go_sem, h2', e0, e1, e2]

set_option maxRecDepth 100000 in
set_option maxHeartbeats 2000000 in
theorem readNum_any (A : Option Addr) (l : List UInt8) (n c B : Nat) (w : World) (hn : n = l.length) (hr : Rd w B A (u8s l)) (hB : B ≤ w.heap.size) (hc : l.length ≤ c) (hcm : c ≤ 9223372036854775807) (hl : l.length ≤ 10000) :
    Calls Tryz.prog 112 #[.slice A n c] w fun e w' => ∃ v, e = .returned v ∧ ReadsPart B w' (rdN l) v ∧ Below w.heap.size w w' := by
  subst hn
  have hblk : (w.alloc (.cells #[.bool false, .string ⟨#[]⟩, .int .i64 0] 150)).heap[w.heap.size]? = some (.cells #[.bool false, .string ⟨#[]⟩, .int .i64 0] 150 (0, 0)) := heap_alloc_new w _
  have hBW : Below w.heap.size w (w.alloc (.cells #[.bool false, .string ⟨#[]⟩, .int .i64 0] 150)) := (Below.refl _ _).alloc (Nat.le_refl _) _
  rcases Nat.lt_or_ge l.length 8 with h8 | h8
  · have hN : Hid (rdN l = none) := if_pos h8
    have HBK := Lib.hid hblk
    clear hblk
    have h8' : (l.length : Int) < 8 := by omega
    go_enter Tryz.func112, Tryz.ntmps112
    go_wp2
    exact bodyPost_ret (res40 HBK.out _ rfl) rfl ⟨_, rfl, by rw [hN.out]; rfl, hBW⟩
  · have hN : Hid (rdN l = some (⟨false, ⟨#[]⟩, (beV (l.take 8) : Int) - 9223372036854775808⟩, l.drop 8)) := if_neg (by omega)
    have hrW := hr.alloc hB (.cells #[.bool false, .string ⟨#[]⟩, .int .i64 0] 150)
    obtain ⟨pb, po, hA, hpB, -⟩ := hr.get (k := 0) (by rw [u8s_length]; omega)
    subst hA
    have h8' : (8 : Int) ≤ (l.length : Int) := by omega
    have h8c : (8 : Int) ≤ (c : Int) := by omega
    go_enter Tryz.func112, Tryz.ntmps112
    go_wp2
    go_loop [5, 15] (fun u i => ∃ k : Nat, k ≤ 8 ∧ i = .int .i64 (k : Int) ∧ u = .int .u64 (beV (l.take k) : Int)) (fun _ i => 8 - (intOf i).toNat)
    case atStart => exact ⟨0, by omega, rfl, rfl⟩
    case round =>
      obtain ⟨k, hk, rfl, rfl⟩ := hrel
      have hbv := beV_lt (l.take k)
      have hlk : (l.take k).length = k := by rw [List.length_take]; omega
      rw [hlk] at hbv
      rcases Nat.lt_or_ge k 8 with h9 | h9
      · have hkl : k < l.length := by omega
        obtain ⟨b, hb⟩ : ∃ b, b = l[k] := ⟨_, rfl⟩
        have hsn : beV (l.take (k + 1)) = beV (l.take k) * 256 + b.toNat := by rw [getSnoc l k hkl, beV_snoc, hb]
        have hcell : (w.alloc (.cells #[.bool false, .string ⟨#[]⟩, .int .i64 0] 150)).cell? ⟨pb, po + k, none⟩ = some (.int .u8 (b.toNat : Int)) := by
          obtain ⟨pb', po', hA, _, hcc⟩ := hrW (by intro e; have := u8s_length l; rw [e] at this; simp at this; omega)
          injection hA with hA
          injection hA with h3 h4
          subst h3 h4
          refine hcc k _ ?_
          simp [u8s, hb, List.getElem?_eq_getElem hkl]
        have hb56 : beV (l.take k) < 72057594037927936 := Nat.lt_of_lt_of_le hbv (by
          have : 256 ^ k ≤ 256 ^ 7 := Nat.pow_le_pow_right (by omega) (by omega)
          simpa using this)
        obtain ⟨U, hU⟩ : ∃ U, U = beV (l.take k) := ⟨_, rfl⟩
        rw [← hU] at hb56 hsn ⊢
        have HS := Lib.hid hsn
        have h56 := Lib.hid hb56
        clear hsn hbv hlk hU hb56 hb
        go_wp2
        go_round
        case rel =>
          refine ⟨k + 1, by omega, by go_num, ?_⟩
          have hbl := b.toNat_lt
          have hU := h56.out
          have w1 : IntKind.u64.wrap ((U : Int) * 256) = ((U * 256 : Nat) : Int) := by rw [IntWalk.u64_in _ (by omega)]; omega
          have w2 : IntKind.u64.wrap (b.toNat : Int) = (b.toNat : Int) := IntWalk.u64_in _ (by omega)
          have w3 : U * 256 ||| b.toNat = U * 256 + b.toNat := by
            have := Nat.shiftLeft_add_eq_or_of_lt (show b.toNat < 2 ^ 8 by omega) U
            rw [Nat.shiftLeft_eq] at this
            exact this.symm
          rw [HS.out, w1, w2, bits_or_u64_nat _ _ (by omega) (by omega), w3]
        case measure => simp [intOf]; omega
      · obtain rfl : k = 8 := by omega
        obtain ⟨V, hV⟩ : ∃ V, V = beV (l.take 8) := ⟨_, rfl⟩
        have hVb : V < 18446744073709551616 := by rw [hV]; exact hbv
        rw [← hV] at hN ⊢
        have HVB := Lib.hid hVb
        clear hbv hlk hV hVb
        obtain ⟨b0, hb0⟩ : ∃ b, b = w.heap.size := ⟨_, rfl⟩
        rw [← hb0] at hblk ⊢
        have hsW : w.heap.size < (w.alloc (.cells #[.bool false, .string ⟨#[]⟩, .int .i64 0] 150)).heap.size := by simp
        generalize w.alloc (.cells #[.bool false, .string ⟨#[]⟩, .int .i64 0] 150) = W at *
        have e0 : W.cell? ⟨b0, 0, none⟩ = some (.bool false) := cell_of_row W b0 0 _ _ _ hblk
        have e1 : W.cell? ⟨b0, 1, none⟩ = some (.string ⟨#[]⟩) := cell_of_row W b0 1 _ _ _ hblk
        have e2 : W.cell? ⟨b0, 2, none⟩ = some (.int .i64 0) := cell_of_row W b0 2 _ _ _ hblk
        have f0 : W.frozen? ⟨b0, 0, none⟩ = false := frozen_of_row W b0 0 _ _ hblk
        have f1 : W.frozen? ⟨b0, 1, none⟩ = false := frozen_of_row W b0 1 _ _ hblk
        have f2 : W.frozen? ⟨b0, 2, none⟩ = false := frozen_of_row W b0 2 _ _ hblk
        have hb0W : b0 < W.heap.size := by omega
        have HB0 := Lib.hid hb0
        have HBK := Lib.hid hblk
        clear hblk hb0 hr
        by_cases hc8 : c = 8
        all_goals
          try subst hc8
          go_wp2_with fail
          go_region_held3 (fun w' => Below w.heap.size w w')
            (first
              | exact hBW.drew
              | exact hBx
              | (refine ((hBx.setCell ?_ _).setCell ?_ _).setCell ?_ _ <;> (have := HB0.out; simp; omega)))
            ((go_at_call 85; (with_reducible refine (num_any _ _).mono ?_); rintro e wk ⟨rfl, hbk⟩; have hBx : Below w.heap.size w wk := hBW.drew.trans (hbk.mono (Nat.le_of_lt hsW)); have g0 := (hbk.cell (p := ⟨b0, 0, none⟩) hb0W).trans e0; have g1 := (hbk.cell (p := ⟨b0, 1, none⟩) hb0W).trans e1; have g2 := (hbk.cell (p := ⟨b0, 2, none⟩) hb0W).trans e2; have k0 := (hbk.frozen (p := ⟨b0, 0, none⟩) hb0W).trans f0; have k1 := (hbk.frozen (p := ⟨b0, 1, none⟩) hb0W).trans f1; have k2 := (hbk.frozen (p := ⟨b0, 2, none⟩) hb0W).trans f2))
          go_wp2_with fail
          have hblk4 : wk.heap[b0]? = some (.cells #[.bool false, .string ⟨#[]⟩, .int .i64 0] 150 (0, 0)) := (hbk.block b0 hb0W).trans HBK.out
          refine bodyPost_ret (res40 (set3 hblk4 _ _ _) _ rfl) rfl ⟨_, rfl, ?_, ?_⟩
          · have hw : IntKind.i64.wrap (IntKind.u64.wrap ((V : Int) - 9223372036854775808)) = (V : Int) - 9223372036854775808 := by
              have := HVB.out
              rw [IntKind.wrap_u64, IntKind.wrap_i64]
              omega
            have hdl : (l.drop 8).length = l.length - 8 := List.length_drop
            rw [hN.out]
            first
              | (have h0 : l.length = 8 := by omega
                 have hd0 : l.drop 8 = [] := List.drop_of_length_le (by omega)
                 refine ⟨some ⟨pb, po, none⟩, 0, ?_, by rw [hd0]; exact Rd.emp _ _ _, by rw [hd0]; simp, by omega⟩
                 rw [hw, hd0]
                 rfl)
              | (refine ⟨some ⟨pb, po + 8, none⟩, c - 8, ?_, ?_, by omega, by omega⟩
                 · rw [hw, hdl]
                   rfl
                 · have hcut := hrW.cut (k := 8) (size := 1) (cap := c) (n := l.length) (by rw [u8s_length]; omega) h8 hc
                   rw [if_neg hc8, Nat.mul_one, ← u8s_drop, Option.map_some, plainAdd] at hcut
                   have hbz : B ≤ b0 := by have := HB0.out; omega
                   have hbk' : Below W.heap.size W wk := (Below.refl _ _).drew.trans hbk
                   exact (((hcut.below hbk' (by omega)).setCell hbz _).setCell hbz _).setCell hbz _)
          · refine ((hBx.setCell ?_ _).setCell ?_ _).setCell ?_ _ <;> (have := HB0.out; simp; omega)
end Go.Proofs.YtgjjdmkoamjdpaaGreatDoor
