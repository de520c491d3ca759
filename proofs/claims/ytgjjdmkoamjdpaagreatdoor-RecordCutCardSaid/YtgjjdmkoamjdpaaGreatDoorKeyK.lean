/- KeyK, what this seat can fill of it. -/
import Derived.Test.YtgjjdmkoamjdpaaGreatDoorProg
import Derived.Test.YtgjjdmkoamjdpaaGreatDoorKeyJ
import Derived.WalkKit
import Derived.WalkSpells
import Derived.WalkLawsBesides
import Derived.Deep.QuietTactic
import Derived.BigQuiet
import Derived.KernelRfl
import Derived.Lib.Hide
namespace Go.Proofs.YtgjjdmkoamjdpaaGreatDoor
set_option maxRecDepth 100000
/- key.readPart, key.Decode. -/
open Go.RowKit

/-- What bytes that aren't empty begin with. -/
def rdP : List UInt8 → Option (KPart × List UInt8)
  | [] => none
  | b :: l => if b = 1 then rdN l else if b = 2 then txt (rdT l) else none

theorem res30 {w : World} {b : Nat} {v0 v1 v2 : Value} (h : w.heap[b]? = some (.cells #[v0, v1, v2] 150 (0, 0))) (tmps : Array Value) (h2 : tmps.getD 2 undef = .pointer (some ⟨b, 0, none⟩)) :
    (results Tryz.f94 tmps).run Tryz.prog w = .ok (.tuple #[.agg #[v0, v1, v2], tmps.getD 3 undef, tmps.getD 4 undef]) w := by
  have e0 : w.cell? ⟨b, 0, none⟩ = some v0 := cell_of_row w b 0 _ _ _ h
  have e1 : w.cell? ⟨b, 1, none⟩ = some v1 := cell_of_row w b 1 _ _ _ h
  have e2 : w.cell? ⟨b, 2, none⟩ = some v2 := cell_of_row w b 2 _ _ _ h
  have h2' := h2
  simp only [Array.getD_eq_getD_getElem?] at h2'
  simp [results, Tryz.results94, go_sem, h2', e0, e1, e2]

/-- A reader's answer, taken apart. -/
theorem ReadsPart.shape {B : Nat} {w : World} {r : Option (KPart × List UInt8)} {v : Value} (h : ReadsPart B w r v) : ∃ (p : KPart) (l : List UInt8) (A : Option Addr) (n c : Nat) (ok : Bool),
    v = .tuple #[.agg #[.bool p.text, .string p.s, .int .i64 p.n], .slice A n c, .bool ok] ∧ ((ok = false ∧ r = none ∧ p = ⟨false, ⟨#[]⟩, 0⟩ ∧ A = none ∧ n = 0 ∧ c = 0) ∨ (ok = true ∧ r = some (p, l) ∧ n = l.length ∧ Rd w B A (u8s l) ∧ l.length ≤ c ∧ c ≤ 9223372036854775807)) := by
  rcases r with _ | ⟨p, l⟩
  · exact ⟨⟨false, ⟨#[]⟩, 0⟩, [], none, 0, 0, false, h, .inl ⟨rfl, rfl, rfl, rfl, rfl, rfl⟩⟩
  · obtain ⟨A, c, rfl, h1, h2, h3⟩ := h
    exact ⟨p, l, A, l.length, c, true, rfl, .inr ⟨rfl, rfl, rfl, h1, h2, h3⟩⟩
theorem ReadsPart.mk {B : Nat} {w : World} {r : Option (KPart × List UInt8)} {p : KPart} {l : List UInt8} {A : Option Addr} {n c : Nat} {ok : Bool}
    (h : (ok = false ∧ r = none ∧ p = ⟨false, ⟨#[]⟩, 0⟩ ∧ A = none ∧ n = 0 ∧ c = 0) ∨ (ok = true ∧ r = some (p, l) ∧ n = l.length ∧ Rd w B A (u8s l) ∧ l.length ≤ c ∧ c ≤ 9223372036854775807)) :
    ReadsPart B w r (.tuple #[.agg #[.bool p.text, .string p.s, .int .i64 p.n], .slice A n c, .bool ok]) := by
  rcases h with ⟨rfl, rfl, rfl, rfl, rfl, rfl⟩ | ⟨rfl, rfl, rfl, h1, h2, h3⟩
  · rfl
  · exact ⟨A, c, rfl, h1, h2, h3⟩

theorem ReadsPart.move {B : Nat} {w w' : World} {r : Option (KPart × List UInt8)} {v : Value} (h : ReadsPart B w r v) (hk : ∀ p : Addr, p.block < B → w'.cell? p = w.cell? p) : ReadsPart B w' r v := by
  rcases r with _ | ⟨p, l⟩
  · exact h
  · obtain ⟨A, c, e, h1, h2, h3⟩ := h
    exact ⟨A, c, e, h1.move hk, h2, h3⟩
theorem set3_far {w : World} {B b : Nat} (hb : B ≤ b) (v0 v1 v2 : Value) (p : Addr) (hp : p.block < B) : (((w.setCell ⟨b, 0, none⟩ v0).setCell ⟨b, 1, none⟩ v1).setCell ⟨b, 2, none⟩ v2).cell? p = w.cell? p := by
  rw [World.cell?_setCell_other _ _ _ _ (by intro e; subst e; simp at hp; omega), World.cell?_setCell_other _ _ _ _ (by intro e; subst e; simp at hp; omega), World.cell?_setCell_other _ _ _ _ (by intro e; subst e; simp at hp; omega)]

set_option maxRecDepth 100000 in
set_option maxHeartbeats 2000000 in
theorem readPart_any (A : Option Addr) (b : UInt8) (l : List UInt8) (n c B : Nat) (w : World) (hn : n = l.length + 1) (hr : Rd w B A (u8s (b :: l))) (hB : B ≤ w.heap.size) (hc : l.length + 1 ≤ c) (hcm : c ≤ 9223372036854775807) (hl : l.length ≤ 9000) :
    Calls Tryz.prog 94 #[.slice A n c] w fun e w' => ∃ v, e = .returned v ∧ ReadsPart B w' (rdP (b :: l)) v ∧ Below w.heap.size w w' := by
  subst hn
  obtain ⟨pb, po, hA, hpB, hcell⟩ := hr.get (k := 0) (by rw [u8s_length]; simp)
  subst hA
  have hcell' : w.cell? ⟨pb, po, none⟩ = some (.int .u8 (b.toNat : Int)) := by simpa [u8s] using hcell
  have hcut := hr.cut (k := 1) (size := 1) (cap := c) (n := l.length + 1) (by rw [u8s_length]; simp) (by omega) hc
  rw [Nat.mul_one, ← u8s_drop, Option.map_some, plainAdd] at hcut
  simp only [List.drop_succ_cons, List.drop_zero] at hcut
  have hblk : (w.alloc (.cells #[.bool false, .string ⟨#[]⟩, .int .i64 0] 150)).heap[w.heap.size]? = some (.cells #[.bool false, .string ⟨#[]⟩, .int .i64 0] 150 (0, 0)) := heap_alloc_new w _
  have hBW : Below w.heap.size w (w.alloc (.cells #[.bool false, .string ⟨#[]⟩, .int .i64 0] 150)) := (Below.refl _ _).alloc (Nat.le_refl _) _
  have hsW : w.heap.size < (w.alloc (.cells #[.bool false, .string ⟨#[]⟩, .int .i64 0] 150)).heap.size := by simp
  have hc1 : (1 : Int) ≤ (l.length : Int) + 1 := by omega
  have hc2 : (1 : Int) ≤ (c : Int) := by omega
  have lpb : pb < w.heap.size := by omega
  obtain ⟨RA, hRA⟩ : ∃ RA, RA = (if c = 1 then some (⟨pb, po, none⟩ : Addr) else some ⟨pb, po + 1, none⟩) := ⟨_, rfl⟩
  rw [← hRA] at hcut
  have hcw := (hBW.cell (p := ⟨pb, po, none⟩) lpb).trans hcell'
  have hrW := hcut.alloc hB (.cells #[.bool false, .string ⟨#[]⟩, .int .i64 0] 150)
  have hn1 := readNum_any RA l l.length (c - 1) B (w.alloc (.cells #[.bool false, .string ⟨#[]⟩, .int .i64 0] 150)) rfl hrW (by simp; omega) (by omega) (by omega) (by omega)
  have ht1 := kreadText_any RA l l.length (c - 1) B (w.alloc (.cells #[.bool false, .string ⟨#[]⟩, .int .i64 0] 150)) rfl hrW (by simp; omega) (by omega) (by omega) (by omega)
  rw [hRA] at hn1 ht1
  obtain ⟨b0, hb0⟩ : ∃ b, b = w.heap.size := ⟨_, rfl⟩
  have hb0W : b0 < (w.alloc (.cells #[.bool false, .string ⟨#[]⟩, .int .i64 0] 150)).heap.size := by omega
  have hb0B : B ≤ b0 := by omega
  rw [← hb0] at hblk
  have HBK := Lib.hid hblk
  have HB0 := Lib.hid hb0
  clear hblk hr hcell hcell' hcut hrW hRA hb0
  have e0 : (w.alloc (.cells #[.bool false, .string ⟨#[]⟩, .int .i64 0] 150)).cell? ⟨b0, 0, none⟩ = some (.bool false) := cell_of_row _ b0 0 _ _ _ HBK.out
  have e1 : (w.alloc (.cells #[.bool false, .string ⟨#[]⟩, .int .i64 0] 150)).cell? ⟨b0, 1, none⟩ = some (.string ⟨#[]⟩) := cell_of_row _ b0 1 _ _ _ HBK.out
  have e2 : (w.alloc (.cells #[.bool false, .string ⟨#[]⟩, .int .i64 0] 150)).cell? ⟨b0, 2, none⟩ = some (.int .i64 0) := cell_of_row _ b0 2 _ _ _ HBK.out
  have f0 : (w.alloc (.cells #[.bool false, .string ⟨#[]⟩, .int .i64 0] 150)).frozen? ⟨b0, 0, none⟩ = false := frozen_of_row _ b0 0 _ _ HBK.out
  have f1 : (w.alloc (.cells #[.bool false, .string ⟨#[]⟩, .int .i64 0] 150)).frozen? ⟨b0, 1, none⟩ = false := frozen_of_row _ b0 1 _ _ HBK.out
  have f2 : (w.alloc (.cells #[.bool false, .string ⟨#[]⟩, .int .i64 0] 150)).frozen? ⟨b0, 2, none⟩ = false := frozen_of_row _ b0 2 _ _ HBK.out
  have hP1 : b = 1 → rdP (b :: l) = rdN l := fun hb => by rw [rdP, if_pos hb]
  have hP2 : b = 2 → rdP (b :: l) = txt (rdT l) := fun hb => by rw [rdP, if_neg (by rw [hb]; decide), if_pos hb]
  have hP3 : ¬ b = 1 → ¬ b = 2 → rdP (b :: l) = none := fun h1 h2 => by rw [rdP, if_neg h1, if_neg h2]
  have HP1 := Lib.hid hP1
  have HP2 := Lib.hid hP2
  have HP3 := Lib.hid hP3
  clear hP1 hP2 hP3
  by_cases hc8 : c = 1
  · subst hc8
    have hl0 : l = [] := List.eq_nil_of_length_eq_zero (by omega)
    subst hl0
    rw [if_pos rfl] at hn1 ht1
    simp only [List.length_nil, Nat.sub_self] at hn1 ht1
    have HN1 := Lib.hid hn1
    have HT1 := Lib.hid ht1
    clear hn1 ht1
    by_cases d1 : ((b.toNat : Int) == 1) = true
    · have hP := HP1.out (UInt8.toNat_inj.1 (by have := beq_iff_eq.1 d1; show b.toNat = 1; omega))
      go_enter Tryz.func94, Tryz.ntmps94
      go_wp2_with fail
      rw [← HB0.out]
      generalize w.alloc (.cells #[.bool false, .string ⟨#[]⟩, .int .i64 0] 150) = W at *
      with_reducible refine HN1.out.mono ?_
      rintro e w4 ⟨v, rfl, hrp, hb4⟩
      obtain ⟨p, l2, A2, n2, c2, ok, rfl, hor⟩ := hrp.shape
      have hblk4 : w4.heap[b0]? = some (.cells #[.bool false, .string ⟨#[]⟩, .int .i64 0] 150 (0, 0)) := (hb4.block b0 hb0W).trans HBK.out
      have g0 := (hb4.cell (p := ⟨b0, 0, none⟩) hb0W).trans e0
      have g1 := (hb4.cell (p := ⟨b0, 1, none⟩) hb0W).trans e1
      have g2 := (hb4.cell (p := ⟨b0, 2, none⟩) hb0W).trans e2
      have k0 := (hb4.frozen (p := ⟨b0, 0, none⟩) hb0W).trans f0
      have k1 := (hb4.frozen (p := ⟨b0, 1, none⟩) hb0W).trans f1
      have k2 := (hb4.frozen (p := ⟨b0, 2, none⟩) hb0W).trans f2
      have H4 := Lib.hid hblk4
      have HR := Lib.hid hrp
      clear hblk4 hor hrp
      go_wp2_with fail
      refine bodyPost_ret (res30 (set3 H4.out _ _ _) _ rfl) rfl ⟨_, rfl, ?_, ?_⟩
      · rw [hP]
        exact HR.out.move fun q hq => set3_far hb0B _ _ _ q hq
      · have hbz : w.heap.size ≤ b0 := by have := HB0.out; omega
        exact (((hBW.trans (hb4.mono (by omega))).setCell hbz _).setCell hbz _).setCell hbz _
    · have d1' : ((b.toNat : Int) == 1) = false := by simpa using d1
      by_cases d2 : ((b.toNat : Int) == 2) = true
      · have hP := HP2.out (UInt8.toNat_inj.1 (by have := beq_iff_eq.1 d2; show b.toNat = 2; omega))
        clear d1
        go_enter Tryz.func94, Tryz.ntmps94
        go_wp2_with fail
        rw [← HB0.out]
        generalize w.alloc (.cells #[.bool false, .string ⟨#[]⟩, .int .i64 0] 150) = W at *
        with_reducible refine HT1.out.mono ?_
        rintro e w4 ⟨v, rfl, hrp, hb4⟩
        obtain ⟨p, l2, A2, n2, c2, ok, rfl, hor⟩ := hrp.shape
        have hblk4 : w4.heap[b0]? = some (.cells #[.bool false, .string ⟨#[]⟩, .int .i64 0] 150 (0, 0)) := (hb4.block b0 hb0W).trans HBK.out
        have g0 := (hb4.cell (p := ⟨b0, 0, none⟩) hb0W).trans e0
        have g1 := (hb4.cell (p := ⟨b0, 1, none⟩) hb0W).trans e1
        have g2 := (hb4.cell (p := ⟨b0, 2, none⟩) hb0W).trans e2
        have k0 := (hb4.frozen (p := ⟨b0, 0, none⟩) hb0W).trans f0
        have k1 := (hb4.frozen (p := ⟨b0, 1, none⟩) hb0W).trans f1
        have k2 := (hb4.frozen (p := ⟨b0, 2, none⟩) hb0W).trans f2
        have H4 := Lib.hid hblk4
        have HR := Lib.hid hrp
        clear hblk4 hor hrp
        go_wp2_with fail
        refine bodyPost_ret (res30 (set3 H4.out _ _ _) _ rfl) rfl ⟨_, rfl, ?_, ?_⟩
        · rw [hP]
          exact HR.out.move fun q hq => set3_far hb0B _ _ _ q hq
        · have hbz : w.heap.size ≤ b0 := by have := HB0.out; omega
          exact (((hBW.trans (hb4.mono (by omega))).setCell hbz _).setCell hbz _).setCell hbz _

      · have hP := HP3.out (fun e => d1 (by rw [e]; rfl)) (fun e => d2 (by rw [e]; rfl))
        have d2' : ((b.toNat : Int) == 2) = false := by simpa using d2
        clear d1 d2
        go_enter Tryz.func94, Tryz.ntmps94
        go_wp2
        refine bodyPost_ret (res30 (b := w.heap.size) (heap_alloc_new w _) _ rfl) rfl ⟨_, rfl, ?_, hBW⟩
        rw [hP]
        rfl
  · rw [if_neg hc8] at hn1 ht1
    have HN1 := Lib.hid hn1
    have HT1 := Lib.hid ht1
    clear hn1 ht1
    by_cases d1 : ((b.toNat : Int) == 1) = true
    · have hP := HP1.out (UInt8.toNat_inj.1 (by have := beq_iff_eq.1 d1; show b.toNat = 1; omega))
      go_enter Tryz.func94, Tryz.ntmps94
      go_wp2_with fail
      rw [← HB0.out]
      generalize w.alloc (.cells #[.bool false, .string ⟨#[]⟩, .int .i64 0] 150) = W at *
      with_reducible refine HN1.out.mono ?_
      rintro e w4 ⟨v, rfl, hrp, hb4⟩
      obtain ⟨p, l2, A2, n2, c2, ok, rfl, hor⟩ := hrp.shape
      have hblk4 : w4.heap[b0]? = some (.cells #[.bool false, .string ⟨#[]⟩, .int .i64 0] 150 (0, 0)) := (hb4.block b0 hb0W).trans HBK.out
      have g0 := (hb4.cell (p := ⟨b0, 0, none⟩) hb0W).trans e0
      have g1 := (hb4.cell (p := ⟨b0, 1, none⟩) hb0W).trans e1
      have g2 := (hb4.cell (p := ⟨b0, 2, none⟩) hb0W).trans e2
      have k0 := (hb4.frozen (p := ⟨b0, 0, none⟩) hb0W).trans f0
      have k1 := (hb4.frozen (p := ⟨b0, 1, none⟩) hb0W).trans f1
      have k2 := (hb4.frozen (p := ⟨b0, 2, none⟩) hb0W).trans f2
      have H4 := Lib.hid hblk4
      have HR := Lib.hid hrp
      clear hblk4 hor hrp
      go_wp2_with fail
      refine bodyPost_ret (res30 (set3 H4.out _ _ _) _ rfl) rfl ⟨_, rfl, ?_, ?_⟩
      · rw [hP]
        exact HR.out.move fun q hq => set3_far hb0B _ _ _ q hq
      · have hbz : w.heap.size ≤ b0 := by have := HB0.out; omega
        exact (((hBW.trans (hb4.mono (by omega))).setCell hbz _).setCell hbz _).setCell hbz _
    · have d1' : ((b.toNat : Int) == 1) = false := by simpa using d1
      by_cases d2 : ((b.toNat : Int) == 2) = true
      · have hP := HP2.out (UInt8.toNat_inj.1 (by have := beq_iff_eq.1 d2; show b.toNat = 2; omega))
        clear d1
        go_enter Tryz.func94, Tryz.ntmps94
        go_wp2_with fail
        rw [← HB0.out]
        generalize w.alloc (.cells #[.bool false, .string ⟨#[]⟩, .int .i64 0] 150) = W at *
        with_reducible refine HT1.out.mono ?_
        rintro e w4 ⟨v, rfl, hrp, hb4⟩
        obtain ⟨p, l2, A2, n2, c2, ok, rfl, hor⟩ := hrp.shape
        have hblk4 : w4.heap[b0]? = some (.cells #[.bool false, .string ⟨#[]⟩, .int .i64 0] 150 (0, 0)) := (hb4.block b0 hb0W).trans HBK.out
        have g0 := (hb4.cell (p := ⟨b0, 0, none⟩) hb0W).trans e0
        have g1 := (hb4.cell (p := ⟨b0, 1, none⟩) hb0W).trans e1
        have g2 := (hb4.cell (p := ⟨b0, 2, none⟩) hb0W).trans e2
        have k0 := (hb4.frozen (p := ⟨b0, 0, none⟩) hb0W).trans f0
        have k1 := (hb4.frozen (p := ⟨b0, 1, none⟩) hb0W).trans f1
        have k2 := (hb4.frozen (p := ⟨b0, 2, none⟩) hb0W).trans f2
        have H4 := Lib.hid hblk4
        have HR := Lib.hid hrp
        clear hblk4 hor hrp
        go_wp2_with fail
        refine bodyPost_ret (res30 (set3 H4.out _ _ _) _ rfl) rfl ⟨_, rfl, ?_, ?_⟩
        · rw [hP]
          exact HR.out.move fun q hq => set3_far hb0B _ _ _ q hq
        · have hbz : w.heap.size ≤ b0 := by have := HB0.out; omega
          exact (((hBW.trans (hb4.mono (by omega))).setCell hbz _).setCell hbz _).setCell hbz _

      · have hP := HP3.out (fun e => d1 (by rw [e]; rfl)) (fun e => d2 (by rw [e]; rfl))
        have d2' : ((b.toNat : Int) == 2) = false := by simpa using d2
        clear d1 d2
        go_enter Tryz.func94, Tryz.ntmps94
        go_wp2
        refine bodyPost_ret (res30 (b := w.heap.size) (heap_alloc_new w _) _ rfl) rfl ⟨_, rfl, ?_, hBW⟩
        rw [hP]
        rfl
end Go.Proofs.YtgjjdmkoamjdpaaGreatDoor
