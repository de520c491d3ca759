/- The document's own Cmp and Same. -/
import Derived.Test.YtinhmchekdolmaaProg
import Derived.Test.YtinhmchekdolmaaKeyQ
import Derived.WalkKit
import Derived.WalkSpells
import Derived.WalkLawsBesides
import Derived.Deep.QuietTactic
import Derived.Deep.RegionHeld3
import Derived.BigQuiet
import Derived.KernelRfl
import Derived.Lib.Hide
namespace Go.Proofs.Ytinhmchekdolmaa
open Go.RowKit

set_option maxRecDepth 100000 in
set_option maxHeartbeats 2000000 in
theorem refCmp_any (A1 A2 : Option Addr) (a b : List KPart) (n1 n2 c1 c2 B : Nat) (w : World) (hn1 : n1 = a.length) (hn2 : n2 = b.length) (hr1 : Rd w B A1 (pcs a)) (hr2 : Rd w B A2 (pcs b)) (hB : B ≤ w.heap.size)
    (hl1 : a.length ≤ 4611686018427387904) (hl2 : b.length ≤ 4611686018427387904) :
    Calls Try.prog 21 #[.slice A1 n1 c1, .slice A2 n2 c2] w fun e w' => e = .returned (.int .i64 (keyC a b)) ∧ Below w.heap.size w w' := by
  subst hn1 hn2
  go_enter Try.func21, Try.ntmps21
  go_wp2
  go_loopw [5] (fun i wr => ∃ k : Nat, k ≤ a.length ∧ k ≤ b.length ∧ i = .int .i64 (k : Int) ∧ keyC (a.drop k) (b.drop k) = keyC a b ∧ Below w.heap.size w wr) (fun i _ => a.length - (intOf i).toNat)
  case atStart => exact ⟨0, by omega, by omega, rfl, rfl, Below.refl _ _⟩
  case round =>
    obtain ⟨k, hka, hkb, rfl, hkc, hbk⟩ := hrel
    have HK := Lib.hid hkc
    clear hkc
    have hsz := hbk.size
    have hr1' := hr1.below hbk hB
    have hr2' := hr2.below hbk hB
    rcases Nat.lt_or_ge k a.length with h1 | h1
    · rcases Nat.lt_or_ge k b.length with h2 | h2
      · have hd := keyC_drop a b k h1 h2
        obtain ⟨p, hp⟩ : ∃ p, p = a[k] := ⟨_, rfl⟩
        obtain ⟨b1, o1, rfl, hpB1, c10, c11, c12⟩ := hr1'.part h1
        rw [← hp] at c10 c11 c12
        have l1 := World.block_lt_of_cell? wr _ c10
        simp only at l1
        obtain ⟨q, hq⟩ : ∃ q, q = b[k] := ⟨_, rfl⟩
        obtain ⟨b2, o2, rfl, hpB2, c20, c21, c22⟩ := hr2'.part h2
        rw [← hq] at c20 c21 c22
        rw [← hp, ← hq] at hd
        have l2 := World.block_lt_of_cell? wr _ c20
        simp only at l2
        have HD := Lib.hid hd
        clear hd hp hq
        obtain ⟨x, hx⟩ : ∃ x, x = partC p q := ⟨_, rfl⟩
        have hcmp := fun W => refPart_any p q W
        rw [← hx] at hcmp
        simp only [KPart.cells] at hcmp
        have HX := Lib.hid hx
        have HC := Lib.hid hcmp
        clear hx hcmp hr1 hr2
        have KS : ∀ w', Below wr.heap.size wr w' → (Below wr.heap.size wr w' ∧ w'.cell? ⟨b1, o1 + k * 3, none⟩ = some (.bool p.text) ∧ w'.cell? ⟨b1, o1 + k * 3 + 1, none⟩ = some (.string p.s) ∧ w'.cell? ⟨b1, o1 + k * 3 + 2, none⟩ = some (.int .i64 p.n) ∧
            w'.cell? ⟨b2, o2 + k * 3, none⟩ = some (.bool q.text) ∧ w'.cell? ⟨b2, o2 + k * 3 + 1, none⟩ = some (.string q.s) ∧ w'.cell? ⟨b2, o2 + k * 3 + 2, none⟩ = some (.int .i64 q.n)) :=
          fun w' h => ⟨h, (h.cell (p := ⟨b1, o1 + k * 3, none⟩) l1).trans c10, (h.cell (p := ⟨b1, o1 + k * 3 + 1, none⟩) l1).trans c11, (h.cell (p := ⟨b1, o1 + k * 3 + 2, none⟩) l1).trans c12,
            (h.cell (p := ⟨b2, o2 + k * 3, none⟩) l2).trans c20, (h.cell (p := ⟨b2, o2 + k * 3 + 1, none⟩) l2).trans c21, (h.cell (p := ⟨b2, o2 + k * 3 + 2, none⟩) l2).trans c22⟩
        have HKS := Lib.hid KS
        clear KS
        have g1 : (k : Int) < (a.length : Int) := by omega
        have g2 : (k : Int) < (b.length : Int) := by omega
        go_wp2_with fail
        go_region_held3 (fun w' => Below wr.heap.size wr w' ∧ w'.cell? ⟨b1, o1 + k * 3, none⟩ = some (.bool p.text) ∧ w'.cell? ⟨b1, o1 + k * 3 + 1, none⟩ = some (.string p.s) ∧ w'.cell? ⟨b1, o1 + k * 3 + 2, none⟩ = some (.int .i64 p.n) ∧
            w'.cell? ⟨b2, o2 + k * 3, none⟩ = some (.bool q.text) ∧ w'.cell? ⟨b2, o2 + k * 3 + 1, none⟩ = some (.string q.s) ∧ w'.cell? ⟨b2, o2 + k * 3 + 2, none⟩ = some (.int .i64 q.n))
          (first
            | exact HKS.out _ (Below.refl _ _).drew
            | exact HKS.out _ hBx)
          ((go_at_call 35; (with_reducible refine (HC.out _).mono ?_); rintro e wk ⟨rfl, hbp⟩; have hBx : Below wr.heap.size wr wk := (Below.refl _ _).drew.trans hbp))
        clear HKS c10 c11 c12 c20 c21 c22
        by_cases h0 : (x == 0) = true
        · go_wp2
          go_roundw
          case rel =>
            have hx0 : x = 0 := by simpa using h0
            exact ⟨k + 1, by omega, by omega, by go_num, by rw [← HK.out, HD.out, ← HX.out, hx0]; simp, hbk.trans (hBx.mono hsz)⟩
          case measure => simp [intOf]; omega
        · have h0' : (x == 0) = false := by simpa using h0
          clear h0
          go_wp2
          go_ret
          have hx0 : ¬ x = 0 := by simpa using h0'
          exact ⟨by rw [← HK.out, HD.out, ← HX.out, if_pos hx0]; rfl, hbk.trans (hBx.mono hsz)⟩
      · obtain rfl : k = b.length := by omega
        have g1 : (b.length : Int) < (a.length : Int) := by omega
        have g2 : ¬ (a.length : Int) < (b.length : Int) := by omega
        go_wp2
        go_ret
        refine ⟨?_, hbk⟩
        rw [← HK.out, List.drop_length, List.drop_eq_getElem_cons h1]
        rfl
    · obtain rfl : k = a.length := by omega
      rcases Nat.lt_or_ge a.length b.length with h2 | h2
      · have h2' : (a.length : Int) < (b.length : Int) := by omega
        go_wp2
        go_ret
        refine ⟨?_, hbk⟩
        rw [← HK.out, List.drop_length, List.drop_eq_getElem_cons h2]
        rfl
      · have h3 : b.length = a.length := by omega
        have H3 := Lib.hid h3
        have h4 : ¬ (a.length : Int) < (b.length : Int) := by omega
        have h5 : ¬ (b.length : Int) < (a.length : Int) := by omega
        clear h3
        go_wp2
        go_ret
        refine ⟨?_, hbk⟩
        rw [← HK.out, List.drop_length, List.drop_of_length_le h2]
        rfl

set_option maxRecDepth 100000 in
theorem refSame_any (A1 A2 : Option Addr) (a b : List KPart) (n1 n2 c1 c2 B : Nat) (w : World) (hn1 : n1 = a.length) (hn2 : n2 = b.length) (hr1 : Rd w B A1 (pcs a)) (hr2 : Rd w B A2 (pcs b)) (hB : B ≤ w.heap.size)
    (hl1 : a.length ≤ 4611686018427387904) (hl2 : b.length ≤ 4611686018427387904) :
    Calls Try.prog 18 #[.slice A1 n1 c1, .slice A2 n2 c2] w fun e w' => e = .returned (.bool (decide (a.length = b.length) && decide (keyC a b = 0))) ∧ Below w.heap.size w w' := by
  subst hn1 hn2
  have hc := refCmp_any A1 A2 a b _ _ c1 c2 B w rfl rfl hr1 hr2 hB hl1 hl2
  obtain ⟨x, hx⟩ : ∃ x, x = keyC a b := ⟨_, rfl⟩
  rw [← hx] at hc ⊢
  have HC := Lib.hid hc
  clear hc hx
  by_cases h : (a.length : Int) = (b.length : Int)
  · have h' : a.length = b.length := by omega
    have e : ((a.length : Int) == (b.length : Int)) = true := beq_iff_eq.2 h
    rw [decide_eq_true h', Bool.true_and]
    clear h h'
    go_enter Try.func18, Try.ntmps18
    go_wp2_with (go_at_call 21; (with_reducible refine HC.out.mono ?_); rintro e w' ⟨rfl, hb⟩)
    go_ret
    exact ⟨by rfl, hb⟩
  · have h' : ¬ a.length = b.length := by omega
    have e : ((a.length : Int) == (b.length : Int)) = false := beq_eq_false_iff_ne.2 h
    rw [decide_eq_false h', Bool.false_and]
    clear h h'
    go_enter Try.func18, Try.ntmps18
    go_wp2
    go_ret
    exact ⟨rfl, Below.refl _ _⟩
end Go.Proofs.Ytinhmchekdolmaa
