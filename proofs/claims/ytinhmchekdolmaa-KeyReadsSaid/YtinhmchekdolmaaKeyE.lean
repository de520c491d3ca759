/- The contracts of key.Cmp and of what it calls. -/
import Derived.Test.YtinhmchekdolmaaProg
import Derived.Test.YtinhmchekdolmaaKeyC
import Derived.WalkKit
import Derived.WalkSpells
import Derived.WalkLawsBesides
import Derived.Lib.Bytealg
import Derived.Deep.QuietTactic
import Derived.BigQuiet
import Derived.KernelRfl
import Derived.Lib.Hide
namespace Go.Proofs.Ytinhmchekdolmaa
open Go.RowKit

theorem compareString_any (a b : ByteArray) (w : World) : Calls Try.prog 42 #[.string a, .string b] w fun e w' => e = .returned (.int .i64 (Lib.compareBytes a.data.toList b.data.toList)) ∧ w' = w := by
  go_enter Try.func42, Try.ntmps42
  go_wp2
  rw [run_callFunc_extern Try.func48 (by kernel_rfl) (by kernel_rfl) (by kernel_rfl) (e := Extern.BytealgCompare.compare) (by kernel_rfl), Lib.run_compareString]
  simp only [Result.andThen]
  rw [Oper.upon_value]
  go_wp2
  go_ret
  exact ⟨rfl, rfl⟩
theorem stringsCompare_any (a b : ByteArray) (w : World) : Calls Try.prog 33 #[.string a, .string b] w fun e w' => e = .returned (.int .i64 (Lib.compareBytes a.data.toList b.data.toList)) ∧ w' = w := by
  go_enter Try.func33, Try.ntmps33
  go_wp2_with (go_at_call 42; refine (compareString_any a b _).mono ?_; rintro e w' ⟨rfl, rfl⟩)
  go_ret
  exact ⟨rfl, rfl⟩

def intC (m n : Int) : Int := if m < n then -1 else if n < m then 1 else 0
theorem isNaN_any (n : Int) (w : World) : Calls Try.prog 43 #[.int .i64 n] w fun e w' => e = .returned (.bool false) ∧ w' = w := by
  go_enter Try.func43, Try.ntmps43
  go_wp2
  go_ret
  exact ⟨by simp, rfl⟩
theorem cmpCompare_any (m n : Int) (w : World) : Calls Try.prog 34 #[.int .i64 m, .int .i64 n] w fun e w' => e = .returned (.int .i64 (intC m n)) ∧ w' = w := by
  rcases Int.lt_trichotomy m n with h | h | h
  · have hi : Hid (intC m n = -1) := by show intC m n = -1; simp [intC, h]
    go_enter Try.func34, Try.ntmps34
    go_wp2_with (go_at_call 43; refine (isNaN_any _ _).mono ?_; rintro e w' ⟨rfl, rfl⟩)
    go_ret
    exact ⟨by rw [hi.out]; rfl, rfl⟩
  · subst h
    have hi : Hid (intC m m = 0) := by show intC m m = 0; simp [intC]
    go_enter Try.func34, Try.ntmps34
    go_wp2_with (go_at_call 43; refine (isNaN_any _ _).mono ?_; rintro e w' ⟨rfl, rfl⟩)
    go_ret
    exact ⟨by rw [hi.out]; rfl, rfl⟩
  · have h2 : ¬ m < n := by omega
    have hi : Hid (intC m n = 1) := by show intC m n = 1; simp [intC, h, h2]
    go_enter Try.func34, Try.ntmps34
    go_wp2_with (go_at_call 43; refine (isNaN_any _ _).mono ?_; rintro e w' ⟨rfl, rfl⟩)
    go_ret
    exact ⟨by rw [hi.out]; rfl, rfl⟩

/-- The order of two parts. -/
def partC (p q : KPart) : Int := if p.text then (if q.text then Lib.compareBytes p.s.data.toList q.s.data.toList else 1) else if q.text then -1 else intC p.n q.n

set_option maxRecDepth 100000 in
theorem cmp1_any (p q : KPart) (w : World) : Calls Try.prog 32 #[.agg p.cells, .agg q.cells] w fun e w' => e = .returned (.int .i64 (partC p q)) ∧ Below w.heap.size w w' := by
  obtain ⟨tp, sp, np⟩ := p
  obtain ⟨tq, sq, nq⟩ := q
  simp only [KPart.cells]
  cases tp <;> cases tq
  all_goals
    go_enter Try.func32, Try.ntmps32
    go_wp2_with (first
      | (go_at_call 33; refine (stringsCompare_any _ _ _).mono ?_; rintro e w' ⟨rfl, rfl⟩)
      | (go_at_call 34; refine (cmpCompare_any _ _ _).mono ?_; rintro e w' ⟨rfl, rfl⟩))
    go_ret
    exact ⟨rfl, ((Below.refl _ _).alloc (Nat.le_refl _) _).alloc (by simp) _⟩

/-- The order of two keys. -/
def keyC : List KPart → List KPart → Int
  | [], [] => 0
  | [], _ :: _ => -1
  | _ :: _, [] => 1
  | p :: a, q :: b => if partC p q ≠ 0 then partC p q else keyC a b

theorem keyC_drop (a b : List KPart) (k : Nat) (ha : k < a.length) (hb : k < b.length) : keyC (a.drop k) (b.drop k) = if partC a[k] b[k] ≠ 0 then partC a[k] b[k] else keyC (a.drop (k + 1)) (b.drop (k + 1)) := by
  rw [List.drop_eq_getElem_cons ha, List.drop_eq_getElem_cons hb, keyC]

set_option maxRecDepth 100000 in
set_option maxHeartbeats 1000000 in
theorem compareFunc_any (A1 A2 : Option Addr) (a b : List KPart) (n1 n2 c1 c2 B : Nat) (w : World) (hn1 : n1 = a.length) (hn2 : n2 = b.length) (hr1 : Rd w B A1 (pcs a)) (hr2 : Rd w B A2 (pcs b)) (hB : B ≤ w.heap.size)
    (hl1 : a.length ≤ 4611686018427387904) (hl2 : b.length ≤ 4611686018427387904) :
    Calls Try.prog 31 #[.slice A1 n1 c1, .slice A2 n2 c2, .func (.func 32) #[] #[]] w fun e w' => e = .returned (.int .i64 (keyC a b)) ∧ Below w.heap.size w w' := by
  subst hn1 hn2
  go_enter Try.func31, Try.ntmps31
  go_wp2
  go_loopw [13] (fun i wr => ∃ k : Nat, k ≤ a.length ∧ k ≤ b.length ∧ i = .int .i64 (k : Int) ∧ keyC (a.drop k) (b.drop k) = keyC a b ∧ Below w.heap.size w wr) (fun i _ => a.length - (intOf i).toNat)
  case atStart => exact ⟨0, by omega, by omega, rfl, rfl, Below.refl _ _⟩
  case round =>
    obtain ⟨k, hka, hkb, rfl, hkc, hbk⟩ := hrel
    have HK := Lib.hid hkc
    clear hkc
    have hsz := hbk.size
    have hr1' := hr1.below hbk hB
    have hr2' := hr2.below hbk hB
    rcases Nat.lt_or_ge k a.length with h1 | h1
    · obtain ⟨p, hp⟩ : ∃ p, p = a[k] := ⟨_, rfl⟩
      obtain ⟨b1, o1, rfl, hpB1, c10, c11, c12⟩ := hr1'.part h1
      rw [← hp] at c10 c11 c12
      have l1 := World.block_lt_of_cell? wr _ c10
      simp only at l1
      rcases Nat.lt_or_ge k b.length with h2 | h2
      · have hd := keyC_drop a b k h1 h2
        obtain ⟨q, hq⟩ : ∃ q, q = b[k] := ⟨_, rfl⟩
        obtain ⟨b2, o2, rfl, hpB2, c20, c21, c22⟩ := hr2'.part h2
        rw [← hq] at c20 c21 c22
        rw [← hp, ← hq] at hd
        have l2 := World.block_lt_of_cell? wr _ c20
        simp only at l2
        have HD := Lib.hid hd
        clear hd hp hq
        obtain ⟨x, hx⟩ : ∃ x, x = partC p q := ⟨_, rfl⟩
        have hcmp := fun W => cmp1_any p q W
        rw [← hx] at hcmp
        have HX := Lib.hid hx
        have HC := Lib.hid hcmp
        clear hx hcmp
        by_cases h0 : (x == 0) = true
        · go_wp2_with (go_at_call 32; refine (HC.out _).mono ?_; rintro e w' ⟨rfl, hb1⟩)
          go_roundw
          case rel =>
            have hx0 : x = 0 := by simpa using h0
            exact ⟨k + 1, by omega, by omega, by go_num, by rw [← HK.out, HD.out, ← HX.out, hx0]; simp, ((hbk.alloc hsz _).alloc (by simp; omega) _).trans (hb1.mono (by simp; omega))⟩
          case measure => simp [intOf]; omega
        · have h0' : (x == 0) = false := by simpa using h0
          clear h0
          go_wp2_with (go_at_call 32; refine (HC.out _).mono ?_; rintro e w' ⟨rfl, hb1⟩)
          go_ret
          have hx0 : ¬ x = 0 := by simpa using h0'
          exact ⟨by rw [← HK.out, HD.out, ← HX.out, if_pos hx0]; rfl, ((hbk.alloc hsz _).alloc (by simp; omega) _).trans (hb1.mono (by simp; omega))⟩
      · obtain rfl : k = b.length := by omega
        go_wp2
        go_ret
        refine ⟨?_, hbk.alloc hsz _⟩
        rw [← HK.out, List.drop_length, List.drop_eq_getElem_cons h1]
        rfl
    · obtain rfl : k = a.length := by omega
      rcases Nat.lt_or_ge a.length b.length with h2 | h2
      · have h2' : (a.length : Int) < (b.length : Int) := by omega
        go_wp2
        go_ret
        refine ⟨?_, hbk⟩
        rw [← HK.out, List.drop_length, List.drop_eq_getElem_cons h2]
        rfl
      · have h2' : ¬ (a.length : Int) < (b.length : Int) := by omega
        go_wp2
        go_ret
        refine ⟨?_, hbk⟩
        rw [← HK.out, List.drop_length, List.drop_of_length_le h2]
        rfl

theorem cmp_any (A1 A2 : Option Addr) (a b : List KPart) (n1 n2 c1 c2 B : Nat) (w : World) (hn1 : n1 = a.length) (hn2 : n2 = b.length) (hr1 : Rd w B A1 (pcs a)) (hr2 : Rd w B A2 (pcs b)) (hB : B ≤ w.heap.size)
    (hl1 : a.length ≤ 4611686018427387904) (hl2 : b.length ≤ 4611686018427387904) :
    Calls Try.prog 20 #[.slice A1 n1 c1, .slice A2 n2 c2] w fun e w' => e = .returned (.int .i64 (keyC a b)) ∧ Below w.heap.size w w' := by
  have hcf := fun W (h1 : Rd W B A1 (pcs a)) (h2 : Rd W B A2 (pcs b)) (h3 : B ≤ W.heap.size) => compareFunc_any A1 A2 a b n1 n2 c1 c2 B W hn1 hn2 h1 h2 h3 hl1 hl2
  obtain ⟨x, hx⟩ : ∃ x, x = keyC a b := ⟨_, rfl⟩
  rw [← hx] at hcf ⊢
  have HC := hcf w hr1 hr2 hB
  clear hcf hx hr1 hr2 hn1 hn2 hl1 hl2
  have H := Lib.hid HC
  clear HC
  go_enter Try.func20, Try.ntmps20
  go_wp2_with fail
  refine H.out.mono ?_
  rintro e w' ⟨rfl, hb1⟩
  go_wp2
  go_ret
  exact ⟨rfl, hb1⟩
end Go.Proofs.Ytinhmchekdolmaa
