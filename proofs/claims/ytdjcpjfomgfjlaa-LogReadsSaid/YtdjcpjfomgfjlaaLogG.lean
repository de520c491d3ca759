/- bytes.Equal, readHead. -/
import Derived.Test.YtdjcpjfomgfjlaaLogF
import Derived.Laws.Bits64b
import Derived.IntWalk
namespace Go.Proofs.Ytdjcpjfomgfjlaa
open Go.RowKit Go.Maps

set_option maxRecDepth 100000 in
theorem equal_any (A1 A2 : Option Addr) (l1 l2 : List UInt8) (n1 n2 c1 c2 B1 B2 : Nat) (w : World) (h1 : Rd w B1 A1 (u8s l1)) (h2 : Rd w B2 A2 (u8s l2)) (hn1 : n1 = l1.length) (hn2 : n2 = l2.length) :
    Calls Try.prog 72 #[.slice A1 n1 c1, .slice A2 n2 c2] w fun e w' => e = .returned (.bool (l1 == l2)) ∧ w = w' := by
  have s1 := strAt (c := c1) h1 hn1
  have s2 := strAt (c := c2) h2 hn2
  clear h1 h2 hn1 hn2
  obtain ⟨b, hb⟩ : ∃ b, b = (l1 == l2) := ⟨_, rfl⟩
  rw [← hb]
  cases b with
  | true =>
    have hl : l1 = l2 := by simpa using hb.symm
    subst hl
    clear hb
    go_enter Try.func72, Try.ntmps72
    go_wp2
    go_ret
    exact ⟨rfl, rfl⟩
  | false =>
    have hl : ¬ l1 = l2 := by intro e; rw [e] at hb; simp at hb
    have hl2 : (l1 == l2) = false := hb.symm
    clear hb
    go_enter Try.func72, Try.ntmps72
    go_wp2
    go_ret
    exact ⟨rfl, rfl⟩

theorem wrap_i64 (n : Int) : IntKind.i64.wrap n = wrap64 n := by
  simp [IntKind.wrap, IntKind.bits, IntKind.signed, wrap64]
  omega
theorem or_byte (V : Nat) (x : UInt8) (hV : V < 72057594037927936) : bits .or .i64 (wrap64 (wrap64 (V : Int) * 256)) (wrap64 (x.toNat : Int)) = wrap64 ((V * 256 + x.toNat : Nat) : Int) := by
  have hx := x.toNat_lt
  have e0 : wrap64 (V : Int) = (V : Int) := by unfold wrap64; omega
  have e9 : wrap64 (x.toNat : Int) = (x.toNat : Int) := wrap_byte x
  rw [e9]
  have h1 : (BitVec.ofInt 64 (wrap64 (wrap64 (V : Int) * 256))).toNat = V * 256 := by
    rw [e0, BitVec.toNat_ofInt]
    unfold wrap64
    omega
  have h2 : (BitVec.ofInt 64 (x.toNat : Int)).toNat = x.toNat := by
    rw [BitVec.ofInt_natCast, BitVec.toNat_ofNat]; exact Nat.mod_eq_of_lt (by omega)
  show IntKind.i64.wrap ((BitVec.ofInt 64 (wrap64 (wrap64 (V : Int) * 256)) ||| BitVec.ofInt 64 (x.toNat : Int)).toNat : Int) = _
  rw [BitVec.toNat_or, h1, h2, wrap_i64]
  have w3 : V * 256 ||| x.toNat = V * 256 + x.toNat := by
    have := Nat.shiftLeft_add_eq_or_of_lt (show x.toNat < 2 ^ 8 by omega) V
    rw [Nat.shiftLeft_eq] at this
    exact this.symm
  rw [w3]
theorem take_snoc' (l : List UInt8) (k : Nat) (h : k < l.length) : l.take (k + 1) = l.take k ++ [l[k]] := by
  rw [List.take_succ_eq_append_getElem h]
/-- What readHead tells. -/
def seqX (b : List UInt8) : Int := wrap64 (seqV b : Int)
theorem lenV_lt (b : List UInt8) : lenV b < 65536 := by
  have := beV_lt ((b.drop 9).take 2)
  have h2 : ((b.drop 9).take 2).length ≤ 2 := List.length_take_le _ _
  have h3 : 256 ^ ((b.drop 9).take 2).length ≤ 256 ^ 2 := Nat.pow_le_pow_right (by omega) h2
  unfold lenV
  omega
theorem seqV_lt (b : List UInt8) : seqV b < 18446744073709551616 := by
  have := beV_lt ((b.drop 1).take 8)
  have h2 : ((b.drop 1).take 8).length ≤ 8 := List.length_take_le _ _
  have h3 : 256 ^ ((b.drop 1).take 8).length ≤ 256 ^ 8 := Nat.pow_le_pow_right (by omega) h2
  unfold seqV
  omega
theorem lenV_two (b : List UInt8) (h : b.length = 64) : lenV b = b[9].toNat * 256 + b[10].toNat := by
  have : (b.drop 9).take 2 = [b[9], b[10]] := by
    apply List.ext_getElem
    · simp; omega
    · intro i h1 h2
      have : i < 2 := by simpa using h2
      match i, this with
      | 0, _ => simp
      | 1, _ => simp
  unfold lenV
  rw [this]
  simp [beV]
/-- Is it a head? -/
def isHd (b : List UInt8) : Bool := (hdr b).isSome
theorem isHd_no {b : List UInt8} (h : ¬ (1 ≤ seqX b ∧ seqX b ≤ 4611686018427387904 ∧ lenV b ≤ 4000)) : isHd b = false := by
  unfold isHd hdr
  rw [if_neg]
  · rfl
  · rintro ⟨h1, h2, h3, _⟩
    apply h
    have : seqX b = (seqV b : Int) := by unfold seqX wrap64; omega
    rw [this]
    omega
theorem isHd_yes {b : List UInt8} (h1 : 1 ≤ seqX b) (h2 : seqX b ≤ 4611686018427387904) (h3 : lenV b ≤ 4000) : seqX b = (seqV b : Int) ∧ isHd b = (b == headL (seqV b) (lenV b)) := by
  have hs := seqV_lt b
  have e : seqX b = (seqV b : Int) := by
    unfold seqX wrap64 at h1 h2 ⊢
    omega
  refine ⟨e, ?_⟩
  rw [e] at h1 h2
  unfold isHd hdr
  by_cases hb : b = headL (seqV b) (lenV b)
  · rw [if_pos ⟨by omega, by omega, h3, hb⟩]
    exact (beq_iff_eq.2 hb).symm
  · rw [if_neg (fun h => hb h.2.2.2)]
    exact (beq_eq_false_iff_ne.2 hb).symm

set_option maxRecDepth 100000 in
set_option maxHeartbeats 2000000 in
theorem readHead_any (g : Nat) (b : List UInt8) (B : Nat) (w : World) (hr : Rd w B (some ⟨g, 0, none⟩) (u8s b)) (hl : b.length = 64) (hB : B ≤ w.heap.size) :
    Calls Try.prog 68 #[.slice (some ⟨g, 0, none⟩) 64 64] w fun e w' => e = .returned (.tuple #[.int .i64 (seqX b), .int .i64 (lenV b : Int), .bool (isHd b)]) ∧ Below w.heap.size w w' := by
  have HR := Lib.hid hr
  have HL := Lib.hid (And.intro hl hB)
  have hd8 : ((b.drop 1).take 8).length = 8 := by simp; omega
  have HD := Lib.hid hd8
  have hc : ∀ k x, b[k]? = some x → w.cell? ⟨g, k, none⟩ = some (.int .u8 (x.toNat : Int)) := fun k x hx => rd_cell hr hx
  have HC := Lib.hid hc
  clear hr hl hB hd8 hc
  go_enter Try.func68, Try.ntmps68
  go_wp2
  go_loop [2, 6, 10] (fun u _ i => ∃ k : Nat, k ≤ 8 ∧ i = .int .i64 (k : Int) ∧ u = .int .i64 (wrap64 (beV (((b.drop 1).take 8).take k) : Int))) (fun _ _ i => 8 - (intOf i).toNat)
  case atStart => exact ⟨0, by omega, rfl, by simp [beV, wrap64]⟩
  case round =>
    obtain ⟨k, hk, rfl, rfl⟩ := hrel
    by_cases hk8 : k < 8
    · have hkI : (k : Int) < 8 := by omega
      obtain ⟨x, hx⟩ : ∃ x, x = ((b.drop 1).take 8)[k]'(by rw [HD.out]; exact hk8) := ⟨_, rfl⟩
      have hbk : b[1 + k]? = some x := by
        rw [hx, List.getElem?_eq_getElem (by have := HL.out.1; omega)]
        simp [Nat.add_comm]
      have hsn : beV (((b.drop 1).take 8).take (k + 1)) = beV (((b.drop 1).take 8).take k) * 256 + x.toNat := by
        rw [take_snoc' _ k (by rw [HD.out]; exact hk8), beV_snoc, hx]
      have hlt : beV (((b.drop 1).take 8).take k) < 72057594037927936 := by
        have := beV_lt (((b.drop 1).take 8).take k)
        have h2 : (((b.drop 1).take 8).take k).length ≤ 7 := by have := List.length_take_le k ((b.drop 1).take 8); omega
        have h3 : 256 ^ (((b.drop 1).take 8).take k).length ≤ 256 ^ 7 := Nat.pow_le_pow_right (by omega) h2
        omega
      have hc1 := HC.out (1 + k) x hbk
      have HS := Lib.hid (And.intro hsn hlt)
      obtain ⟨V, hV⟩ : ∃ V, V = beV (((b.drop 1).take 8).take k) := ⟨_, rfl⟩
      rw [← hV] at HS ⊢
      clear hsn hlt hbk hx hV
      go_wp2
      go_round
      case rel =>
        refine ⟨k + 1, by omega, by simp, ?_⟩
        rw [or_byte V x HS.out.2, HS.out.1]
      case measure => simp [intOf]; omega
    · obtain rfl : k = 8 := by omega
      have hl := HL.out.1
      have h9 : b[9]? = some b[9] := List.getElem?_eq_getElem (by omega)
      have h10 : b[10]? = some b[10] := List.getElem?_eq_getElem (by omega)
      have c9 := HC.out 9 _ h9
      have c10 := HC.out 10 _ h10
      obtain ⟨x9, hx9⟩ : ∃ x, x = b[9]'(by omega) := ⟨_, rfl⟩
      obtain ⟨x10, hx10⟩ : ∃ x, x = b[10]'(by omega) := ⟨_, rfl⟩
      have hlen : lenV b = x9.toNat * 256 + x10.toNat := by rw [lenV_two b hl, hx9, hx10]
      rw [← hx9] at c9
      rw [← hx10] at c10
      have hX : wrap64 (beV (((b.drop 1).take 8).take 8) : Int) = seqX b := by rw [List.take_of_length_le (by rw [HD.out]; omega)]; rfl
      rw [hX]
      have ho : bits .or .i64 (wrap64 ((x9.toNat : Int) * 256)) (x10.toNat : Int) = (lenV b : Int) := by
        have h1 := or_byte x9.toNat x10 (by have := x9.toNat_lt; omega)
        rw [wrap_byte x9, wrap_byte x10] at h1
        rw [h1, hlen]
        have := x9.toNat_lt
        have := x10.toNat_lt
        unfold wrap64
        omega
      have e9 : wrap64 (x9.toNat : Int) = (x9.toNat : Int) := wrap_byte x9
      have e10 : wrap64 (x10.toNat : Int) = (x10.toNat : Int) := wrap_byte x10
      have HLEN := Lib.hid (And.intro hlen ho)
      have HYN : isHd b = true ∨ isHd b = false := by cases isHd b <;> simp
      obtain ⟨X, hXX⟩ : ∃ X, X = seqX b := ⟨_, rfl⟩
      rw [← hXX]
      have HXX := Lib.hid hXX
      clear hX hlen h9 h10 hx9 hx10 hl hXX ho
      go_upto_region 6 with go_in
      go_quiet (fail)
      rw [HLEN.out.2]
      have hb9 : Below w.heap.size w (w.drewN nq) := Below.drewN' (Below.refl _ _) _
      have hr9 := HR.out.drewN nq
      have HW := Lib.hid (And.intro hb9 (And.intro hr9 (show B ≤ (w.drewN nq).heap.size from HL.out.2)))
      clear hb9 hr9 c9 c10 e9 e10
      generalize w.drewN nq = W at HW ⊢
      obtain ⟨Y, hY⟩ : ∃ Y, Y = lenV b := ⟨_, rfl⟩
      have hYb : (Y : Int) ≤ 65535 := by have := lenV_lt b; omega
      rw [← hY]
      by_cases hall : 1 ≤ X ∧ X ≤ 4611686018427387904 ∧ Y ≤ 4000
      · obtain ⟨h1, h2, h3⟩ := hall
        have hyes := isHd_yes (b := b) (by rw [← HXX.out]; exact h1) (by rw [← HXX.out]; exact h2) (by rw [← hY]; exact h3)
        obtain ⟨S, hS⟩ : ∃ S, S = seqV b := ⟨_, rfl⟩
        have hXS : X = (S : Int) := by rw [HXX.out, hyes.1, hS]
        subst hXS
        have hho := headOf_any S Y W (by omega) (by omega)
        have HH := Lib.hid hho
        have HE : Hid ((b == headL S Y) = isHd b) := Lib.hid (by rw [hyes.2, hY, hS])
        have h3' : (Y : Int) ≤ 4000 := by omega
        have hS2 : (S : Int) ≤ 4611686018427387904 := h2
        have hS1 : 1 ≤ (S : Int) := h1
        have HYY := Lib.hid hY
        clear hyes hho hS h3 HYN h1 h2 hY
        go_wp2_with (first
          | (go_at_call 75; (with_reducible refine HH.out.mono ?_); rintro e w2 ⟨g2, rfl, hg1, hg2, hr2, hl2, hb2⟩)
          | (go_at_call 72; (refine (equal_any _ _ b (headL S Y) 64 64 64 64 _ _ w2 (HW.out.2.1.below hb2 HW.out.2.2) hr2 HL.out.1.symm hl2.symm).mono ?_); rintro e w3 ⟨rfl, rfl⟩; rw [HE.out])
          | go_in)
        go_ret3
        refine ⟨?_, HW.out.1.trans ⟨hb2.os, hb2.tape, hb2.output, hb2.size, fun k hk => hb2.block k (by have := HW.out.1.size; omega)⟩⟩
        rw [← HYY.out, ← HXX.out]
        rfl
      · have hno : isHd b = false := isHd_no (by rw [← HXX.out, ← hY]; exact hall)
        have HNO := Lib.hid (And.intro hall hno)
        have HYY := Lib.hid hY
        clear hno hall HYN hY
        have hfin : (Ending.returned (.tuple #[.int .i64 X, .int .i64 (Y : Int), .bool false]) = .returned (.tuple #[.int .i64 (seqX b), .int .i64 (lenV b : Int), .bool (isHd b)])) := by rw [HNO.out.2, ← HXX.out, ← HYY.out]
        have HF := Lib.hid hfin
        clear hfin
        by_cases h1 : 1 ≤ X
        · by_cases h2 : X ≤ 4611686018427387904
          · have h3 : ¬ (Y : Int) ≤ 4000 := by have := HNO.out.1; omega
            go_wp2_with go_in
            go_ret3
            exact ⟨HF.out, HW.out.1⟩
          · go_wp2_with go_in
            go_ret3
            exact ⟨HF.out, HW.out.1⟩
        · go_wp2_with go_in
          go_ret3
          exact ⟨HF.out, HW.out.1⟩
end Go.Proofs.Ytdjcpjfomgfjlaa
