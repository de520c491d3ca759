/- The contracts of key.End, of its document's answer, and of what they call. -/
import Derived.Test.YtinhmchekdolmaaProg
import Derived.Test.YtinhmchekdolmaaKeyW
import Derived.WalkKit
import Derived.WalkSpells
import Derived.WalkLawsBesides
import Derived.KernelRfl
import Derived.Lib.Hide
namespace Go.Proofs.Ytinhmchekdolmaa
open Go.RowKit

theorem infoU8 : (Try.prog.info? 5).map (fun i => (i.zero, i.size, i.bytes)) = some (some (.int .u8 0), 1, 1) := by kernel_rfl

/-- bytes.Clone of a slice that is not nil. -/
theorem clone_any (p : Addr) (l : List UInt8) (n c B : Nat) (w : World) (hn : n = l.length) (hr : Rd w B (some p) (u8s l)) (hB : B ≤ w.heap.size) (hl : l.length ≤ 140737488355328) :
    Calls Try.prog 36 #[.slice (some p) n c] w fun e w' => ∃ v, e = .returned v ∧ OwnB w' w.heap.size 5 v l ∧ Below w.heap.size w w' := by
  subst hn
  obtain ⟨i0, hi, hz0, hz1, hz2⟩ := info_parts infoU8
  have q26 : ∀ (w : World) (a : Option Addr) (n c n' c' : Nat), (binOp .eql 26 (.slice a n c) (.slice none n' c')).run Try.prog w = .ok (.bool a.isNone) w := fun w a n c n' c' => Lib.run_eql_slice_nil w _ _ a n c n' c' Try.underlying26
  go_enter Try.func36, Try.ntmps36
  go_wp2_with (at_builtin; refine wpList_appB _ rfl (.tmp 5) (.tmp 6) _ rfl w.heap.size 5 i0 _ Try.underlying26 hi hz0 hz1 hz2 rfl (.slice (some ⟨w.heap.size, 0, none⟩) 0 0) [] rfl (OwnB.lit0 w (Nat.le_refl _)) B (some p) l.length c l rfl rfl (hr.alloc hB _) (by simpa using hl) (by simp) ?_; intro v1 w1 hown1 hg1 hat1)
  have hb1 : Below w.heap.size w w1 := ((Below.refl _ _).alloc (Nat.le_refl _) _).grown hg1 (by simp) (by intro k hk; simp [Value.ownBlock] at hk; omega)
  go_ret
  exact ⟨_, rfl, by simpa using hown1, hb1⟩

/-- The document's answer: the last byte that can be raised is raised, what is behind it goes. -/
def endN (l : List UInt8) : Nat → List UInt8
  | 0 => []
  | n + 1 => if l.getD n 0 < 255 then (l.take (n + 1)).set n (l.getD n 0 + 1) else endN l n

theorem endN_hit (l : List UInt8) (k : Nat) (h0 : k < l.length) (h : ((l[k]).toNat : Int) < 255) : endN l (k + 1) = (l.take (k + 1)).set k (l[k] + 1) := by
  have e : l.getD k 0 = l[k] := by simp [List.getD, List.getElem?_eq_getElem h0]
  rw [endN, e, if_pos (by rw [UInt8.lt_iff_toNat_lt]; simp; omega)]
theorem endN_miss (l : List UInt8) (k : Nat) (h0 : k < l.length) (h : ¬ ((l[k]).toNat : Int) < 255) : endN l (k + 1) = endN l k := by
  have e : l.getD k 0 = l[k] := by simp [List.getD, List.getElem?_eq_getElem h0]
  rw [endN, e, if_neg (by rw [UInt8.lt_iff_toNat_lt]; simp; omega)]

set_option maxRecDepth 100000 in
/-- key.End. -/
theorem end_any (A : Option Addr) (l : List UInt8) (n c B : Nat) (w : World) (hn : n = l.length) (hr : Rd w B A (u8s l)) (hB : B ≤ w.heap.size) (hl : l.length ≤ 140737488355328) (hc : l.length ≤ c) (hcm : c ≤ 9223372036854775807) :
    Calls Try.prog 22 #[.slice A n c] w fun e w' => ∃ v, e = .returned v ∧ OwnB w' w.heap.size 5 v (endN l l.length) ∧ Below w.heap.size w w' := by
  subst hn
  go_enter Try.func22, Try.ntmps22
  go_wp2
  go_loop [3] (fun i => ∃ k : Nat, k ≤ l.length ∧ i = .int .i64 ((k : Int) - 1) ∧ endN l k = endN l l.length) (fun i => (intOf i + 1).toNat)
  case atStart => exact ⟨l.length, Nat.le_refl _, rfl, rfl⟩
  case round =>
    obtain ⟨k, hk, rfl, hend⟩ := hrel
    have HE := Lib.hid hend
    clear hend
    rcases Nat.eq_zero_or_pos k with h0 | h0
    · subst h0
      go_wp2
      go_ret
      exact ⟨_, rfl, by rw [← HE.out]; exact OwnB.nil _ _ _, Below.refl _ _⟩
    · obtain ⟨j, rfl⟩ : ∃ j, k = j + 1 := ⟨k - 1, by omega⟩
      obtain ⟨pb, po, rfl, hpB, hcell⟩ := hr.get (k := j) (by rw [u8s_length]; omega)
      rw [u8s_get l j (by omega)] at hcell
      obtain ⟨b, hb⟩ : ∃ b, b = l[j] := ⟨_, rfl⟩
      have HB := Lib.hid hb
      clear hb
      rw [← HB.out] at hcell
      rw [show (((j + 1 : Nat) : Int) - 1) = (j : Int) from by omega]
      have hj : j < l.length := by omega
      by_cases hlt : (b.toNat : Int) < 255
      · obtain ⟨t, ht⟩ : ∃ t, t = l.take (j + 1) := ⟨_, rfl⟩
        have htl : t.length = j + 1 := by rw [ht, List.length_take]; omega
        have htj : j < t.length := by omega
        have htc : t.length ≤ 140737488355328 := by omega
        have hrt : Rd w B (some ⟨pb, po, none⟩) (u8s t) := by rw [ht, u8s_take]; exact hr.take _
        have htb : t[j]'htj = b := by rw [HB.out]; simp [ht]
        have HT := Lib.hid ht
        have HTL := Lib.hid htl
        have HTB := Lib.hid htb
        clear ht htl htb
        go_wp2_with (go_at_call 36; refine (clone_any ⟨pb, po, none⟩ t _ c B w HTL.out.symm hrt hB htc).mono ?_; rintro e w' ⟨v, rfl, hown, hbel⟩; obtain ⟨g, c', rfl, hg, hgs, hlc, hcm'⟩ := hown.form (by omega); have hcg := hown.cell htj; rw [HTB.out] at hcg; have hfg := hown.free j)
        go_ret
        have hst := hown.store j (b + 1)
        have e1 : ((b + 1).toNat : Int) = b.toNat + 1 := by rw [UInt8.toNat_add]; simp; omega
        rw [e1] at hst
        exact ⟨_, rfl, by rw [← HE.out, endN_hit l j hj (by rw [← HB.out]; exact hlt), ← HT.out, ← HB.out]; exact hst, hbel.setCell hg _⟩
      · go_wp2
        go_round
        case rel => exact ⟨j, by omega, rfl, by rw [← HE.out, endN_miss l j hj (by rw [← HB.out]; exact hlt)]⟩
        case measure => simp [intOf]

set_option maxRecDepth 100000 in
/-- rhizomeref01.End. -/
theorem refEnd_any (A : Option Addr) (l : List UInt8) (n c B : Nat) (w : World) (hn : n = l.length) (hr : Rd w B A (u8s l)) (hB : B ≤ w.heap.size) (hl : l.length ≤ 140737488355328) (hc : l.length ≤ c) (hcm : c ≤ 9223372036854775807) :
    Calls Try.prog 23 #[.slice A n c] w fun e w' => ∃ v, e = .returned v ∧ OwnB w' w.heap.size 5 v (endN l l.length) ∧ Below w.heap.size w w' := by
  subst hn
  obtain ⟨i0, hi, hz0, hz1, hz2⟩ := info_parts infoU8
  go_enter Try.func23, Try.ntmps23
  go_wp2
  go_loop [3] (fun i => ∃ k : Nat, k ≤ l.length ∧ i = .int .i64 (k : Int) ∧ endN l k = endN l l.length) (fun i => (intOf i).toNat)
  case atStart => exact ⟨l.length, Nat.le_refl _, rfl, rfl⟩
  case round =>
    obtain ⟨k, hk, rfl, hend⟩ := hrel
    have HE := Lib.hid hend
    clear hend
    rcases Nat.eq_zero_or_pos k with h0 | h0
    · subst h0
      go_wp2
      go_ret
      exact ⟨_, rfl, by rw [← HE.out]; exact OwnB.nil _ _ _, Below.refl _ _⟩
    · obtain ⟨j, rfl⟩ : ∃ j, k = j + 1 := ⟨k - 1, by omega⟩
      obtain ⟨pb, po, rfl, hpB, hcell⟩ := hr.get (k := j) (by rw [u8s_length]; omega)
      rw [u8s_get l j (by omega)] at hcell
      obtain ⟨b, hb⟩ : ∃ b, b = l[j] := ⟨_, rfl⟩
      have HB := Lib.hid hb
      clear hb
      rw [← HB.out] at hcell
      have hj : j < l.length := by omega
      have hjj : (((j + 1 : Nat) : Int) - 1).toNat = j := by omega
      by_cases hlt : ((b.toNat : Int) == 255) = true
      · go_wp2
        go_round
        case rel => exact ⟨j, by omega, by go_num, by rw [← HE.out, endN_miss l j hj (by rw [← HB.out]; simp at hlt; omega)]⟩
        case measure => simp [intOf]
      · have hlt' : ((b.toNat : Int) == 255) = false := by simpa using hlt
        clear hlt
        obtain ⟨t, ht⟩ : ∃ t, t = l.take (j + 1) := ⟨_, rfl⟩
        have htl : t.length = j + 1 := by rw [ht, List.length_take]; omega
        have htj : j < t.length := by omega
        have htc : t.length ≤ 140737488355328 := by omega
        have hrt : Rd w B (some ⟨pb, po, none⟩) (u8s t) := by rw [ht, u8s_take]; exact hr.take _
        have htb : t[j]'htj = b := by rw [HB.out]; simp [ht]
        have HT := Lib.hid ht
        have HTL := Lib.hid htl
        have HTB := Lib.hid htb
        clear ht htl htb
        go_wp2_with (at_builtin; refine wpList_appB _ rfl (.tmp 21) (.tmp 24) _ rfl w.heap.size 5 i0 _ Try.underlying26 hi hz0 hz1 hz2 rfl (.slice (some ⟨w.heap.size, 0, none⟩) 0 0) [] rfl (OwnB.lit0 w (Nat.le_refl _)) B (some ⟨pb, po, none⟩) (j + 1) c t rfl HTL.out.symm (hrt.alloc hB _) (by simpa using htc) (by simp) ?_; intro v1 w1 hown hg1 hat1; rw [List.nil_append] at hown; obtain ⟨g, c', rfl, hg, hgs, hlc, hcm'⟩ := hown.form (by omega); have hcg := hown.cell htj; rw [HTB.out] at hcg; have hfg := hown.free j)
        have hb1 : Below w.heap.size w w1 := ((Below.refl _ _).alloc (Nat.le_refl _) _).grown hg1 (by simp) (by intro k hk; simp [Value.ownBlock] at hk; omega)
        go_ret
        have hb3 : (b.toNat : Int) < 255 := by
          have := b.toNat_lt
          simp at hlt'
          omega
        have hst := hown.store j (b + 1)
        have e1 : ((b + 1).toNat : Int) = (b.toNat + 1) % 256 := by rw [UInt8.toNat_add]; simp
        rw [e1] at hst
        exact ⟨_, rfl, by rw [← HE.out, endN_hit l j hj (by rw [← HB.out]; exact hb3), ← HT.out, ← HB.out]; exact hst, hb1.setCell hg _⟩
end Go.Proofs.Ytinhmchekdolmaa
