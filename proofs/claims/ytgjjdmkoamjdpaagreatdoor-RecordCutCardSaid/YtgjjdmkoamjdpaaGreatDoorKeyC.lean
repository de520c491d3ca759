/- KeyC, what this seat can fill of it. -/
import Derived.Test.YtgjjdmkoamjdpaaGreatDoorProg
import Derived.Test.YtgjjdmkoamjdpaaGreatDoorMem
import Derived.Test.YtgjjdmkoamjdpaaGreatDoorKeyA
import Derived.Test.YtgjjdmkoamjdpaaGreatDoorKeyB
import Derived.WalkKit
import Derived.WalkSpells
import Derived.WalkLawsBesides
import Derived.Deep.QuietTactic
import Derived.BigQuiet
import Derived.KernelRfl
import Derived.Lib.Hide
namespace Go.Proofs.YtgjjdmkoamjdpaaGreatDoor
set_option maxRecDepth 100000
/- The contract of key.Encode, by those of what it calls. -/
open Go.RowKit

/-- A part's bytes. -/
def partB (p : KPart) : List UInt8 := if p.text then 2 :: (escB p.s.data.toList ++ [0, 1]) else 1 :: numB p.n
theorem partB_length (p : KPart) : (partB p).length = partSz p := by
  unfold partB partSz
  split
  · simp [escB_length, Lib.countByte]
  · simp [numB_length]
def KPart.fits (p : KPart) : Prop := p.s.size ≤ 140737488355328 ∧ -9223372036854775808 ≤ p.n ∧ p.n ≤ 9223372036854775807

set_option maxRecDepth 100000 in
/-- appendPart. -/
theorem appendPart_any (base : Nat) (v : Value) (l : List UInt8) (p : KPart) (w : World) (hown : OwnB w base 5 v l) (hbase : base ≤ w.heap.size) (hl : l.length ≤ 1000) (hf : p.fits) (hs : partSz p ≤ 1000) :
    Calls Tryz.prog 84 #[v, .agg p.cells] w fun e w' => ∃ v', e = .returned v' ∧ OwnB w' base 5 v' (l ++ partB p) ∧ Below base w w' := by
  obtain ⟨tx, s, n⟩ := p
  obtain ⟨f0, f1, f2⟩ := hf
  simp only at f0 f1 f2
  cases tx
  · have hB : Hid (partB ⟨false, s, n⟩ = 1 :: numB n) := rfl
    clear hs
    simp only [KPart.cells]
    go_enter Tryz.func84, Tryz.ntmps84
    go_wp2_with (go_at_call 107; refine (appendNum_any base v l n _ (hown.alloc _) (by simp; omega) hl f1 f2).mono ?_; rintro e w' ⟨v', rfl, hown', hb⟩)
    go_ret
    exact ⟨_, rfl, by rw [hB.out]; exact hown', ((Below.refl _ _).alloc hbase _).trans hb⟩
  · have hB : Hid (partB ⟨true, s, n⟩ = 2 :: (escB s.data.toList ++ [0, 1])) := rfl
    have hs1 : s.size ≤ 1000 := by simp [partSz] at hs; omega
    clear hs
    simp only [KPart.cells]
    go_enter Tryz.func84, Tryz.ntmps84
    go_wp2_with (go_at_call 106; refine (appendText_any base v l s _ (hown.alloc _) (by simp; omega) hl hs1).mono ?_; rintro e w' ⟨v', rfl, hown', hb⟩)
    go_ret
    exact ⟨_, rfl, by rw [hB.out]; exact hown', ((Below.refl _ _).alloc hbase _).trans hb⟩

/-- Parts as cells. -/
def pcs (ks : List KPart) : List Value := ks.flatMap fun p => p.cells.toList
theorem pcs_length (ks : List KPart) : (pcs ks).length = ks.length * 3 := by
  induction ks with
  | nil => rfl
  | cons p ks ih => simp only [pcs, List.flatMap_cons, List.length_append, List.length_cons] at ih ⊢; rw [ih]; simp [KPart.cells]; omega
theorem pcs_get (ks : List KPart) : ∀ (k : Nat) (h : k < ks.length) (j : Nat) (_ : j < 3), (pcs ks)[k * 3 + j]? = (ks[k]).cells.toList[j]? := by
  induction ks with
  | nil => intro k h; simp at h
  | cons p ks ih =>
    intro k h j hj
    have hc : pcs (p :: ks) = p.cells.toList ++ pcs ks := rfl
    have h3 : p.cells.toList.length = 3 := rfl
    rw [hc]
    cases k with
    | zero => rw [List.getElem?_append_left (by rw [h3]; omega)]; simp
    | succ k =>
      rw [List.getElem?_append_right (by rw [h3]; omega), h3, show (k + 1) * 3 + j - 3 = k * 3 + j from by omega, ih k (by simpa using h) j hj]
      rfl

/-- A part's three cells, as the walk spells them. -/
theorem Rd.part {w : World} {B : Nat} {A : Option Addr} {ks : List KPart} (h : Rd w B A (pcs ks)) {k : Nat} (hk : k < ks.length) :
    ∃ b o, A = some ⟨b, o, .none⟩ ∧ b < B ∧ w.cell? ⟨b, o + k * 3, .none⟩ = some (.bool ks[k].text) ∧ w.cell? ⟨b, o + k * 3 + 1, .none⟩ = some (.string ks[k].s) ∧ w.cell? ⟨b, o + k * 3 + 2, .none⟩ = some (.int .i64 ks[k].n) := by
  obtain ⟨b, o, rfl, hb, hc⟩ := h (by intro e; have := pcs_length ks; rw [e] at this; simp at this; omega)
  refine ⟨b, o, rfl, hb, ?_, ?_, ?_⟩
  · exact hc (k * 3 + 0) _ (by rw [pcs_get ks k hk 0 (by omega)]; rfl)
  · rw [Nat.add_assoc]; exact hc (k * 3 + 1) _ (by rw [pcs_get ks k hk 1 (by omega)]; rfl)
  · rw [Nat.add_assoc]; exact hc (k * 3 + 2) _ (by rw [pcs_get ks k hk 2 (by omega)]; rfl)

/-- A key's bytes. -/
def keyB (ks : List KPart) : List UInt8 := ks.flatMap partB
def keySz (ks : List KPart) : Nat := (ks.map partSz).sum
theorem keyB_length (ks : List KPart) : (keyB ks).length = keySz ks := by
  induction ks with
  | nil => rfl
  | cons p ks ih =>
    have e1 : keyB (p :: ks) = partB p ++ keyB ks := rfl
    have e2 : keySz (p :: ks) = partSz p + keySz ks := by simp [keySz]
    rw [e1, e2, List.length_append, ih, partB_length]
theorem keyB_append (a b : List KPart) : keyB (a ++ b) = keyB a ++ keyB b := List.flatMap_append
theorem keySz_append (a b : List KPart) : keySz (a ++ b) = keySz a + keySz b := by simp [keySz, List.sum_append]

theorem kTake (l : List KPart) (k : Nat) (h : k < l.length) : l.take (k + 1) = l.take k ++ [l[k]] := List.take_succ_eq_append_getElem h

set_option maxRecDepth 100000 in
set_option maxHeartbeats 1000000 in
/-- Encode of what is not too long. -/
theorem encode_ok (A : Option Addr) (ks : List KPart) (n c B : Nat) (w : World) (hn : n = ks.length) (hr : Rd w B A (pcs ks)) (hB : B ≤ w.heap.size) (hc : ks.length ≤ c) (hcm : c ≤ 9223372036854775807)
    (hf : ∀ p ∈ ks, p.fits) (hz : keySz ks ≤ 200) :
    Calls Tryz.prog 69 #[.slice A n c] w fun e w' => ∃ v', e = .returned (.tuple #[v', .int .i64 0]) ∧ OwnB w' w.heap.size 5 v' (keyB ks) ∧ Below w.heap.size w w' := by
  subst hn
  obtain ⟨i0, hi, hz0, hz1, hz2⟩ := info_parts kinfoU8
  go_enter Tryz.func69, Tryz.ntmps69
  go_wp2
  have HF := Lib.hid hf
  clear hf
  go_loopw [4, 12] (fun z i wr => ∃ k : Nat, k ≤ ks.length ∧ i = .int .i64 (k : Int) ∧ z = .int .i64 (keySz (ks.take k) : Int) ∧ Below w.heap.size w wr) (fun _ i _ => ks.length - (intOf i).toNat)
  case atStart => exact ⟨0, by omega, rfl, rfl, Below.refl _ _⟩
  case round =>
    obtain ⟨k, hk, rfl, rfl, hbk⟩ := hrel
    have hsz := hbk.size
    rcases Nat.lt_or_ge k ks.length with h8 | h8
    · obtain ⟨q, hq⟩ : ∃ q, q = ks[k] := ⟨_, rfl⟩
      have hqf : q.fits := HF.out q (by rw [hq]; exact List.getElem_mem _)
      have hsn : ks.take (k + 1) = ks.take k ++ [q] := by rw [hq]; exact kTake _ _ _
      have hz1 : keySz (ks.take k) + partSz q ≤ 200 := by
        have : keySz ks = keySz (ks.take (k + 1)) + keySz (ks.drop (k + 1)) := by rw [← keySz_append, List.take_append_drop]
        rw [hsn, keySz_append] at this
        simp [keySz] at this hz ⊢
        omega
      have hrw := hr.below hbk hB
      obtain ⟨pb, po, rfl, hpB, c0, c1, c2⟩ := hrw.part h8
      rw [← hq] at c0 c1 c2
      have HS := Lib.hid hsn
      clear hsn hq
      obtain ⟨Z, hZ⟩ : ∃ Z, Z = keySz (ks.take k) := ⟨_, rfl⟩
      rw [← hZ] at hz1 ⊢
      have HZ := Lib.hid hZ
      clear hZ
      have hq0 := hqf.1
      go_wp2_with (go_at_call 83; refine (partSize_any q _ hq0).mono ?_; rintro e w' ⟨rfl, hb1⟩)
      go_roundw
      case rel =>
        exact ⟨k + 1, by omega, by go_num, by rw [HS.out, keySz_append, ← HZ.out]; simp [keySz], (hbk.alloc hsz _).trans (hb1.mono (by simp; omega))⟩
      case measure => simp [intOf]; omega
    · obtain rfl : k = ks.length := by omega
      obtain ⟨Z, hZ⟩ : ∃ Z, Z = keySz (ks.take ks.length) := ⟨_, rfl⟩
      have hZ1 : Z ≤ 200 := by rw [hZ, List.take_length]; exact hz
      rw [← hZ]
      have HZ := Lib.hid hZ
      clear hZ hz
      go_wp2_with (at_make; refine wpList_make_own _ rfl _ _ 32 rfl w.heap.size 5 i0 _ 1 Tryz.underlying32 hi hz0 hz1 .i64 .i64 (Z : Int) Z rfl rfl rfl (by rw [hz2]; omega) (by simp only [maxLen]; omega) hsz ?_; intro w1 hown1 hg1)
      have hb1 : Below w.heap.size w w1 := hbk.grown hg1 hsz (by simp)
      have hown1' : OwnB w1 w.heap.size 5 (.slice (some ⟨wr.heap.size, 0, none⟩) 0 Z) [] := hown1
      clear hg1 hown1 hbk
      go_loopw [7, 27] (fun v i wr => ∃ k : Nat, k ≤ ks.length ∧ i = .int .i64 (k : Int) ∧ OwnB wr w.heap.size 5 v (keyB (ks.take k)) ∧ Below w.heap.size w wr) (fun _ i _ => ks.length - (intOf i).toNat)
      case atStart => exact ⟨0, by omega, rfl, hown1', hb1⟩
      case round =>
        clear hown1' hb1
        obtain ⟨k, hk, rfl, hown, hbk⟩ := hrel
        have hsz := hbk.size
        rcases Nat.lt_or_ge k ks.length with h9 | h9
        · obtain ⟨q, hq⟩ : ∃ q, q = ks[k] := ⟨_, rfl⟩
          have hqf : q.fits := HF.out q (by rw [hq]; exact List.getElem_mem _)
          have hsn : ks.take (k + 1) = ks.take k ++ [q] := by rw [hq]; exact kTake _ _ _
          have hz1 : keySz (ks.take k) + partSz q ≤ 200 := by
            have : keySz ks = keySz (ks.take (k + 1)) + keySz (ks.drop (k + 1)) := by rw [← keySz_append, List.take_append_drop]
            rw [hsn, keySz_append] at this
            rw [List.take_length] at HZ
            have hZ := HZ.out
            simp [keySz] at this hZ ⊢
            omega
          have hkl : (keyB (ks.take k)).length ≤ 1000 := by rw [keyB_length]; omega
          have hpz : partSz q ≤ 1000 := by omega
          have hrw := hr.below hbk hB
          obtain ⟨pb, po, rfl, hpB, c0, c1, c2⟩ := hrw.part h9
          rw [← hq] at c0 c1 c2
          have HS := Lib.hid hsn
          clear hsn hq hz1
          go_wp2_with (go_at_call 84; refine (appendPart_any w.heap.size _ (keyB (ks.take k)) q _ (hown.alloc _) (by simp; omega) hkl hqf hpz).mono ?_; rintro e w' ⟨v', rfl, hown', hb'⟩)
          go_roundw
          case rel =>
            exact ⟨k + 1, by omega, by go_num, by rw [HS.out, keyB_append]; simpa [keyB] using hown', (hbk.alloc hsz _).trans hb'⟩
          case measure => simp [intOf]; omega
        · obtain rfl : k = ks.length := by omega
          go_wp2
          go_ret2
          exact ⟨_, rfl, by rw [List.take_length] at hown; exact hown, hbk⟩

set_option maxRecDepth 100000 in
set_option maxHeartbeats 1000000 in
/-- Encode of what is too long. -/
theorem encode_long (A : Option Addr) (ks : List KPart) (n c B : Nat) (w : World) (hn : n = ks.length) (hr : Rd w B A (pcs ks)) (hB : B ≤ w.heap.size) (hc : ks.length ≤ c) (hcm : c ≤ 9223372036854775807)
    (hf : ∀ p ∈ ks, p.fits) (hz : 200 < keySz ks) :
    Calls Tryz.prog 69 #[.slice A n c] w fun e w' => e = .returned (.tuple #[.slice none 0 0, .int .i64 3]) ∧ Below w.heap.size w w' := by
  subst hn
  go_enter Tryz.func69, Tryz.ntmps69
  go_wp2
  have HF := Lib.hid hf
  clear hf
  go_loopw [4, 12] (fun z i wr => ∃ k : Nat, k ≤ ks.length ∧ i = .int .i64 (k : Int) ∧ z = .int .i64 (keySz (ks.take k) : Int) ∧ keySz (ks.take k) ≤ 200 ∧ Below w.heap.size w wr) (fun _ i _ => ks.length - (intOf i).toNat)
  case atStart => exact ⟨0, by omega, rfl, rfl, by simp [keySz], Below.refl _ _⟩
  case round =>
    obtain ⟨k, hk, rfl, rfl, hle, hbk⟩ := hrel
    have hsz := hbk.size
    rcases Nat.lt_or_ge k ks.length with h8 | h8
    · obtain ⟨q, hq⟩ : ∃ q, q = ks[k] := ⟨_, rfl⟩
      have hqf : q.fits := HF.out q (by rw [hq]; exact List.getElem_mem _)
      have hsn : ks.take (k + 1) = ks.take k ++ [q] := by rw [hq]; exact kTake _ _ _
      have hrw := hr.below hbk hB
      obtain ⟨pb, po, rfl, hpB, c0, c1, c2⟩ := hrw.part h8
      rw [← hq] at c0 c1 c2
      have HS := Lib.hid hsn
      clear hsn hq
      obtain ⟨Z, hZ⟩ : ∃ Z, Z = keySz (ks.take k) := ⟨_, rfl⟩
      rw [← hZ] at hle ⊢
      have HZ := Lib.hid hZ
      clear hZ hz
      have hq0 := hqf.1
      have hps : partSz q ≤ 281474976710700 := by
        have hcl : Lib.countByte q.s.data.toList 0 ≤ q.s.size := by
          have := List.count_le_length (a := (0 : UInt8)) (l := q.s.data.toList)
          have h0 : q.s.data.toList.length = q.s.size := by simp
          unfold Lib.countByte
          omega
        unfold partSz; split <;> omega
      rcases Nat.lt_or_ge 200 (Z + partSz q) with hgt | hgt
      · go_wp2_with (go_at_call 83; refine (partSize_any q _ hq0).mono ?_; rintro e w' ⟨rfl, hb1⟩)
        go_ret2
        exact ⟨rfl, (hbk.alloc hsz _).trans (hb1.mono (by simp; omega))⟩
      · go_wp2_with (go_at_call 83; refine (partSize_any q _ hq0).mono ?_; rintro e w' ⟨rfl, hb1⟩)
        go_roundw
        case rel =>
          exact ⟨k + 1, by omega, by go_num, by rw [HS.out, keySz_append, ← HZ.out]; simp [keySz], by rw [HS.out, keySz_append, ← HZ.out]; simpa [keySz] using hgt, (hbk.alloc hsz _).trans (hb1.mono (by simp; omega))⟩
        case measure => simp [intOf]; omega
    · exfalso
      rw [List.take_of_length_le h8] at hle
      omega

def encE (ks : List KPart) : Nat := if keySz ks ≤ 200 then 0 else 3
def encB (ks : List KPart) : List UInt8 := if keySz ks ≤ 200 then keyB ks else []
theorem kencode_any (A : Option Addr) (ks : List KPart) (n c B : Nat) (w : World) (hn : n = ks.length) (hr : Rd w B A (pcs ks)) (hB : B ≤ w.heap.size) (hc : ks.length ≤ c) (hcm : c ≤ 9223372036854775807)
    (hf : ∀ p ∈ ks, p.fits) :
    Calls Tryz.prog 69 #[.slice A n c] w fun e w' => ∃ v', e = .returned (.tuple #[v', .int .i64 (encE ks)]) ∧ OwnB w' w.heap.size 5 v' (encB ks) ∧ Below w.heap.size w w' := by
  rcases Nat.lt_or_ge 200 (keySz ks) with h | h
  · refine (encode_long A ks n c B w hn hr hB hc hcm hf h).mono ?_
    rintro e w' ⟨rfl, hb⟩
    have h' : ¬ keySz ks ≤ 200 := by omega
    exact ⟨_, by rw [encE, if_neg h']; rfl, by rw [encB, if_neg h']; exact OwnB.nil _ _ _, hb⟩
  · refine (encode_ok A ks n c B w hn hr hB hc hcm hf h).mono ?_
    rintro e w' ⟨v', rfl, hown, hb⟩
    exact ⟨v', by rw [encE, if_pos h]; rfl, by rw [encB, if_pos h]; exact hown, hb⟩
end Go.Proofs.YtgjjdmkoamjdpaaGreatDoor
