/- ValV, what this seat can fill of it. -/
import Derived.Test.YtgjjdmkoamjdpaaGreatDoorValP
import Derived.Lib.ValidLaws
import Derived.Lib.TrimUEq
namespace Go.Proofs.YtgjjdmkoamjdpaaGreatDoor
/- Plain facts: the reference's runes are the library's. Nothing of the program's run is stated here. -/
/-- The reference's rune by its bytes. -/
def rnN (n b0 b1 b2 b3 : Nat) : Nat × Nat :=
  if b0 < 128 then (1, b0)
  else if 194 ≤ b0 ∧ b0 < 224 then
    (if n < 2 then (0, 0) else if b1 < 128 ∨ 191 < b1 then (0, 0) else if badR 128 ((b0 - 192) * 64 + b1 - 128) then (0, 0) else (2, (b0 - 192) * 64 + b1 - 128))
  else if 224 ≤ b0 ∧ b0 < 240 then
    (if n < 3 then (0, 0) else if b1 < 128 ∨ 191 < b1 then (0, 0) else if b2 < 128 ∨ 191 < b2 then (0, 0) else if badR 2048 (((b0 - 224) * 64 + b1 - 128) * 64 + b2 - 128) then (0, 0) else (3, ((b0 - 224) * 64 + b1 - 128) * 64 + b2 - 128))
  else if 240 ≤ b0 ∧ b0 < 245 then
    (if n < 4 then (0, 0) else if b1 < 128 ∨ 191 < b1 then (0, 0) else if b2 < 128 ∨ 191 < b2 then (0, 0) else if b3 < 128 ∨ 191 < b3 then (0, 0)
     else if badR 65536 ((((b0 - 240) * 64 + b1 - 128) * 64 + b2 - 128) * 64 + b3 - 128) then (0, 0) else (4, (((b0 - 240) * 64 + b1 - 128) * 64 + b2 - 128) * 64 + b3 - 128))
  else (0, 0)

theorem runeR_N (s : ByteArray) (i : Nat) (hi : i < s.size) : runeR s i = rnN (s.size - i) (bt s i) (bt s (i + 1)) (bt s (i + 1 + 1)) (bt s (i + 1 + 1 + 1)) := by
  unfold runeR rnN
  rw [if_neg (by omega)]
  by_cases c0 : bt s i < 128
  · rw [if_pos c0, if_pos c0]
  rw [if_neg c0, if_neg c0]
  unfold headR
  by_cases c1 : 194 ≤ bt s i ∧ bt s i < 224
  · rw [if_pos c1, if_pos c1]
    unfold tailR
    by_cases n1 : s.size < i + 2
    · rw [if_pos n1, if_pos (by omega)]
    rw [if_neg n1, if_neg (by omega)]
    simp only [show (2 : Nat) - 1 = 1 from rfl, contN]
    by_cases d1 : bt s (i + 1) < 128 ∨ 191 < bt s (i + 1)
    · rw [if_pos d1, if_pos d1]
    rw [if_neg d1, if_neg d1]
  rw [if_neg c1, if_neg c1]
  by_cases c2 : 224 ≤ bt s i ∧ bt s i < 240
  · rw [if_pos c2, if_pos c2]
    unfold tailR
    by_cases n1 : s.size < i + 3
    · rw [if_pos n1, if_pos (by omega)]
    rw [if_neg n1, if_neg (by omega)]
    simp only [show (3 : Nat) - 1 = 2 from rfl, contN]
    by_cases d1 : bt s (i + 1) < 128 ∨ 191 < bt s (i + 1)
    · rw [if_pos d1, if_pos d1]
    rw [if_neg d1, if_neg d1]
    by_cases d2 : bt s (i + 1 + 1) < 128 ∨ 191 < bt s (i + 1 + 1)
    · rw [if_pos d2, if_pos d2]
    rw [if_neg d2, if_neg d2]
  rw [if_neg c2, if_neg c2]
  by_cases c3 : 240 ≤ bt s i ∧ bt s i < 245
  · rw [if_pos c3, if_pos c3]
    unfold tailR
    by_cases n1 : s.size < i + 4
    · rw [if_pos n1, if_pos (by omega)]
    rw [if_neg n1, if_neg (by omega)]
    simp only [show (4 : Nat) - 1 = 3 from rfl, contN]
    by_cases d1 : bt s (i + 1) < 128 ∨ 191 < bt s (i + 1)
    · rw [if_pos d1, if_pos d1]
    rw [if_neg d1, if_neg d1]
    by_cases d2 : bt s (i + 1 + 1) < 128 ∨ 191 < bt s (i + 1 + 1)
    · rw [if_pos d2, if_pos d2]
    rw [if_neg d2, if_neg d2]
    by_cases d3 : bt s (i + 1 + 1 + 1) < 128 ∨ 191 < bt s (i + 1 + 1 + 1)
    · rw [if_pos d3, if_pos d3]
    rw [if_neg d3, if_neg d3]
  rw [if_neg c3, if_neg c3]
  unfold tailR
  split
  · rfl
  · split
    · rfl
    · rename_i v heq
      have heq2 : some 0 = some v := heq
      injection heq2 with heq2
      subst heq2
      split <;> rfl

set_option maxRecDepth 100000 in
set_option maxHeartbeats 8000000 in
theorem rnN_dec (n b0 b1 b2 b3 : Nat) (_hn : 1 ≤ n) (h0 : b0 < 256) (h1 : b1 < 256) (h2 : b2 < 256) (h3 : b3 < 256) (p q : Nat × Nat) (hp : Lib.decodeN n b0 b1 b2 b3 = p) (hq : rnN n b0 b1 b2 b3 = q) :
    (p = (65533, 1) ∧ q = (0, 0)) ∨ (q = (p.2, p.1) ∧ ¬ (p.1 = 65533 ∧ p.2 = 1)) := by
  unfold Lib.decodeN at hp
  unfold rnN at hq
  repeat' split at hp
  all_goals
    subst hp
    repeat' split at hq
    all_goals
      subst hq
      (try unfold badR at *)
      first
        | (left; exact ⟨rfl, rfl⟩)
        | (exfalso; omega)
        | (right; exact ⟨Prod.ext rfl (by first | rfl | (dsimp only; omega)), by dsimp only; omega⟩)

theorem rune_dec (s : ByteArray) (i : Nat) (hi : i < s.size) :
    (Utf8.decode s i = (65533, 1) ∧ runeR s i = (0, 0)) ∨ (runeR s i = ((Utf8.decode s i).2, (Utf8.decode s i).1) ∧ ¬ ((Utf8.decode s i).1 = 65533 ∧ (Utf8.decode s i).2 = 1)) := by
  have hl : s.data.toList.length = s.size := Array.length_toList
  refine rnN_dec (s.size - i) (bt s i) (bt s (i + 1)) (bt s (i + 1 + 1)) (bt s (i + 1 + 1 + 1)) (by omega) (bt_lt _ _) (bt_lt _ _) (bt_lt _ _) (bt_lt _ _) _ _ ?_ (runeR_N s i hi).symm
  rw [Lib.decode_N, hl]
  rfl

/-- The reference's test of texts is the library's. -/
theorem utfG_valid (s : ByteArray) : ∀ (f i : Nat), s.size < i + f → utfG s f i = Lib.validD (s.data.toList.drop i)
  | 0, i, h => by
    have : s.data.toList.drop i = [] := List.drop_eq_nil_of_le (by have hl : s.data.toList.length = s.size := Array.length_toList; omega)
    rw [this]
    rfl
  | f + 1, i, h => by
    have hl : s.data.toList.length = s.size := Array.length_toList
    rw [utfG]
    by_cases h9 : s.size ≤ i
    · have : s.data.toList.drop i = [] := List.drop_eq_nil_of_le (by omega)
      rw [if_pos h9, this]
      rfl
    · rw [if_neg h9]
      have hne : s.data.toList.drop i ≠ [] := by
        intro h0
        have := congrArg List.length h0
        rw [List.length_drop, hl] at this
        simp at this
        omega
      rw [Lib.validD_step _ hne, Lib.decodeL_drop, List.drop_drop]
      have hw := Lib.decodeL_width (s.data.toList.drop i)
      rw [Lib.decodeL_drop] at hw
      rcases rune_dec s i (by omega) with ⟨e1, e2⟩ | ⟨e1, e2⟩
      · rw [e1, e2, if_pos rfl, if_pos ⟨rfl, rfl⟩]
      · rw [e1, if_neg e2, if_neg (show ¬ (Utf8.decode s i).2 = 0 by omega)]
        exact utfG_valid s f _ (by omega)
theorem utfR_valid (s : ByteArray) : utfR s = Lib.validD s.data.toList := by
  unfold utfR
  rw [utfG_valid s _ _ (by omega)]
  rfl
theorem ckR_eq (v : VVal) : ckR v = ckN v := by
  unfold ckR ckN ctN
  rw [utfR_valid]
  by_cases h1 : v.kind = 1
  · rw [if_pos (.inl h1), if_pos h1]
  · rw [if_neg h1]
    by_cases h3 : v.kind = 3
    · rw [if_pos h3]
      by_cases hn : v.n = 0 ∨ v.n = 1
      · rw [if_pos (.inr ⟨h3, hn⟩), if_pos hn]
      · rw [if_neg (fun h => h.elim h1 (fun h => hn h.2)), if_neg hn, if_pos (by omega)]
    · rw [if_neg (fun h => h.elim h1 (fun h => h3 h.1)), if_neg h3]
      by_cases h2 : v.kind = 2
      · rw [if_neg (fun h => h h2), if_pos h2]
      · rw [if_pos h2, if_neg h2]
end Go.Proofs.YtgjjdmkoamjdpaaGreatDoor
