/- Plain facts: the reference's runes are the library's. Nothing of the program's run is stated here. -/
import Derived.Test.YtfgojbfdjbochaaDoorWdO
import Derived.Lib.ValidLaws
import Derived.Lib.TrimUEq
namespace Go.Proofs.YtfgojbfdjbochaaDoor

/-- The reference's rune by its bytes. -/
def rnN (n b0 b1 b2 b3 : Nat) : Nat × Nat :=
  if b0 < 128 then (1, b0)
  else if 194 ≤ b0 ∧ b0 < 224 then
    (if n < 2 then (0, 0) else if b1 < 128 ∨ 191 < b1 then (0, 0) else if badR 128 ((b0 - 192) * 64 + b1 - 128) then (0, 0) else (2, (b0 - 192) * 64 + b1 - 128))
  else if 224 ≤ b0 ∧ b0 < 240 then
    (if n < 3 then (0, 0) else if b1 < 128 ∨ 191 < b1 then (0, 0) else if b2 < 128 ∨ 191 < b2 then (0, 0) else if badR 2048 (((b0 - 224) * 64 + b1 - 128) * 64 + b2 - 128) then (0, 0) else (3, ((b0 - 224) * 64 + b1 - 128) * 64 + b2 - 128))
  else if 240 ≤ b0 ∧ b0 < 245 then
    (if n < 4 then (0, 0) else if b1 < 128 ∨ 191 < b1 then (0, 0) else if b2 < 128 ∨ 191 < b2 then (0, 0) else if b3 < 128 ∨ 191 < b3 then (0, 0)
     else if badR 65536 ((((b0 - 240) * 64 + b1 - 128) * 64 + b2 - 128) * 64 + b3 - 128) then (0, 0) else (4, (((b0 - 240) * 64 + b1 - 128) * 64 + b2 - 128) * 64 + b3 - 128))
  else (0, 0)

theorem runeR_N (s : ByteArray) (i : Nat) (hi : i < s.size) : runeR s i = rnN (s.size - i) (bt s i) (bt s (i + 1)) (bt s (i + 1 + 1)) (bt s (i + 1 + 1 + 1)) := by
  unfold runeR rnN
  rw [if_neg (by omega)]
  by_cases c0 : bt s i < 128
  · rw [if_pos c0, if_pos c0]
  rw [if_neg c0, if_neg c0]
  unfold headR
  by_cases c1 : 194 ≤ bt s i ∧ bt s i < 224
  · rw [if_pos c1, if_pos c1]
    unfold tailR
    by_cases n1 : s.size < i + 2
    · rw [if_pos n1, if_pos (by omega)]
    rw [if_neg n1, if_neg (by omega)]
    simp only [show (2 : Nat) - 1 = 1 from rfl, contN]
    by_cases d1 : bt s (i + 1) < 128 ∨ 191 < bt s (i + 1)
    · rw [if_pos d1, if_pos d1]
    rw [if_neg d1, if_neg d1]
  rw [if_neg c1, if_neg c1]
  by_cases c2 : 224 ≤ bt s i ∧ bt s i < 240
  · rw [if_pos c2, if_pos c2]
    unfold tailR
    by_cases n1 : s.size < i + 3
    · rw [if_pos n1, if_pos (by omega)]
    rw [if_neg n1, if_neg (by omega)]
    simp only [show (3 : Nat) - 1 = 2 from rfl, contN]
    by_cases d1 : bt s (i + 1) < 128 ∨ 191 < bt s (i + 1)
    · rw [if_pos d1, if_pos d1]
    rw [if_neg d1, if_neg d1]
    by_cases d2 : bt s (i + 1 + 1) < 128 ∨ 191 < bt s (i + 1 + 1)
    · rw [if_pos d2, if_pos d2]
    rw [if_neg d2, if_neg d2]
  rw [if_neg c2, if_neg c2]
  by_cases c3 : 240 ≤ bt s i ∧ bt s i < 245
  · rw [if_pos c3, if_pos c3]
    unfold tailR
    by_cases n1 : s.size < i + 4
    · rw [if_pos n1, if_pos (by omega)]
    rw [if_neg n1, if_neg (by omega)]
    simp only [show (4 : Nat) - 1 = 3 from rfl, contN]
    by_cases d1 : bt s (i + 1) < 128 ∨ 191 < bt s (i + 1)
    · rw [if_pos d1, if_pos d1]
    rw [if_neg d1, if_neg d1]
    by_cases d2 : bt s (i + 1 + 1) < 128 ∨ 191 < bt s (i + 1 + 1)
    · rw [if_pos d2, if_pos d2]
    rw [if_neg d2, if_neg d2]
    by_cases d3 : bt s (i + 1 + 1 + 1) < 128 ∨ 191 < bt s (i + 1 + 1 + 1)
    · rw [if_pos d3, if_pos d3]
    rw [if_neg d3, if_neg d3]
  rw [if_neg c3, if_neg c3]
  unfold tailR
  split
  · rfl
  · split
    · rfl
    · rename_i v heq
      have heq2 : some 0 = some v := heq
      injection heq2 with heq2
      subst heq2
      split <;> rfl

set_option maxRecDepth 100000 in
set_option maxHeartbeats 8000000 in
theorem rnN_dec (n b0 b1 b2 b3 : Nat) (_hn : 1 ≤ n) (h0 : b0 < 256) (h1 : b1 < 256) (h2 : b2 < 256) (h3 : b3 < 256) (p q : Nat × Nat) (hp : Lib.decodeN n b0 b1 b2 b3 = p) (hq : rnN n b0 b1 b2 b3 = q) :
    (p = (65533, 1) ∧ q = (0, 0)) ∨ (q = (p.2, p.1) ∧ ¬ (p.1 = 65533 ∧ p.2 = 1)) := by
  unfold Lib.decodeN at hp
  unfold rnN at hq
  repeat' split at hp
  all_goals
    subst hp
    repeat' split at hq
    all_goals
      subst hq
      (try unfold badR at *)
      first
        | (left; exact ⟨rfl, rfl⟩)
        | (exfalso; omega)
        | (right; exact ⟨Prod.ext rfl (by first | rfl | (dsimp only; omega)), by dsimp only; omega⟩)

theorem rune_dec (s : ByteArray) (i : Nat) (hi : i < s.size) :
    (Utf8.decode s i = (65533, 1) ∧ runeR s i = (0, 0)) ∨ (runeR s i = ((Utf8.decode s i).2, (Utf8.decode s i).1) ∧ ¬ ((Utf8.decode s i).1 = 65533 ∧ (Utf8.decode s i).2 = 1)) := by
  have hl : s.data.toList.length = s.size := Array.length_toList
  refine rnN_dec (s.size - i) (bt s i) (bt s (i + 1)) (bt s (i + 1 + 1)) (bt s (i + 1 + 1 + 1)) (by omega) (bt_lt _ _) (bt_lt _ _) (bt_lt _ _) (bt_lt _ _) _ _ ?_ (runeR_N s i hi).symm
  rw [Lib.decode_N, hl]
  rfl

end Go.Proofs.YtfgojbfdjbochaaDoor
