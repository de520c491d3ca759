/- Plain facts: the first runes of a text. Nothing of the program's run is stated here. -/
import Derived.Test.YtinhmchekdolmaaDoorValV
import Derived.Lib.MapLaws
namespace Go.Proofs.YtinhmchekdolmaaDoor

set_option maxRecDepth 100000 in
set_option maxHeartbeats 2000000 in
theorem decodeN_cut (n n' b0 b1 b2 b3 c1 c2 c3 : Nat) (p : Nat × Nat) (hp : Lib.decodeN n b0 b1 b2 b3 = p) (hv : ¬ (p.1 = 65533 ∧ p.2 = 1)) (hd : p.2 ≤ n') (_hn : n' ≤ n)
    (e1 : 1 < n' → c1 = b1) (e2 : 2 < n' → c2 = b2) (e3 : 3 < n' → c3 = b3) : Lib.decodeN n' b0 c1 c2 c3 = p := by
  unfold Lib.decodeN at hp ⊢
  repeat' split at hp
  all_goals subst hp
  all_goals dsimp only at hd hv
  all_goals first | (exact absurd ⟨rfl, rfl⟩ hv) | skip
  · rename_i h0
    rw [if_pos h0]
  · rename_i h0 h1 h2
    obtain rfl := e1 (by omega)
    rw [if_neg h0, if_pos ⟨h1.1, by omega, h1.2.2⟩, if_pos h2]
  · rename_i h0 h1 h2 h3
    obtain rfl := e1 (by omega)
    obtain rfl := e2 (by omega)
    rw [if_neg h0, if_neg (by omega), if_pos ⟨h2.1, ⟨by omega, h2.2.1.2⟩, ⟨by omega, h2.2.2.2⟩⟩, if_pos h3]
  · rename_i h0 h1 h2 h3 h4
    obtain rfl := e1 (by omega)
    obtain rfl := e2 (by omega)
    obtain rfl := e3 (by omega)
    rw [if_neg h0, if_neg (by omega), if_neg (by omega), if_pos ⟨h3.1, ⟨by omega, h3.2.1.2⟩, ⟨by omega, h3.2.2.1.2⟩, ⟨by omega, h3.2.2.2.2⟩⟩, if_pos h4]

theorem getD_take (l : List UInt8) (e k : Nat) (h : k < e) : (l.take e).getD k 0 = l.getD k 0 := by
  simp only [List.getD, List.getElem?_take, if_pos h]
theorem decodeL_take (l : List UInt8) (e : Nat) (hne : l ≠ []) (hv : ¬ ((Lib.decodeL l).1 = 65533 ∧ (Lib.decodeL l).2 = 1)) (he : (Lib.decodeL l).2 ≤ e) : Lib.decodeL (l.take e) = Lib.decodeL l := by
  have hw := Lib.decodeL_width l
  have hle := Lib.decodeL_le l hne
  rw [Lib.decodeL_N (l.take e), List.length_take, getD_take _ _ _ (show 0 < e by omega)]
  refine decodeN_cut l.length (min e l.length) _ _ _ _ _ _ _ _ (Lib.decodeL_N l).symm hv (by omega) (by omega) ?_ ?_ ?_
  · intro h; rw [getD_take _ _ _ (by omega)]
  · intro h; rw [getD_take _ _ _ (by omega)]
  · intro h; rw [getD_take _ _ _ (by omega)]

/-- How many bytes the first runes have. -/
def cutL : Nat → List UInt8 → Nat
  | 0, _ => 0
  | n + 1, l => if l = [] then 0 else (Lib.decodeL l).2 + cutL n (l.drop (Lib.decodeL l).2)
theorem cutL_nil (n : Nat) : cutL n [] = 0 := by
  cases n with
  | zero => rfl
  | succ n => simp [cutL]
theorem cutL_le : ∀ (n : Nat) (l : List UInt8), cutL n l ≤ l.length
  | 0, _ => by simp [cutL]
  | n + 1, l => by
    rw [cutL]
    by_cases h : l = []
    · rw [if_pos h]; omega
    · rw [if_neg h]
      have h1 := Lib.decodeL_le l h
      have h2 := cutL_le n (l.drop (Lib.decodeL l).2)
      rw [List.length_drop] at h2
      omega
theorem valid_head {l : List UInt8} (hne : l ≠ []) (hv : Lib.validD l = true) : ¬ ((Lib.decodeL l).1 = 65533 ∧ (Lib.decodeL l).2 = 1) ∧ Lib.validD (l.drop (Lib.decodeL l).2) = true := by
  rw [Lib.validD_step l hne] at hv
  split at hv
  · cases hv
  · rename_i h
    exact ⟨h, hv⟩
theorem take_ne {l : List UInt8} {e : Nat} (hne : l ≠ []) (he : 1 ≤ e) : l.take e ≠ [] := by
  cases l with
  | nil => exact absurd rfl hne
  | cons b t =>
    obtain ⟨f, rfl⟩ : ∃ f, e = f + 1 := ⟨e - 1, by omega⟩
    simp
theorem cutL_valid : ∀ (n : Nat) (l : List UInt8), Lib.validD l = true → Lib.validD (l.take (cutL n l)) = true
  | 0, l, _ => by simp [cutL, Lib.validD_nil]
  | n + 1, l, hv => by
    rw [cutL]
    by_cases h : l = []
    · rw [if_pos h]; simp [Lib.validD_nil]
    · rw [if_neg h]
      obtain ⟨h1, h2⟩ := valid_head h hv
      have hw := Lib.decodeL_width l
      have hd := decodeL_take l ((Lib.decodeL l).2 + cutL n (l.drop (Lib.decodeL l).2)) h h1 (by omega)
      rw [Lib.validD_step _ (take_ne h (by omega)), hd, if_neg h1, List.drop_take, Nat.add_sub_cancel_left]
      exact cutL_valid n _ h2
theorem cutL_cut : ∀ (n m : Nat) (l : List UInt8), Lib.validD l = true → cutL m (l.take (cutL n l)) = cutL (min n m) l
  | 0, m, l, _ => by simp [cutL, cutL_nil]
  | n + 1, 0, l, _ => by simp [cutL]
  | n + 1, m + 1, l, hv => by
    by_cases h : l = []
    · subst h; simp [cutL_nil]
    · have e : cutL (n + 1) l = (Lib.decodeL l).2 + cutL n (l.drop (Lib.decodeL l).2) := by rw [cutL, if_neg h]
      obtain ⟨h1, h2⟩ := valid_head h hv
      have hw := Lib.decodeL_width l
      have hd := decodeL_take l ((Lib.decodeL l).2 + cutL n (l.drop (Lib.decodeL l).2)) h h1 (by omega)
      have ih := cutL_cut n m _ h2
      have hmin : min (n + 1) (m + 1) = min n m + 1 := by omega
      rw [hmin, e, cutL, if_neg (take_ne h (by omega)), hd, List.drop_take, Nat.add_sub_cancel_left, ih, cutL, if_neg h]

/-- The first runes, and the error. -/
def cutV (s : ByteArray) (n : Int) : ByteArray × Nat :=
  if Lib.validD s.data.toList = false then (⟨#[]⟩, 7) else if n < 0 then (⟨#[]⟩, 1) else (⟨(s.data.toList.take (cutL n.toNat s.data.toList)).toArray⟩, 0)
theorem ext0 (s : ByteArray) (k : Nat) : s.extract 0 k = ⟨(s.data.toList.take k).toArray⟩ := by
  obtain ⟨⟨l⟩⟩ := s
  rw [ByteArray.extract_mk]
  congr 1
theorem whole0 (s : ByteArray) (k : Nat) (h : s.size ≤ k) : s = ⟨(s.data.toList.take k).toArray⟩ := by
  obtain ⟨⟨l⟩⟩ := s
  have hl : l.length ≤ k := h
  simp [List.take_of_length_le hl]
theorem cutV_twice (s : ByteArray) (n m : Int) (hn : 0 ≤ n) (hm : 0 ≤ m) (hv : Lib.validD s.data.toList = true) :
    cutV (cutV s n).1 m = cutV s (min n m) ∧ (cutV s (min n m)).2 = 0 := by
  have hmin : 0 ≤ min n m := by omega
  have e1 : cutV s n = (⟨(s.data.toList.take (cutL n.toNat s.data.toList)).toArray⟩, 0) := by
    unfold cutV; rw [if_neg (by rw [hv]; simp), if_neg (by omega)]
  have e2 : cutV s (min n m) = (⟨(s.data.toList.take (cutL (min n m).toNat s.data.toList)).toArray⟩, 0) := by
    unfold cutV; rw [if_neg (by rw [hv]; simp), if_neg (by omega)]
  rw [e1, e2]
  refine ⟨?_, rfl⟩
  unfold cutV
  simp only
  rw [if_neg (by rw [cutL_valid _ _ hv]; simp), if_neg (by omega), cutL_cut _ _ _ hv]
  have h3 : min n.toNat m.toNat = (min n m).toNat := by omega
  have h4 : cutL (min n m).toNat s.data.toList ≤ cutL n.toNat s.data.toList := by
    have := cutL_le m.toNat (s.data.toList.take (cutL n.toNat s.data.toList))
    rw [cutL_cut _ _ _ hv, h3, List.length_take] at this
    omega
  rw [h3, List.take_take, Nat.min_eq_left h4]
end Go.Proofs.YtinhmchekdolmaaDoor
