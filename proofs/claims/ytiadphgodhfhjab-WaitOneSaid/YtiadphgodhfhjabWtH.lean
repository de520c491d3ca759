/- Layer 17: birth, cmp.Compare, cmp.Or, the victim's closure. -/
import Derived.Test.YtiadphgodhfhjabWtG
namespace Go.Proofs.Ytiadphgodhfhjab
open Go.RowKit

/-- The number at a session's place. -/
def birthF (B : List Int) (s : Nat) : Int := B.getD s 0
set_option maxHeartbeats 4000000 in
theorem birth_any (w : World) {A : Option Addr} {c : Nat} {B : List Int} (h : IntL w A c B) (s : Nat) (hs : s ≤ 16) : Calls Try.prog 36 #[.slice A B.length c, .int .i64 (s : Int)] w fun e w' => e = .returned (.int .i64 (birthF B s)) ∧ w' = w := by
  have hs0 : (s : Int) ≤ 16 := by omega
  by_cases hl : s < B.length
  · obtain ⟨b, o, rfl, -, hc⟩ := h.cell hl
    have e : birthF B s = B[s] := by unfold birthF; rw [List.getD_eq_getElem?_getD, List.getElem?_eq_getElem hl]; rfl
    rw [← e] at hc
    have hlI : (s : Int) < (B.length : Int) := by omega
    clear e hl h
    go_enter Try.func36, Try.ntmps36
    go_wp2_with (fail)
    go_ret
    exact ⟨rfl, rfl⟩
  · have e : birthF B s = 0 := by unfold birthF; rw [List.getD_eq_getElem?_getD, List.getElem?_eq_none (by omega)]; rfl
    rw [e]
    have hlI : (B.length : Int) ≤ (s : Int) := by omega
    clear e hl h
    go_enter Try.func36, Try.ntmps36
    go_wp2_with (fail)
    go_ret
    exact ⟨rfl, rfl⟩
def cmpZ (a b : Int) : Int := if a < b then -1 else if b < a then 1 else 0
set_option maxHeartbeats 4000000 in
theorem nan_any (a : Int) (w : World) : Calls Try.prog 37 #[.int .i64 a] w fun e w' => e = .returned (.bool false) ∧ w' = w := by
  go_enter Try.func37, Try.ntmps37
  go_wp2
  go_ret
  exact ⟨rfl, rfl⟩
set_option maxHeartbeats 4000000 in
theorem compare_any (a b : Int) (w : World) : Calls Try.prog 35 #[.int .i64 a, .int .i64 b] w fun e w' => e = .returned (.int .i64 (cmpZ a b)) ∧ w' = w := by
  have HN := Lib.hid (fun a w => nan_any a w)
  have h : (a < b ∧ cmpZ a b = -1) ∨ (b < a ∧ cmpZ a b = 1) ∨ (a = b ∧ cmpZ a b = 0) := by unfold cmpZ; omega
  rcases h with ⟨h1, h2⟩ | ⟨h1, h2⟩ | ⟨h1, h2⟩
  · rw [h2]
    clear h2
    go_enter Try.func35, Try.ntmps35
    go_wp2_with (go_at_call 37; (with_reducible refine (HN.out _ _).mono ?_); rintro e w2 ⟨rfl, h2⟩; subst h2)
    go_ret
    exact ⟨rfl, rfl⟩
  · rw [h2]
    have h3 : ¬ a < b := by omega
    clear h2
    go_enter Try.func35, Try.ntmps35
    go_wp2_with (go_at_call 37; (with_reducible refine (HN.out _ _).mono ?_); rintro e w2 ⟨rfl, h2⟩; subst h2)
    go_ret
    exact ⟨rfl, rfl⟩
  · rw [h2]
    subst h1
    clear h2
    go_enter Try.func35, Try.ntmps35
    go_wp2_with (go_at_call 37; (with_reducible refine (HN.out _ _).mono ?_); rintro e w2 ⟨rfl, h2⟩; subst h2)
    go_ret
    exact ⟨rfl, rfl⟩
def orZ (x y : Int) : Int := if x = 0 then y else x
set_option maxHeartbeats 4000000 in
theorem or_any (x y : Int) (b : Nat) (w : World) (h : w.heap[b]? = some (.cells #[.int .i64 x, .int .i64 y] 3 (0, 0))) : Calls Try.prog 34 #[.slice (some ⟨b, 0, none⟩) 2 2] w fun e w' => e = .returned (.int .i64 (orZ x y)) ∧ w' = w := by
  have z0 := cell_of_row w b 0 _ _ _ h
  have z1 := cell_of_row w b 1 _ _ _ h
  have h' : (x = 0 ∧ y = 0) ∨ (x = 0 ∧ ¬ y = 0) ∨ ¬ x = 0 := by omega
  clear h
  rcases h' with ⟨rfl, rfl⟩ | ⟨rfl, h2⟩ | h1
  · go_enter Try.func34, Try.ntmps34
    go_wp2
    go_loop [8] (fun i => i = .int .i64 0 ∨ i = .int .i64 1 ∨ i = .int .i64 2) (fun i => 2 - (intOf i).toNat)
    case atStart => exact .inl rfl
    case round =>
      rcases hrel with rfl | rfl | rfl
      · go_wp2
        go_round
        case rel => exact .inr (.inl rfl)
        case measure => simp [intOf]
      · go_wp2
        go_round
        case rel => exact .inr (.inr rfl)
        case measure => simp [intOf]
      · go_wp2
        go_ret
        exact ⟨rfl, rfl⟩
  · have e : orZ 0 y = y := by unfold orZ; simp
    rw [e]
    have hy : (y == 0) = false := by simp [h2]
    clear e
    go_enter Try.func34, Try.ntmps34
    go_wp2
    go_loop [8] (fun i => i = .int .i64 0 ∨ i = .int .i64 1) (fun i => 2 - (intOf i).toNat)
    case atStart => exact .inl rfl
    case round =>
      rcases hrel with rfl | rfl
      · go_wp2
        go_round
        case rel => exact .inr rfl
        case measure => simp [intOf]
      · go_wp2
        go_ret
        exact ⟨rfl, rfl⟩
  · have e : orZ x y = x := by unfold orZ; rw [if_neg h1]
    rw [e]
    have hx : (x == 0) = false := by simp [h1]
    clear e
    go_enter Try.func34, Try.ntmps34
    go_wp2
    go_loop [8] (fun i => i = .int .i64 0) (fun i => 2 - (intOf i).toNat)
    case atStart => rfl
    case round =>
      subst hrel
      go_wp2
      go_ret
      exact ⟨rfl, rfl⟩
end Go.Proofs.Ytiadphgodhfhjab
