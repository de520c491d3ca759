/- Layer 17: the document's Ints and at, the law's own and age. -/
import Derived.Test.YtiadphgodhfhjabWtK
namespace Go.Proofs.Ytiadphgodhfhjab
open Go.RowKit

set_option maxRecDepth 100000 in
set_option maxHeartbeats 2000000 in
theorem intsZ_any (w : World) {A A' : Option Addr} {c c' : Nat} {l m : List Int} (hx : IntL w A c l) (hy : IntL w A' c' m) (hs : l.length ≤ 1000000) :
    Calls Try.prog 13 #[.slice A l.length c, .slice A' m.length c'] w fun e w' => e = .returned (.bool (decide (l = m))) ∧ Below w.heap.size w w' := by
  obtain ⟨R, hR⟩ : ∃ R, R = decide (l = m) := ⟨_, rfl⟩
  rw [← hR]
  by_cases hlen : l.length = m.length
  · have HH := Lib.hid (And.intro hx (And.intro hy (And.intro hR hlen)))
    rw [← hlen]
    clear hx hy hR hlen
    go_enter Try.func13, Try.ntmps13
    go_wp2_with (fail)
    go_loopw [13] (fun i wr => ∃ k : Nat, k ≤ l.length ∧ i = .int .i64 (k : Int) ∧ Hid (l.take k = m.take k ∧ Below w.heap.size w wr)) (fun i _ => l.length - (intOf i).toNat)
    case atStart => exact ⟨0, by omega, rfl, Lib.hid ⟨rfl, Below.refl _ _⟩⟩
    case round =>
      obtain ⟨k, hk, rfl, hrel⟩ := hrel
      by_cases hkl : k < l.length
      · have hkI : (k : Int) < (l.length : Int) := by omega
        have hky : k < m.length := by rw [← HH.out.2.2.2]; exact hkl
        obtain ⟨p1, o1, hA1, _, c1⟩ := (HH.out.1.below hrel.out.2).cell hkl
        obtain ⟨p2, o2, hA2, _, c2⟩ := (HH.out.2.1.below hrel.out.2).cell hky
        have ht1 : l.take (k + 1) = l.take k ++ [l[k]] := List.take_succ_eq_append_getElem hkl
        have ht2 : m.take (k + 1) = m.take k ++ [m[k]] := List.take_succ_eq_append_getElem hky
        have hne : l[k] ≠ m[k] → l ≠ m := fun h1 h2 => h1 (by simp only [h2])
        rw [hA1, hA2]
        generalize l[k] = a at c1 ht1 hne
        generalize m[k] = b at c2 ht2 hne
        have B := Lib.hid hrel.out.2
        have E := Lib.hid hrel.out.1
        clear hA1 hA2 hky hrel
        by_cases hab : a = b
        · subst hab
          have T := Lib.hid (show l.take (k + 1) = m.take (k + 1) from by rw [ht1, ht2, E.out])
          clear ht1 ht2 hne
          go_upto_region 6 with (fail)
          go_quiet (fail)
          go_wp2_with (fail)
          go_roundw
          case rel => exact ⟨k + 1, by omega, by go_num, Lib.hid ⟨T.out, Below.drewN' B.out _⟩⟩
          case measure => simp [intOf]; omega
        · have F := Lib.hid (show R = false from by rw [HH.out.2.2.1]; exact decide_eq_false (hne hab))
          have hb : (a != b) = true := by simp [hab]
          clear ht1 ht2 hne hab
          go_upto_region 6 with (fail)
          go_quiet (fail)
          go_wp2_with (fail)
          go_ret
          exact ⟨by rw [F.out]; rfl, Below.drewN' B.out _⟩
      · obtain rfl : k = l.length := by omega
        have hkI : ¬ (l.length : Int) < (l.length : Int) := by omega
        have F := Lib.hid (show R = true from by
          have h := hrel.out.1
          rw [List.take_length, HH.out.2.2.2, List.take_length] at h
          rw [HH.out.2.2.1]; exact decide_eq_true h)
        go_wp2_with (fail)
        go_ret
        exact ⟨by rw [F.out]; rfl, hrel.out.2⟩
  · have F := Lib.hid (show R = false from by rw [hR]; exact decide_eq_false fun h => hlen (by rw [h]))
    have hlI : ((l.length : Int) != (m.length : Int)) = true := by simp; omega
    clear hlen hR hx hy
    go_enter Try.func13, Try.ntmps13
    go_wp2_with (fail)
    go_ret
    exact ⟨by rw [F.out]; rfl, Below.refl _ _⟩
set_option maxHeartbeats 4000000 in
theorem at_any (w : World) {A : Option Addr} {c : Nat} {B : List Int} (h : IntL w A c B) (s : Nat) (hs : s ≤ 16) : Calls Try.prog 28 #[.slice A B.length c, .int .i64 (s : Int)] w fun e w' => e = .returned (.int .i64 (birthF B s)) ∧ w' = w := by
  have hs0 : (s : Int) ≤ 16 := by omega
  by_cases hl : s < B.length
  · obtain ⟨b, o, rfl, -, hc⟩ := h.cell hl
    have e : birthF B s = B[s] := by unfold birthF; rw [List.getD_eq_getElem?_getD, List.getElem?_eq_getElem hl]; rfl
    rw [← e] at hc
    have hlI : (s : Int) < (B.length : Int) := by omega
    clear e hl h
    go_enter Try.func28, Try.ntmps28
    go_wp2_with (fail)
    go_ret
    exact ⟨rfl, rfl⟩
  · have e : birthF B s = 0 := by unfold birthF; rw [List.getD_eq_getElem?_getD, List.getElem?_eq_none (by omega)]; rfl
    rw [e]
    have hlI : ¬ (s : Int) < (B.length : Int) := by omega
    clear e hl h
    go_enter Try.func28, Try.ntmps28
    go_wp2_with (fail)
    go_ret
    exact ⟨rfl, rfl⟩
set_option maxHeartbeats 4000000 in
theorem age_any (w : World) {A : Option Addr} {c : Nat} {B : List Int} (h : IntL w A c B) (s : Nat) (hs : s ≤ 16) : Calls Try.prog 21 #[.slice A B.length c, .int .i64 (s : Int)] w fun e w' => e = .returned (.int .i64 (birthF B s)) ∧ w' = w := by
  have hs0 : (s : Int) ≤ 16 := by omega
  by_cases hl : s < B.length
  · obtain ⟨b, o, rfl, -, hc⟩ := h.cell hl
    have e : birthF B s = B[s] := by unfold birthF; rw [List.getD_eq_getElem?_getD, List.getElem?_eq_getElem hl]; rfl
    rw [← e] at hc
    have hlI : (s : Int) < (B.length : Int) := by omega
    clear e hl h
    go_enter Try.func21, Try.ntmps21
    go_wp2_with (fail)
    go_ret
    exact ⟨rfl, rfl⟩
  · have e : birthF B s = 0 := by unfold birthF; rw [List.getD_eq_getElem?_getD, List.getElem?_eq_none (by omega)]; rfl
    rw [e]
    have hlI : ¬ (s : Int) < (B.length : Int) := by omega
    clear e hl h
    go_enter Try.func21, Try.ntmps21
    go_wp2_with (fail)
    go_ret
    exact ⟨rfl, rfl⟩
def OwPost (L : List (Int × Int)) (w : World) (e : Ending) (w' : World) : Prop := ∃ (A : Option Addr) (c : Nat), e = .returned (.slice A L.length c) ∧ OwnP w' w.heap.size (.slice A L.length c) L ∧ Below w.heap.size w w'
theorem own_run (w : World) {A : Option Addr} {c : Nat} {L : List (Int × Int)} (h : PrL w A c L) (hl : L.length ≤ 1000000) :
    ∃ A5 c5 w5, (Builtin.append_ #[22, 22] 22 #[.slice (some ⟨w.heap.size, 0, none⟩) 0 0, .slice A L.length c]).run Try.prog (w.alloc (.cells #[] 30)) = .ok (.slice A5 L.length c5) w5 ∧ OwnP w5 w.heap.size (.slice A5 L.length c5) L ∧ Below w.heap.size w w5 := by
  have hb0 : Below w.heap.size w (w.alloc (.cells #[] 30)) := (Below.refl _ _).alloc (Nat.le_refl _) _
  have how : OwnP (w.alloc (.cells #[] 30)) w.heap.size (.slice (some ⟨w.heap.size, 0, none⟩) 0 0) [] := own_lit0 w (Nat.le_refl _)
  obtain ⟨A5, c5, w5, hrun, hown, -, -, hb5⟩ := how.app hb0.size rfl (h.below hb0).rd (by simpa using hl)
  rw [List.length_nil, Nat.zero_add] at hrun hown
  rw [List.nil_append] at hown
  exact ⟨A5, c5, w5, hrun, hown, hb0.trans hb5⟩
set_option maxHeartbeats 4000000 in
theorem own_any (w : World) {A : Option Addr} {c : Nat} {L : List (Int × Int)} (h : PrL w A c L) (hl : L.length ≤ 1000000) : Calls Try.prog 10 #[.slice A L.length c] w (OwPost L w) := by
  obtain ⟨A5, c5, w5, hrun, hown, hb5⟩ := own_run w h hl
  have HX := Lib.hid (And.intro hown hb5)
  clear hown hb5 h hl
  go_enter Try.func10, Try.ntmps10
  go_wp2_with (at_builtin; refine wpL_appK _ rfl (.tmp 3) (.tmp 4) 22 rfl rfl _ _ _ _ rfl rfl hrun ?_)
  go_ret
  exact ⟨A5, c5, rfl, HX.out⟩
end Go.Proofs.Ytiadphgodhfhjab
