/- A tree: Range, At. -/
import Derived.Test.YtklhfegdjadgdaaTreL
namespace Go.Proofs.Ytklhfegdjadgdaa
open Go.RowKit Go.Maps

/-- Where a range ends. -/
def endL (to : List UInt8) (L : List Pr) : Nat := if to = [] then L.length else rankL to L
def rngL (lo to : List UInt8) (most : Int) (L : List Pr) : List Pr :=
  if most < 1 ∨ endL to L ≤ rankL lo L then [] else cutI L (rankL lo L : Int) ((rankL lo L : Int) + min most ((endL to L : Int) - (rankL lo L : Int)))
theorem endL_le (to : List UInt8) (L : List Pr) : endL to L ≤ L.length := by
  unfold endL
  split
  · exact Nat.le_refl _
  · exact rankL_le to L
/-- A row of pairs that was just made. -/
def NewPrs (w : World) (L : List Pr) (e : Ending) (w' : World) : Prop :=
  ∃ (v : Value) (P : List (Bs × Bs)), e = .returned v ∧ Prs w' w.heap.size v P ∧ prL P = L ∧ Below w.heap.size w w'
theorem btw_new {t : Tn} {w : World} (h : t.At w) (a b : Int) (ha : -1000000000 + (t.num : Int) ≤ a ∧ a ≤ 4611686018427387904) (hb : -1000000000 + (t.num : Int) ≤ b ∧ b ≤ 4611686018427387904) (hn : t.num ≤ 1000000) :
    Calls Try.prog 24 #[.pointer t.adr, .int .i64 a, .int .i64 b, .slice none 0 0] w (NewPrs w (cutI t.flat a b)) := by
  have hrow : Prs w w.heap.size (.slice none 0 0) [] := ⟨World.ownsRow_nil w w.heap.size 42 2, by simp⟩
  have h1 : Calls Try.prog 24 #[.pointer t.adr, .int .i64 a, .int .i64 b, .slice none 0 0] w _ := between_any t w w.heap.size none 0 [] a b h hrow (Nat.le_refl _) ha hb (by simpa using hn)
  refine h1.mono ?_
  rintro e w' ⟨v, Q, rfl, h2, h3, h4, _⟩
  exact ⟨v, Q, rfl, by simpa using h2, h3, h4.below (Nat.le_refl _) (by simp [Value.ownBlock])⟩
set_option maxRecDepth 100000 in
set_option maxHeartbeats 2000000 in
theorem trange_any {w : World} {lo p : Nat} {L : List Pr} (h : TreeW w lo p L) (frm to : Bs) (B : Nat) (hf : Rd w B frm.A (u8s frm.l)) (ht : Rd w B to.A (u8s to.l)) (most : Int) (hn : L.length ≤ 1000000) (htl : to.l.length ≤ 4611686018427387904) (hm : most ≤ 9223372036854775807) :
    Calls Try.prog 9 #[.pointer (some ⟨p, 0, none⟩), .slice frm.A frm.l.length frm.c, .slice to.A to.l.length to.c, .int .i64 most] w (NewPrs w (rngL frm.l to.l most L)) := by
  have hr1 := trank_any h frm B hf hn
  have hr2 := trank_any h to B ht hn
  have hl := tlen_any h
  obtain ⟨t, h1, rfl, _, _⟩ := h
  obtain ⟨c0, _⟩ := h1.root
  obtain ⟨F, hF⟩ : ∃ F, F = rankL frm.l t.flat := ⟨_, rfl⟩
  obtain ⟨E, hE⟩ : ∃ E, E = rankL to.l t.flat := ⟨_, rfl⟩
  obtain ⟨N, hN⟩ : ∃ N, N = t.flat.length := ⟨_, rfl⟩
  have hFN : F ≤ N := by rw [hF, hN]; exact rankL_le _ _
  have hEN : E ≤ N := by rw [hE, hN]; exact rankL_le _ _
  rw [← hF] at hr1
  rw [← hE] at hr2
  rw [← hN] at hl hn
  have hb : ∀ G : Nat, G ≤ N → endL to.l t.flat = G → ¬ most < 1 → ¬ G ≤ F → ∀ X : Int, X = min most ((G : Int) - (F : Int)) → Calls Try.prog 24 #[.pointer t.adr, .int .i64 (F : Int), .int .i64 ((F : Int) + X), .slice none 0 0] w (NewPrs w (rngL frm.l to.l most t.flat)) := fun G hG hEG h2 h3 X hX => by
    subst hX
    have h4 := btw_new h1.nodes (F : Int) ((F : Int) + min most ((G : Int) - (F : Int))) (by rw [← Tn.flat_len, ← hN]; omega) (by rw [← Tn.flat_len, ← hN]; omega) (by rw [← Tn.flat_len, ← hN]; exact hn)
    unfold rngL
    rw [hEG, ← hF, if_neg (by omega)]
    exact h4
  have hno : ∀ G : Nat, endL to.l t.flat = G → (most < 1 ∨ G ≤ F) → rngL frm.l to.l most t.flat = [] := fun G hEG h2 => by unfold rngL; rw [hEG, ← hF, if_pos h2]
  have hnil : NewPrs w [] (.returned (.slice none 0 0)) w := ⟨_, [], rfl, ⟨World.ownsRow_nil w w.heap.size 42 2, by simp⟩, rfl, Below.refl _ _⟩
  have hend : (to.l.length = 0 ∧ endL to.l t.flat = N) ∨ (0 < to.l.length ∧ endL to.l t.flat = E) := by
    unfold endL
    cases hto : to.l with
    | nil => left; exact ⟨rfl, by rw [if_pos rfl, hN]⟩
    | cons x r => right; exact ⟨by simp, by rw [if_neg (by simp), hE, hto]⟩
  have HR1 := Lib.hid hr1
  have HR2 := Lib.hid hr2
  have HL := Lib.hid hl
  have HB := Lib.hid hb
  have HNO := Lib.hid hno
  have HNIL := Lib.hid hnil
  have nI : (N : Int) ≤ 1000000 := by omega
  have fI : (F : Int) ≤ (N : Int) := by omega
  have eI : (E : Int) ≤ (N : Int) := by omega
  have f0 : (0 : Int) ≤ (F : Int) := by omega
  have e0 : (0 : Int) ≤ (E : Int) := by omega
  have hFN' := Lib.hid hFN
  have hEN' := Lib.hid hEN
  have htI : (to.l.length : Int) ≤ 4611686018427387904 := by omega
  clear hr1 hr2 hl hb hno hnil h1 hF hE hN hFN hEN hf ht hn htl
  rcases hend with ⟨h0, hG⟩ | ⟨h0, hG⟩
  · have HG := Lib.hid hG
    have t0 : decide (0 < to.l.length) = false := by rw [h0]; rfl
    have t1 : ¬ (0 : Int) < (to.l.length : Int) := by omega
    clear hG h0 HR2
    by_cases hm1 : most < 1
    · clear HB
      go_enter Try.func9, Try.ntmps9
      go_wp2_with (first
          | (go_at_call 11; (with_reducible refine HR1.out.mono ?_); rintro e w1 ⟨rfl, rfl⟩)
          | (go_at_call 7; (with_reducible refine HL.out.mono ?_); rintro e w1 ⟨rfl, rfl⟩))
      go_ret
      rw [HNO.out N HG.out (.inl hm1)]
      exact HNIL.out
    · by_cases hle : N ≤ F
      · have hle' : (N : Int) ≤ (F : Int) := by omega
        have HLE := Lib.hid hle
        have hd : decide (N ≤ F) = true := decide_eq_true hle
        clear HB hle
        go_enter Try.func9, Try.ntmps9
        go_wp2_with (first
          | (go_at_call 11; (with_reducible refine HR1.out.mono ?_); rintro e w1 ⟨rfl, rfl⟩)
          | (go_at_call 7; (with_reducible refine HL.out.mono ?_); rintro e w1 ⟨rfl, rfl⟩))
        go_ret
        rw [HNO.out N HG.out (.inr HLE.out)]
        exact HNIL.out
      · have hle' : ¬ (N : Int) ≤ (F : Int) := by omega
        have hd : decide (N ≤ F) = false := decide_eq_false hle
        have hb := HB.out N (by first | exact Nat.le_refl _ | exact hEN'.out) HG.out hm1 hle
        have HBT := Lib.hid hb
        clear HB hle hb HNO HNIL
        go_enter Try.func9, Try.ntmps9
        go_wp2_with (first
          | (go_at_call 11; (with_reducible refine HR1.out.mono ?_); rintro e w1 ⟨rfl, rfl⟩)
          | (go_at_call 7; (with_reducible refine HL.out.mono ?_); rintro e w1 ⟨rfl, rfl⟩)
          | (go_at_call 24; (with_reducible refine (HBT.out _ (by omega)).mono ?_); rintro e w1 ⟨v, P, rfl, p1, p2, p3⟩; have HP := Lib.hid (And.intro p1 (And.intro p2 p3)); clear p1 p2 p3))
        all_goals
          go_ret
          exact ⟨v, P, rfl, HP.out⟩
  · have HG := Lib.hid hG
    have t0 : decide (0 < to.l.length) = true := decide_eq_true h0
    have t1 : (0 : Int) < (to.l.length : Int) := by omega
    clear hG h0
    by_cases hm1 : most < 1
    · clear HB
      go_enter Try.func9, Try.ntmps9
      go_wp2_with (first
          | (go_at_call 11; (with_reducible refine HR1.out.mono ?_); rintro e w1 ⟨rfl, rfl⟩)
          | (go_at_call 11; (with_reducible refine HR2.out.mono ?_); rintro e w1 ⟨rfl, rfl⟩)
          | (go_at_call 7; (with_reducible refine HL.out.mono ?_); rintro e w1 ⟨rfl, rfl⟩))
      go_ret
      rw [HNO.out E HG.out (.inl hm1)]
      exact HNIL.out
    · by_cases hle : E ≤ F
      · have hle' : (E : Int) ≤ (F : Int) := by omega
        have HLE := Lib.hid hle
        have hd : decide (E ≤ F) = true := decide_eq_true hle
        clear HB hle
        go_enter Try.func9, Try.ntmps9
        go_wp2_with (first
          | (go_at_call 11; (with_reducible refine HR1.out.mono ?_); rintro e w1 ⟨rfl, rfl⟩)
          | (go_at_call 11; (with_reducible refine HR2.out.mono ?_); rintro e w1 ⟨rfl, rfl⟩)
          | (go_at_call 7; (with_reducible refine HL.out.mono ?_); rintro e w1 ⟨rfl, rfl⟩))
        go_ret
        rw [HNO.out E HG.out (.inr HLE.out)]
        exact HNIL.out
      · have hle' : ¬ (E : Int) ≤ (F : Int) := by omega
        have hd : decide (E ≤ F) = false := decide_eq_false hle
        have hb := HB.out E (by first | exact Nat.le_refl _ | exact hEN'.out) HG.out hm1 hle
        have HBT := Lib.hid hb
        clear HB hle hb HNO HNIL
        go_enter Try.func9, Try.ntmps9
        go_wp2_with (first
          | (go_at_call 11; (with_reducible refine HR1.out.mono ?_); rintro e w1 ⟨rfl, rfl⟩)
          | (go_at_call 11; (with_reducible refine HR2.out.mono ?_); rintro e w1 ⟨rfl, rfl⟩)
          | (go_at_call 7; (with_reducible refine HL.out.mono ?_); rintro e w1 ⟨rfl, rfl⟩)
          | (go_at_call 24; (with_reducible refine (HBT.out _ (by omega)).mono ?_); rintro e w1 ⟨v, P, rfl, p1, p2, p3⟩; have HP := Lib.hid (And.intro p1 (And.intro p2 p3)); clear p1 p2 p3))
        all_goals
          go_ret
          exact ⟨v, P, rfl, HP.out⟩
end Go.Proofs.Ytklhfegdjadgdaa
