/- Back, Empty; Diff in one word. -/
import Derived.Test.YtpfkkmfhafejfaaTupG
import Derived.Deep.RegionHeld3
namespace Go.Proofs.Ytpfkkmfhafejfaa
open Go.RowKit Go.Maps

/-- Diff, plainly. -/
def diffP (a b : List Tu) : Int × List Tu × List Tu := if (risB a && risB b) = true then (0, woL b a, woL a b) else (1, [], [])
/-- Apply, plainly. -/
def applyP (s a d : List Tu) : Int × List Tu :=
  if (risB s && (risB a && risB d)) = true then
    if meetL a s = true then (2, []) else if 0 < (woL d s).length then (4, []) else (0, setL (woL s d ++ a))
  else (1, [])
/-- Then, plainly. -/
def thenP (a1 a2 b1 b2 : List Tu) : Int × List Tu × List Tu :=
  if (risB a1 && (risB a2 && (risB b1 && risB b2))) = true then
    if (meetL a1 b1 || meetL a2 b2 || meetL a1 a2 || meetL b1 b2) = true then (2, [], []) else (0, setL (woL a1 b2 ++ woL b1 a2), setL (woL a2 b1 ++ woL b2 a1))
  else (1, [], [])
def nilL : LV := ⟨none, [], 0⟩
theorem nil_own (w : World) (lo : Nat) : OwnL w lo nilL.val nilL.ts := ⟨World.ownsRow_nil _ _ _ _, fun _ h => (nomatch h), fun _ h => (nomatch h), .nil⟩
theorem nil_ok (w : World) : nilL.Ok w := Lst.nil _ _ _
theorem nil_lt (m : Nat) : LtB nilL m := ⟨fun _ h => (nomatch h), fun _ h => (nomatch h)⟩
/-- What a call answers that has a delta and an error's number. -/
def DePost (w : World) (p : Int × List Tu × List Tu) (e : Ending) (w' : World) : Prop :=
  ∃ (x y : LV) (m : Nat), e = .returned (.tuple #[.agg #[.slice x.A x.ts.length x.c, .slice y.A y.ts.length y.c], .int .i64 p.1]) ∧ OwnL w' w.heap.size x.val x.ts ∧ x.Ok w' ∧ LtB x m ∧ w.heap.size ≤ m ∧ OwnL w' m y.val y.ts ∧ y.Ok w' ∧ tus x.ts = p.2.1 ∧ tus y.ts = p.2.2 ∧ Below w.heap.size w w'
theorem DeErr.post {w : World} {n : Int} {e : Ending} {w' : World} (h : DeErr w n e w') : DePost w (n, [], []) e w' :=
  ⟨nilL, nilL, w.heap.size, h.1, nil_own _ _, nil_ok _, nil_lt _, Nat.le_refl _, nil_own _ _, nil_ok _, rfl, rfl, h.2⟩
theorem DeL.post {w : World} {P Q : List Tu} {e : Ending} {w' : World} (h : DeL w P Q e w') : DePost w (0, P, Q) e w' := h
theorem diff_any (a b : LV) (w : World) (ha : a.Ok w) (hb : b.Ok w) : Calls Try.prog 22 #[.slice a.A a.ts.length a.c, .slice b.A b.ts.length b.c] w (DePost w (diffP (tus a.ts) (tus b.ts))) := by
  unfold diffP
  by_cases h : (risB (tus a.ts) && risB (tus b.ts)) = true
  · rw [if_pos h]
    rw [Bool.and_eq_true, ris_iff, ris_iff] at h
    exact (diff_ok a b w ha hb h.1 h.2).mono fun _ _ h => h
  · rw [if_neg h]
    rw [Bool.and_eq_true, ris_iff, ris_iff] at h
    exact (diff_bad a b w ha hb h).mono fun _ _ h => h.post
/-- Empty. -/
theorem empty_any (x y : LV) (w : World) : Calls Try.prog 25 #[.agg #[.slice x.A x.ts.length x.c, .slice y.A y.ts.length y.c]] w fun e w' => e = .returned (.bool (decide (x.ts.length + y.ts.length = 0))) ∧ Below w.heap.size w w' := by
  obtain ⟨m, hm⟩ : ∃ m, m = x.ts.length := ⟨_, rfl⟩
  obtain ⟨n, hn⟩ : ∃ n, n = y.ts.length := ⟨_, rfl⟩
  rw [← hm, ← hn]
  clear hm hn
  by_cases h0 : m = 0
  · subst h0
    by_cases h1 : n = 0
    · subst h1
      go_enter Try.func25, Try.ntmps25
      go_wp2_with (fail)
      go_ret
      exact ⟨rfl, (Below.refl _ _).alloc (Nat.le_refl _) _⟩
    · have e1 : decide (0 + n = 0) = false := by simp; exact h1
      have e2 : ((n : Int) == 0) = false := by simp; exact h1
      rw [e1]
      clear e1 h1
      go_enter Try.func25, Try.ntmps25
      go_wp2_with (fail)
      go_ret
      exact ⟨rfl, (Below.refl _ _).alloc (Nat.le_refl _) _⟩
  · have e1 : decide (m + n = 0) = false := by simp; omega
    have e2 : ((m : Int) == 0) = false := by simp; exact h0
    rw [e1]
    clear e1 h0
    go_enter Try.func25, Try.ntmps25
    go_wp2_with (fail)
    go_ret
    exact ⟨rfl, (Below.refl _ _).alloc (Nat.le_refl _) _⟩
theorem keep_set2 {w : World} {b q i : Nat} {v : Option Value} (h : w.cell? ⟨q, i, none⟩ = v) (hne : q ≠ b) (v0 v1 : Value) : ((w.setCell ⟨b, 0, none⟩ v0).setCell ⟨b, 1, none⟩ v1).cell? ⟨q, i, none⟩ = v := by
  rw [World.cell?_setCell_other _ _ _ _ (by intro e; injection e with e; exact hne e.symm), World.cell?_setCell_other _ _ _ _ (by intro e; injection e with e; exact hne e.symm)]
  exact h
/-- What Back answers. -/
def BaPost (w : World) (P Q : List Tu) (e : Ending) (w' : World) : Prop :=
  ∃ (x y : LV), e = .returned (.agg #[.slice x.A x.ts.length x.c, .slice y.A y.ts.length y.c]) ∧ OwnL w' w.heap.size x.val x.ts ∧ x.Ok w' ∧ OwnL w' w.heap.size y.val y.ts ∧ y.Ok w' ∧ tus x.ts = P ∧ tus y.ts = Q ∧ Below w.heap.size w w'
theorem resBack {w : World} {b : Nat} {v0 v1 : Value} (h : w.heap[b]? = some (.cells #[v0, v1] 35 (0, 0))) (tmps : Array Value) (h2 : tmps.getD 2 undef = .pointer (some ⟨b, 0, none⟩)) :
    (results Try.f28 tmps).run Try.prog w = .ok (.agg #[v0, v1]) w := by
  have e0 : w.cell? ⟨b, 0, none⟩ = some v0 := cell_of_row w b 0 _ _ _ h
  have e1 : w.cell? ⟨b, 1, none⟩ = some v1 := cell_of_row w b 1 _ _ _ h
  have h2' := h2
  simp only [Array.getD_eq_getD_getElem?] at h2'
  simp [results, Try.results28, go_sem, h2', e0, e1]
set_option maxRecDepth 100000 in
set_option maxHeartbeats 2000000 in
theorem back_any (x y : LV) (w : World) (hx : x.Ok w) (hy : y.Ok w) : Calls Try.prog 28 #[.agg #[.slice x.A x.ts.length x.c, .slice y.A y.ts.length y.c]] w (BaPost w (tus y.ts) (tus x.ts)) := by
  have h01 := two_new w (.cells #[.slice x.A x.ts.length x.c, .slice y.A y.ts.length y.c] 35) (.cells #[.slice none 0 0, .slice none 0 0] 35)
  have hb := ((Below.refl w.heap.size w).alloc (Nat.le_refl _) (.cells #[.slice x.A x.ts.length x.c, .slice y.A y.ts.length y.c] 35)).alloc (by simp) (.cells #[.slice none 0 0, .slice none 0 0] 35)
  have H0 := Lib.hid (And.intro h01.1 (And.intro h01.2 hb))
  have HX := Lib.hid (And.intro hx hy)
  clear h01 hb hx hy
  go_enter Try.func28, Try.ntmps28
  go_upto_region 1 with (fail)
  generalize (w.alloc (.cells #[.slice x.A x.ts.length x.c, .slice y.A y.ts.length y.c] 35)).alloc (.cells #[.slice none 0 0, .slice none 0 0] 35) = W at H0 ⊢
  have KS := Lib.hid fun W' (h : Below W.heap.size W W') => And.intro (cell_of_row W' w.heap.size 0 _ _ _ ((h.block _ (heap_lt H0.out.1)).trans H0.out.1)) (cell_of_row W' w.heap.size 1 _ _ _ ((h.block _ (heap_lt H0.out.1)).trans H0.out.1))
  have KR := Lib.hid fun W' (h : Below W.heap.size W W') => ((h.block _ (heap_lt H0.out.2.1)).trans H0.out.2.1)
  have HC1 := Lib.hid (copied_l y W.drew ((HX.out.2.below H0.out.2.2).drewN 1))
  have HCx := Lib.hid fun W' (h : Below W.heap.size W W') => copied_l x W' ((HX.out.1.below H0.out.2.2).below h)
  have k0 := KS.out W.drew (Below.refl _ _).drew
  go_region_held3 (fun W' => W'.cell? ⟨w.heap.size, 0, none⟩ = some (.slice x.A x.ts.length x.c) ∧ W'.cell? ⟨w.heap.size, 1, none⟩ = some (.slice y.A y.ts.length y.c))
    (first | with_reducible assumption | exact ⟨keep_set2 (KS.out _ B2.out).1 (Nat.ne_of_lt (Nat.lt_succ_self _)) _ _, keep_set2 (KS.out _ B2.out).2 (Nat.ne_of_lt (Nat.lt_succ_self _)) _ _⟩ | exact KS.out _ B2.out | exact KS.out _ B1.out | exact KS.out _ (Below.refl _ _).drew)
    (first
      | (go_at_call 31; (with_reducible refine HC1.out.mono ?_); rintro e w1 ⟨x1, rfl, p1, o1, e1, b1⟩; have B1 := Lib.hid ((Below.refl _ W).drew.trans (b1 : Below W.heap.size _ _)); have E1 := Lib.hid (And.intro p1 (And.intro o1 e1)); have HC2 := Lib.hid (HCx.out w1 B1.out); clear p1 o1 e1 b1 HC1 HCx)
      | (go_at_call 31; (with_reducible refine HC2.out.mono ?_); rintro e w2 ⟨x2, rfl, p2, o2, e2, b2⟩; have L2 := Lib.hid b2; have B2 := Lib.hid (B1.out.trans (lower b2 B1.out.size)); have E2 := Lib.hid (And.intro p2 (And.intro o2 e2)); have g2 := KR.out w2 B2.out; have c0 := cell_of_row w2 (w.heap.size + 1) 0 _ _ _ g2; have c1 := cell_of_row w2 (w.heap.size + 1) 1 _ _ _ g2; have f0 := frozen_of_row w2 (w.heap.size + 1) 0 _ _ g2; have f1 := frozen_of_row w2 (w.heap.size + 1) 1 _ _ g2; have G2 := Lib.hid g2; clear p2 o2 e2 b2 g2 HC2))
  all_goals
    go_wp2_with (fail)
    have hfr := fr_set2 w2 (w.heap.size + 1) (.slice x1.A x1.ts.length x1.c) (.slice x2.A x2.ts.length x2.c)
    have l0 := heap_lt H0.out.2.1
    have l1 := B1.out.size
    have q1 : OwnL w2 W.heap.size x1.val x1.ts := OwnL.below E1.out.1 L2.out
    have q1' := q1.fr hfr (by simpa using l0)
    have q2 := E2.out.1.fr hfr (by simp; omega)
    have l9 : w.heap.size ≤ W.heap.size := by omega
    exact bodyPost_ret (resBack (set2 G2.out _ _) _ rfl) rfl ⟨x1, x2, rfl, q1'.mono l9, q1'.ok' (by have := E1.out.2.1.sm; exact this) rfl, q2.mono (Nat.le_trans l9 l1), q2.ok' (by have := E2.out.2.1.sm; exact this) rfl, E1.out.2.2, E2.out.2.2, below_set2 (H0.out.2.2.trans (lower B2.out l9)) (Nat.le_succ _) _ _⟩
end Go.Proofs.Ytpfkkmfhafejfaa
