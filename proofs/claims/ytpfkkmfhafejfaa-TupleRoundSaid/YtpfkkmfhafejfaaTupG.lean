/- Diff, of two lists. -/
import Derived.Test.YtpfkkmfhafejfaaTupF
namespace Go.Proofs.Ytpfkkmfhafejfaa
open Go.RowKit Go.Maps

/-- A list is answered that reads as R. -/
def WoL (w : World) (R : List Tu) (e : Ending) (w' : World) : Prop := ∃ x : LV, e = .returned (.slice x.A x.ts.length x.c) ∧ x.Ok w' ∧ tus x.ts = R ∧ Below w.heap.size w w'
theorem LV.Ok.below {w w' : World} {x : LV} (h : x.Ok w) (hb : Below w.heap.size w w') : x.Ok w' := Lst.below h hb
theorem LV.Ok.drewN {w : World} {x : LV} (h : x.Ok w) (n : Nat) : x.Ok (w.drewN n) := Lst.drewN h n
theorem without_l (a b : LV) (w : World) (ha : a.Ok w) (hb : b.Ok w) (ra : Ris (tus a.ts)) (rb : Ris (tus b.ts)) :
    Calls Try.prog 39 #[.slice a.A a.ts.length a.c, .slice b.A b.ts.length b.c] w (WoL w (woL (tus a.ts) (tus b.ts))) := by
  refine (without_any a b w ha hb ra rb).mono ?_
  rintro e w' ⟨v, O, rfl, h1, h2, h3, h4⟩
  have hl : O.length ≤ 1000 := by
    have e1 := congrArg List.length h2
    have e2 := wo_len (tus a.ts) (tus b.ts)
    have e3 := ha.sm
    rw [tus_len] at e1 e2
    omega
  obtain ⟨A, c, rfl, hL⟩ := h1.lst (fun t ht => ((ha.ok t (h3 t ht)).below h4)) hl
  exact ⟨⟨A, O, c⟩, rfl, hL, h2, h4⟩
theorem joined_l (a b : LV) (w : World) (ha : a.Ok w) (hb : b.Ok w) (hs : a.ts.length + b.ts.length ≤ 1000) :
    Calls Try.prog 42 #[.slice a.A a.ts.length a.c, .slice b.A b.ts.length b.c] w (WoL w (mrg (tus a.ts) (tus b.ts))) := by
  refine (joined_any a b w ha hb).mono ?_
  rintro e w' ⟨v, O, rfl, h1, h2, h3, h4⟩
  have hl : O.length ≤ 1000 := by
    have e1 := congrArg List.length h2
    rw [mrg_len, tus_len, tus_len, tus_len] at e1
    omega
  obtain ⟨A, c, rfl, hL⟩ := h1.lst (fun t ht => by
    rcases h3 t ht with h | h
    · exact (ha.ok t h).below h4
    · exact (hb.ok t h).below h4) hl
  exact ⟨⟨A, O, c⟩, rfl, hL, h2, h4⟩
/-- A list of the call's own is answered that reads as R. -/
def CoL (w : World) (R : List Tu) (e : Ending) (w' : World) : Prop := ∃ x : LV, e = .returned (.slice x.A x.ts.length x.c) ∧ OwnL w' w.heap.size x.val x.ts ∧ x.Ok w' ∧ tus x.ts = R ∧ Below w.heap.size w w'
theorem copied_l (x : LV) (w : World) (hx : x.Ok w) : Calls Try.prog 31 #[.slice x.A x.ts.length x.c] w (CoL w (tus x.ts)) := by
  refine (copied_any x w hx).mono ?_
  rintro e w' ⟨v, us, rfl, h1, h2, h3⟩
  have hl : us.length ≤ 1000 := by
    have e1 := congrArg List.length h2
    have e3 := hx.sm
    rw [tus_len, tus_len] at e1
    omega
  obtain ⟨A, c, rfl, hL⟩ := h1.lst hl
  exact ⟨⟨A, us, c⟩, rfl, h1, hL, h2, h3⟩
/-- All its blocks lie below m. -/
def LtB (x : LV) (m : Nat) : Prop := (∀ a, x.A = some a → a.block < m) ∧ ∀ t ∈ x.ts, ∀ a, t.A = some a → a.block < m
theorem OwnL.lt {w : World} {lo : Nat} {x : LV} (h : OwnL w lo x.val x.ts) : LtB x w.heap.size :=
  ⟨fun a ha => (World.ownsRow.lt h.row a.block (by unfold LV.val; rw [ha]; rfl)).2, fun t ht a ha => ((h.tup t ht).lo a ha).2⟩
theorem LtB.mono {x : LV} {m n : Nat} (h : LtB x m) (hn : m ≤ n) : LtB x n := ⟨fun a ha => Nat.lt_of_lt_of_le (h.1 a ha) hn, fun t ht a ha => Nat.lt_of_lt_of_le (h.2 t ht a ha) hn⟩
/-- .. where elder blocks have turned. -/
theorem OwnL.fr {w w' : World} {lo : Nat} {v : Value} {ts : List TV} {S : List Nat} (h : OwnL w lo v ts) (hf : Fr w w' S) (hS : ∀ s ∈ S, s < lo) : OwnL w' lo v ts :=
  ⟨rowFrS h.row hf fun s hs hm => by have := (World.ownsRow.lt h.row s (by simpa using hs)).1; have := hS s hm; omega, fun t ht => (h.tup t ht).fr hf fun a ha hm => by have := ((h.tup t ht).lo a ha).1; have := hS _ hm; omega, h.sm, h.off⟩
theorem OwnL.ok' {w : World} {lo : Nat} {x : LV} {v : Value} (h : OwnL w lo v x.ts) (hs : x.ts.length ≤ 1000) (hv : v = x.val) : x.Ok w := by
  obtain ⟨A, c, e, hL⟩ := h.lst hs
  rw [hv] at e
  unfold LV.val at e
  injection e with e1 e2 e3
  unfold LV.Ok
  rw [e1, e3]
  exact hL
/-- A delta of two lists of the call's own is answered. -/
def DeL (w : World) (P Q : List Tu) (e : Ending) (w' : World) : Prop :=
  ∃ (x y : LV) (m : Nat), e = .returned (.tuple #[.agg #[.slice x.A x.ts.length x.c, .slice y.A y.ts.length y.c], .int .i64 0]) ∧ OwnL w' w.heap.size x.val x.ts ∧ x.Ok w' ∧ LtB x m ∧ w.heap.size ≤ m ∧ OwnL w' m y.val y.ts ∧ y.Ok w' ∧ tus x.ts = P ∧ tus y.ts = Q ∧ Below w.heap.size w w'
/-- No delta: an error. -/
def DeErr (w : World) (n : Int) (e : Ending) (w' : World) : Prop := e = .returned (.tuple #[.agg #[.slice none 0 0, .slice none 0 0], .int .i64 n]) ∧ Below w.heap.size w w'
theorem resDiff {w : World} {b : Nat} {v0 v1 : Value} (h : w.heap[b]? = some (.cells #[v0, v1] 35 (0, 0))) (tmps : Array Value) (h2 : tmps.getD 4 undef = .pointer (some ⟨b, 0, none⟩)) :
    (results Try.f22 tmps).run Try.prog w = .ok (.tuple #[.agg #[v0, v1], tmps.getD 5 undef]) w := by
  have e0 : w.cell? ⟨b, 0, none⟩ = some v0 := cell_of_row w b 0 _ _ _ h
  have e1 : w.cell? ⟨b, 1, none⟩ = some v1 := cell_of_row w b 1 _ _ _ h
  have h2' := h2
  simp only [Array.getD_eq_getD_getElem?] at h2'
  simp [results, Try.results22, go_sem, h2', e0, e1]
theorem two_lists (w : World) (a b : LV) : Rd (w.alloc (.cells #[.slice a.A a.ts.length a.c, .slice b.A b.ts.length b.c] 22)) (w.alloc (.cells #[.slice a.A a.ts.length a.c, .slice b.A b.ts.length b.c] 22)).heap.size (some ⟨w.heap.size, 0, none⟩) ([a, b].map LV.val) := by
  have := Rd.new w #[.slice a.A a.ts.length a.c, .slice b.A b.ts.length b.c] 22 (0, 0)
  rw [alloc1_size]
  exact this
theorem set2 {w : World} {b : Nat} {t : TypeId} {x0 x1 : Value} (h : w.heap[b]? = some (.cells #[x0, x1] t (0, 0))) (v0 v1 : Value) :
    ((w.setCell ⟨b, 0, none⟩ v0).setCell ⟨b, 1, none⟩ v1).heap[b]? = some (.cells #[v0, v1] t (0, 0)) := by
  have h1 := heap_setCell_same w b 0 #[x0, x1] t v0 h
  have h2 := heap_setCell_same _ b 1 _ t v1 h1
  simpa using h2
theorem below_set2 {B b : Nat} {a w : World} (h : Below B a w) (hb : B ≤ b) (v0 v1 : Value) : Below B a ((w.setCell ⟨b, 0, none⟩ v0).setCell ⟨b, 1, none⟩ v1) :=
  (h.setCell hb _).setCell hb _
theorem fr_set2 (w : World) (b : Nat) (v0 v1 : Value) : Fr w ((w.setCell ⟨b, 0, none⟩ v0).setCell ⟨b, 1, none⟩ v1) [b] :=
  ((Fr.refl w [b]).setCell (List.mem_singleton.2 rfl) _).setCell (List.mem_singleton.2 rfl) _
/-- What rise is told of two lists. -/
theorem rise_two (a b : LV) (w W : World) (ha : a.Ok w) (hb : b.Ok w) (h : Below w.heap.size w W) (R : Bool) (hR : (risB (tus a.ts) && risB (tus b.ts)) = R) :
    Calls Try.prog 38 #[.slice (some ⟨W.heap.size, 0, none⟩) 2 2] (W.alloc (.cells #[.slice a.A a.ts.length a.c, .slice b.A b.ts.length b.c] 22)) fun e w' => e = .returned (.bool R) ∧ Below W.heap.size W w' := by
  have hb2 : Below W.heap.size W (W.alloc (.cells #[.slice a.A a.ts.length a.c, .slice b.A b.ts.length b.c] 22)) := (Below.refl _ _).alloc (Nat.le_refl _) _
  have hrise : Calls Try.prog 38 #[.slice (some ⟨W.heap.size, 0, none⟩) 2 2] _ _ := rise_any (some ⟨W.heap.size, 0, none⟩) 2 [a, b] _ (two_lists W a b) (by simp) (by simp) (fun x hx => by
    rcases List.mem_cons.1 hx with rfl | hx
    · exact (ha.below h).below hb2
    · rw [List.mem_singleton.1 hx]; exact (hb.below h).below hb2)
  have hall : ([a, b].all fun x => risB (tus x.ts)) = R := by
    simp only [List.all_cons, List.all_nil, Bool.and_true]
    exact hR
  rw [hall] at hrise
  refine hrise.mono ?_
  rintro e w' ⟨rfl, n, rfl⟩
  exact ⟨rfl, below_draws hb2 n⟩
set_option maxRecDepth 100000 in
set_option maxHeartbeats 2000000 in
/-- Diff of lists that aren't both sets. -/
theorem diff_bad (a b : LV) (w : World) (ha : a.Ok w) (hb : b.Ok w) (hn : ¬ (Ris (tus a.ts) ∧ Ris (tus b.ts))) :
    Calls Try.prog 22 #[.slice a.A a.ts.length a.c, .slice b.A b.ts.length b.c] w (DeErr w 1) := by
  have hb1 : Below w.heap.size w (w.alloc (.cells #[.slice none 0 0, .slice none 0 0] 35)) := (Below.refl _ _).alloc (Nat.le_refl _) _
  have hg1 := heap_alloc_new w (.cells #[.slice none 0 0, .slice none 0 0] 35)
  have hrise := rise_two a b w _ ha hb hb1 false (by rw [← Bool.not_eq_true, Bool.and_eq_true, ris_iff, ris_iff]; exact hn)
  have HR := Lib.hid hrise
  have HG := Lib.hid (And.intro hg1 hb1)
  clear hrise hb1 hn ha hb hg1
  go_enter Try.func22, Try.ntmps22
  go_upto_region 1 with (fail)
  generalize w.alloc (.cells #[.slice none 0 0, .slice none 0 0] 35) = W1 at HR HG ⊢
  go_wp2_with (go_at_call 38; (with_reducible refine HR.out.mono ?_); rintro e w2 ⟨rfl, hb2⟩; have hg2 := (hb2.block _ (heap_lt HG.out.1)).trans HG.out.1; have c0 := cell_of_row w2 w.heap.size 0 _ _ _ hg2; have c1 := cell_of_row w2 w.heap.size 1 _ _ _ hg2; have f0 := frozen_of_row w2 w.heap.size 0 _ _ hg2; have f1 := frozen_of_row w2 w.heap.size 1 _ _ hg2; have HG2 := Lib.hid (And.intro hg2 (HG.out.2.trans (lower hb2 HG.out.2.size))); clear hg2 hb2)
  exact bodyPost_ret (resDiff (set2 HG2.out.1 _ _) _ rfl) rfl ⟨rfl, below_set2 HG2.out.2 (Nat.le_refl _) _ _⟩
set_option maxRecDepth 100000 in
set_option maxHeartbeats 2000000 in
/-- Diff of two sets. -/
theorem diff_ok (a b : LV) (w : World) (ha : a.Ok w) (hb : b.Ok w) (ra : Ris (tus a.ts)) (rb : Ris (tus b.ts)) :
    Calls Try.prog 22 #[.slice a.A a.ts.length a.c, .slice b.A b.ts.length b.c] w (DeL w (woL (tus b.ts) (tus a.ts)) (woL (tus a.ts) (tus b.ts))) := by
  have hb1 : Below w.heap.size w (w.alloc (.cells #[.slice none 0 0, .slice none 0 0] 35)) := (Below.refl _ _).alloc (Nat.le_refl _) _
  have hg1 := heap_alloc_new w (.cells #[.slice none 0 0, .slice none 0 0] 35)
  have hrise := rise_two a b w _ ha hb hb1 true (by rw [Bool.and_eq_true, ris_iff, ris_iff]; exact ⟨ra, rb⟩)
  have HR := Lib.hid hrise
  have HG := Lib.hid (And.intro hg1 hb1)
  have HWA := Lib.hid fun W (h : Below w.heap.size w W) => without_l b a W (hb.below h) (ha.below h) rb ra
  have HWB := Lib.hid fun W (h : Below w.heap.size w W) => without_l a b W (ha.below h) (hb.below h) ra rb
  clear hrise hb1 ha hb hg1 ra rb
  go_enter Try.func22, Try.ntmps22
  go_upto_region 1 with (fail)
  generalize w.alloc (.cells #[.slice none 0 0, .slice none 0 0] 35) = W1 at HR HG ⊢
  go_wp2_with (first
    | (go_at_call 38; (with_reducible refine HR.out.mono ?_); rintro e w2 ⟨rfl, hb2⟩; have B2 := Lib.hid (HG.out.2.trans (lower hb2 HG.out.2.size)); have G2 := Lib.hid ((hb2.block _ (heap_lt HG.out.1)).trans HG.out.1); have HA1 := Lib.hid (HWA.out w2 B2.out); clear hb2 HG HR HWA)
    | (go_at_call 39; (with_reducible refine HA1.out.mono ?_); rintro e w3 ⟨x3, rfl, o3, e3, hb3⟩; have B3 := Lib.hid (B2.out.trans (lower hb3 B2.out.size)); have G3 := Lib.hid ((hb3.block _ (heap_lt G2.out)).trans G2.out); have E3 := Lib.hid e3; have HC3 := Lib.hid (copied_l x3 w3 o3); clear o3 e3 hb3 HA1)
    | (go_at_call 31; (with_reducible refine HC3.out.mono ?_); rintro e w4 ⟨x4, rfl, p4, o4, e4, hb4⟩; have B4 := Lib.hid (B3.out.trans (lower hb4 B3.out.size)); have G4 := Lib.hid ((hb4.block _ (heap_lt G3.out)).trans G3.out); have E4 := Lib.hid (And.intro p4 (And.intro o4 (e4.trans E3.out))); have L34 := Lib.hid hb4.size; have HA4 := Lib.hid (HWB.out w4 B4.out); clear p4 o4 e4 hb4 HC3 HWB)
    | (go_at_call 39; (with_reducible refine HA4.out.mono ?_); rintro e w5 ⟨x5, rfl, o5, e5, hb5⟩; have B5 := Lib.hid (B4.out.trans (lower hb5 B4.out.size)); have G5 := Lib.hid ((hb5.block _ (heap_lt G4.out)).trans G4.out); have E5 := Lib.hid e5; have L5 := Lib.hid hb5; have HC5 := Lib.hid (copied_l x5 w5 o5); clear o5 e5 hb5 HA4)
    | (go_at_call 31; (with_reducible refine HC5.out.mono ?_); rintro e w6 ⟨x6, rfl, p6, o6, e6, hb6⟩; have B6 := Lib.hid (B5.out.trans (lower hb6 B5.out.size)); have hg6 := (hb6.block _ (heap_lt G5.out)).trans G5.out; have c0 := cell_of_row w6 w.heap.size 0 _ _ _ hg6; have c1 := cell_of_row w6 w.heap.size 1 _ _ _ hg6; have f0 := frozen_of_row w6 w.heap.size 0 _ _ hg6; have f1 := frozen_of_row w6 w.heap.size 1 _ _ hg6; have G6 := Lib.hid hg6; have E6 := Lib.hid (And.intro p6 (And.intro o6 (e6.trans E5.out))); have L6 := Lib.hid hb6; clear p6 o6 e6 hb6 hg6 HC5))
  have hfr := fr_set2 w6 w.heap.size (.slice x4.A x4.ts.length x4.c) (.slice x6.A x6.ts.length x6.c)
  have l2 := heap_lt G2.out
  have l3 := heap_lt G3.out
  have l4 := heap_lt G4.out
  have l5 := heap_lt G5.out
  have h45 := L5.out.size
  have q4 : OwnL w6 w3.heap.size x4.val x4.ts := (E4.out.1.below L5.out).below L6.out
  have k4 : LtB x4 w4.heap.size := E4.out.1.lt
  exact bodyPost_ret (resDiff (set2 G6.out _ _) _ rfl) rfl ⟨x4, x6, w5.heap.size, rfl, (q4.fr hfr (by simpa using l3)).mono (Nat.le_of_lt l3), (q4.fr hfr (by simpa using l3)).ok' (by have := E4.out.2.1.sm; exact this) rfl, k4.mono h45, Nat.le_of_lt l5, E6.out.1.fr hfr (by simpa using l5), (E6.out.1.fr hfr (by simpa using l5)).ok' (by have := E6.out.2.1.sm; exact this) rfl, E4.out.2.2, E6.out.2.2, below_set2 B6.out (Nat.le_refl _) _ _⟩
end Go.Proofs.Ytpfkkmfhafejfaa
