/- Then. -/
import Derived.Test.YtpfkkmfhafejfaaTupI
namespace Go.Proofs.Ytpfkkmfhafejfaa
open Go.RowKit Go.Maps

theorem four_lists (w : World) (a b c d : LV) : Rd (w.alloc (.cells #[.slice a.A a.ts.length a.c, .slice b.A b.ts.length b.c, .slice c.A c.ts.length c.c, .slice d.A d.ts.length d.c] 22)) (w.alloc (.cells #[.slice a.A a.ts.length a.c, .slice b.A b.ts.length b.c, .slice c.A c.ts.length c.c, .slice d.A d.ts.length d.c] 22)).heap.size (some ⟨w.heap.size, 0, none⟩) ([a, b, c, d].map LV.val) := by
  have := Rd.new w #[.slice a.A a.ts.length a.c, .slice b.A b.ts.length b.c, .slice c.A c.ts.length c.c, .slice d.A d.ts.length d.c] 22 (0, 0)
  rw [alloc1_size]
  exact this
/-- What rise is told of four lists. -/
theorem rise_four (a b c d : LV) (w W : World) (ha : a.Ok w) (hb : b.Ok w) (hc : c.Ok w) (hd : d.Ok w) (h : Below w.heap.size w W) (R : Bool) (hR : (risB (tus a.ts) && (risB (tus b.ts) && (risB (tus c.ts) && risB (tus d.ts)))) = R) :
    Calls Try.prog 38 #[.slice (some ⟨W.heap.size, 0, none⟩) 4 4] (W.alloc (.cells #[.slice a.A a.ts.length a.c, .slice b.A b.ts.length b.c, .slice c.A c.ts.length c.c, .slice d.A d.ts.length d.c] 22)) fun e w' => e = .returned (.bool R) ∧ Below W.heap.size W w' := by
  have hb2 : Below W.heap.size W (W.alloc (.cells #[.slice a.A a.ts.length a.c, .slice b.A b.ts.length b.c, .slice c.A c.ts.length c.c, .slice d.A d.ts.length d.c] 22)) := (Below.refl _ _).alloc (Nat.le_refl _) _
  have hrise : Calls Try.prog 38 #[.slice (some ⟨W.heap.size, 0, none⟩) 4 4] _ _ := rise_any (some ⟨W.heap.size, 0, none⟩) 4 [a, b, c, d] _ (four_lists W a b c d) (by simp) (by simp) (fun x hx => by
    rcases List.mem_cons.1 hx with rfl | hx
    · exact (ha.below h).below hb2
    · rcases List.mem_cons.1 hx with rfl | hx
      · exact (hb.below h).below hb2
      · rcases List.mem_cons.1 hx with rfl | hx
        · exact (hc.below h).below hb2
        · rw [List.mem_singleton.1 hx]; exact (hd.below h).below hb2)
  have hall : ([a, b, c, d].all fun x => risB (tus x.ts)) = R := by
    simp only [List.all_cons, List.all_nil, Bool.and_true]
    exact hR
  rw [hall] at hrise
  refine hrise.mono ?_
  rintro e w' ⟨rfl, n, rfl⟩
  exact ⟨rfl, below_draws hb2 n⟩
theorem resThen {w : World} {b : Nat} {v0 v1 : Value} (h : w.heap[b]? = some (.cells #[v0, v1] 35 (0, 0))) (tmps : Array Value) (h2 : tmps.getD 4 undef = .pointer (some ⟨b, 0, none⟩)) :
    (results Try.f29 tmps).run Try.prog w = .ok (.tuple #[.agg #[v0, v1], tmps.getD 5 undef]) w := by
  have e0 : w.cell? ⟨b, 0, none⟩ = some v0 := cell_of_row w b 0 _ _ _ h
  have e1 : w.cell? ⟨b, 1, none⟩ = some v1 := cell_of_row w b 1 _ _ _ h
  have h2' := h2
  simp only [Array.getD_eq_getD_getElem?] at h2'
  simp [results, Try.results29, go_sem, h2', e0, e1]
/-- Three boxes of two cells in a row. -/
structure Box3 (W : World) (q : Nat) (x0 x1 y0 y1 z0 z1 : Value) : Prop where
  a : W.heap[q]? = some (.cells #[x0, x1] 35 (0, 0))
  b : W.heap[q + 1]? = some (.cells #[y0, y1] 35 (0, 0))
  c : W.heap[q + 2]? = some (.cells #[z0, z1] 35 (0, 0))
theorem Box3.new (w : World) (x0 x1 y0 y1 z0 z1 : Value) : Box3 (((w.alloc (.cells #[x0, x1] 35)).alloc (.cells #[y0, y1] 35)).alloc (.cells #[z0, z1] 35)) w.heap.size x0 x1 y0 y1 z0 z1 := by
  obtain ⟨h0, h1⟩ := two_new w (.cells #[x0, x1] 35) (.cells #[y0, y1] 35)
  refine ⟨(Below.heap_alloc _ _ _ (by simp; omega)).trans h0, (Below.heap_alloc _ _ _ (by simp)).trans h1, ?_⟩
  have := heap_alloc_new ((w.alloc (.cells #[x0, x1] 35)).alloc (.cells #[y0, y1] 35)) (.cells #[z0, z1] 35)
  rw [alloc1_size, alloc1_size] at this
  exact this
theorem Box3.kept {W W' : World} {q : Nat} {x0 x1 y0 y1 z0 z1 : Value} (h : Box3 W q x0 x1 y0 y1 z0 z1) (hb : Below W.heap.size W W') : Box3 W' q x0 x1 y0 y1 z0 z1 :=
  ⟨(hb.block _ (heap_lt h.a)).trans h.a, (hb.block _ (heap_lt h.b)).trans h.b, (hb.block _ (heap_lt h.c)).trans h.c⟩
theorem Box3.args {W : World} {q : Nat} {x0 x1 y0 y1 z0 z1 : Value} (h : Box3 W q x0 x1 y0 y1 z0 z1) : W.cell? ⟨q, 0, none⟩ = some x0 ∧ W.cell? ⟨q, 1, none⟩ = some x1 ∧ W.cell? ⟨q + 1, 0, none⟩ = some y0 ∧ W.cell? ⟨q + 1, 1, none⟩ = some y1 :=
  ⟨cell_of_row W _ 0 _ _ _ h.a, cell_of_row W _ 1 _ _ _ h.a, cell_of_row W _ 0 _ _ _ h.b, cell_of_row W _ 1 _ _ _ h.b⟩
theorem Box3.res {W : World} {q : Nat} {x0 x1 y0 y1 z0 z1 : Value} (h : Box3 W q x0 x1 y0 y1 z0 z1) : W.cell? ⟨q + 2, 0, none⟩ = some z0 ∧ W.cell? ⟨q + 2, 1, none⟩ = some z1 ∧ W.frozen? ⟨q + 2, 0, none⟩ = false ∧ W.frozen? ⟨q + 2, 1, none⟩ = false :=
  ⟨cell_of_row W _ 0 _ _ _ h.c, cell_of_row W _ 1 _ _ _ h.c, frozen_of_row W _ 0 _ _ h.c, frozen_of_row W _ 1 _ _ h.c⟩
set_option maxRecDepth 100000 in
set_option maxHeartbeats 4000000 in
theorem then_a (a1 a2 b1 b2 : LV) (w : World) (h1 : a1.Ok w) (h2 : a2.Ok w) (h3 : b1.Ok w) (h4 : b2.Ok w) (hn : ¬ (Ris (tus a1.ts) ∧ Ris (tus a2.ts) ∧ Ris (tus b1.ts) ∧ Ris (tus b2.ts))) :
    Calls Try.prog 29 #[.agg #[.slice a1.A a1.ts.length a1.c, .slice a2.A a2.ts.length a2.c], .agg #[.slice b1.A b1.ts.length b1.c, .slice b2.A b2.ts.length b2.c]] w (DePost w (1, [], [])) := by
  have hb1 : Below w.heap.size w (((w.alloc (.cells #[.slice a1.A a1.ts.length a1.c, .slice a2.A a2.ts.length a2.c] 35)).alloc (.cells #[.slice b1.A b1.ts.length b1.c, .slice b2.A b2.ts.length b2.c] 35)).alloc (.cells #[.slice none 0 0, .slice none 0 0] 35)) := (((Below.refl w.heap.size w).alloc (Nat.le_refl _) _).alloc (by simp) _).alloc (by simp; omega) _
  have hbx := Box3.new w (.slice a1.A a1.ts.length a1.c) (.slice a2.A a2.ts.length a2.c) (.slice b1.A b1.ts.length b1.c) (.slice b2.A b2.ts.length b2.c) (.slice none 0 0) (.slice none 0 0)
  have hrise := rise_four a1 a2 b1 b2 w _ h1 h2 h3 h4 hb1 false (by rw [← Bool.not_eq_true, Bool.and_eq_true, Bool.and_eq_true, Bool.and_eq_true, ris_iff, ris_iff, ris_iff, ris_iff]; exact hn)
  have HR := Lib.hid hrise
  have HG := Lib.hid (And.intro hbx hb1)
  clear hrise hb1 hbx h1 h2 h3 h4 hn
  go_enter Try.func29, Try.ntmps29
  go_upto_region 1 with (fail)
  generalize ((w.alloc (.cells #[.slice a1.A a1.ts.length a1.c, .slice a2.A a2.ts.length a2.c] 35)).alloc (.cells #[.slice b1.A b1.ts.length b1.c, .slice b2.A b2.ts.length b2.c] 35)).alloc (.cells #[.slice none 0 0, .slice none 0 0] 35) = W1 at HR HG ⊢
  obtain ⟨k0, k1, k2, k3⟩ := HG.out.1.args
  go_wp2_with (go_at_call 38; (with_reducible refine HR.out.mono ?_); rintro e w2 ⟨rfl, hb2⟩; have B2 := Lib.hid (HG.out.2.trans (lower hb2 HG.out.2.size)); have G2 := Lib.hid (HG.out.1.kept hb2); obtain ⟨k2_0, k2_1, k2_2, k2_3⟩ := G2.out.args; obtain ⟨r0, r1, r2, r3⟩ := G2.out.res; clear hb2 k0 k1 k2 k3)
  exact bodyPost_ret (resThen (set2 G2.out.c _ _) _ rfl) rfl (DeErr.post ⟨rfl, below_set2 B2.out (by omega) _ _⟩)
set_option maxRecDepth 100000 in
set_option maxHeartbeats 4000000 in
theorem then_b1 (a1 a2 b1 b2 : LV) (w : World) (h1 : a1.Ok w) (h2 : a2.Ok w) (h3 : b1.Ok w) (h4 : b2.Ok w) (q1 : Ris (tus a1.ts)) (q2 : Ris (tus a2.ts)) (q3 : Ris (tus b1.ts)) (q4 : Ris (tus b2.ts)) (m1 : meetL (tus a1.ts) (tus b1.ts) = true) :
    Calls Try.prog 29 #[.agg #[.slice a1.A a1.ts.length a1.c, .slice a2.A a2.ts.length a2.c], .agg #[.slice b1.A b1.ts.length b1.c, .slice b2.A b2.ts.length b2.c]] w (DePost w (2, [], [])) := by
  have hb1 : Below w.heap.size w (((w.alloc (.cells #[.slice a1.A a1.ts.length a1.c, .slice a2.A a2.ts.length a2.c] 35)).alloc (.cells #[.slice b1.A b1.ts.length b1.c, .slice b2.A b2.ts.length b2.c] 35)).alloc (.cells #[.slice none 0 0, .slice none 0 0] 35)) := (((Below.refl w.heap.size w).alloc (Nat.le_refl _) _).alloc (by simp) _).alloc (by simp; omega) _
  have hbx := Box3.new w (.slice a1.A a1.ts.length a1.c) (.slice a2.A a2.ts.length a2.c) (.slice b1.A b1.ts.length b1.c) (.slice b2.A b2.ts.length b2.c) (.slice none 0 0) (.slice none 0 0)
  have hrise := rise_four a1 a2 b1 b2 w _ h1 h2 h3 h4 hb1 true (by rw [Bool.and_eq_true, Bool.and_eq_true, Bool.and_eq_true, ris_iff, ris_iff, ris_iff, ris_iff]; exact ⟨q1, q2, q3, q4⟩)
  have HR := Lib.hid hrise
  have HG := Lib.hid (And.intro hbx hb1)
  have HM1 := Lib.hid fun W (h : Below w.heap.size w W) => meet_any a1 b1 W (h1.below h) (h3.below h) q1 q3
  rw [m1] at HM1
  clear hrise hb1 hbx h1 h2 h3 h4 q1 q2 q3 q4 m1
  go_enter Try.func29, Try.ntmps29
  go_upto_region 1 with (fail)
  generalize ((w.alloc (.cells #[.slice a1.A a1.ts.length a1.c, .slice a2.A a2.ts.length a2.c] 35)).alloc (.cells #[.slice b1.A b1.ts.length b1.c, .slice b2.A b2.ts.length b2.c] 35)).alloc (.cells #[.slice none 0 0, .slice none 0 0] 35) = W1 at HR HG ⊢
  obtain ⟨k0, k1, k2, k3⟩ := HG.out.1.args
  go_wp2_with (first
    | (go_at_call 38; (with_reducible refine HR.out.mono ?_); rintro e w2 ⟨rfl, hb2⟩; have B2 := Lib.hid (HG.out.2.trans (lower hb2 HG.out.2.size)); have G2 := Lib.hid (HG.out.1.kept hb2); obtain ⟨k2_0, k2_1, k2_2, k2_3⟩ := G2.out.args; have HN2 := Lib.hid (HM1.out w2 B2.out); clear hb2 k0 k1 k2 k3)
    | (go_at_call 41; (with_reducible refine HN2.out.mono ?_); rintro e w3 ⟨rfl, hb3⟩; have B3 := Lib.hid (B2.out.trans (lower hb3 B2.out.size)); have G3 := Lib.hid (G2.out.kept hb3); obtain ⟨k3_0, k3_1, k3_2, k3_3⟩ := G3.out.args; obtain ⟨r0, r1, r2, r3⟩ := G3.out.res; clear hb3 k2_0 k2_1 k2_2 k2_3))
  exact bodyPost_ret (resThen (set2 G3.out.c _ _) _ rfl) rfl (DeErr.post ⟨rfl, below_set2 B3.out (by omega) _ _⟩)
set_option maxRecDepth 100000 in
set_option maxHeartbeats 4000000 in
theorem then_b2 (a1 a2 b1 b2 : LV) (w : World) (h1 : a1.Ok w) (h2 : a2.Ok w) (h3 : b1.Ok w) (h4 : b2.Ok w) (q1 : Ris (tus a1.ts)) (q2 : Ris (tus a2.ts)) (q3 : Ris (tus b1.ts)) (q4 : Ris (tus b2.ts)) (m1 : meetL (tus a1.ts) (tus b1.ts) = false) (m2 : meetL (tus a2.ts) (tus b2.ts) = true) :
    Calls Try.prog 29 #[.agg #[.slice a1.A a1.ts.length a1.c, .slice a2.A a2.ts.length a2.c], .agg #[.slice b1.A b1.ts.length b1.c, .slice b2.A b2.ts.length b2.c]] w (DePost w (2, [], [])) := by
  have hb1 : Below w.heap.size w (((w.alloc (.cells #[.slice a1.A a1.ts.length a1.c, .slice a2.A a2.ts.length a2.c] 35)).alloc (.cells #[.slice b1.A b1.ts.length b1.c, .slice b2.A b2.ts.length b2.c] 35)).alloc (.cells #[.slice none 0 0, .slice none 0 0] 35)) := (((Below.refl w.heap.size w).alloc (Nat.le_refl _) _).alloc (by simp) _).alloc (by simp; omega) _
  have hbx := Box3.new w (.slice a1.A a1.ts.length a1.c) (.slice a2.A a2.ts.length a2.c) (.slice b1.A b1.ts.length b1.c) (.slice b2.A b2.ts.length b2.c) (.slice none 0 0) (.slice none 0 0)
  have hrise := rise_four a1 a2 b1 b2 w _ h1 h2 h3 h4 hb1 true (by rw [Bool.and_eq_true, Bool.and_eq_true, Bool.and_eq_true, ris_iff, ris_iff, ris_iff, ris_iff]; exact ⟨q1, q2, q3, q4⟩)
  have HR := Lib.hid hrise
  have HG := Lib.hid (And.intro hbx hb1)
  have HM1 := Lib.hid fun W (h : Below w.heap.size w W) => meet_any a1 b1 W (h1.below h) (h3.below h) q1 q3
  rw [m1] at HM1
  have HM2 := Lib.hid fun W (h : Below w.heap.size w W) => meet_any a2 b2 W (h2.below h) (h4.below h) q2 q4
  rw [m2] at HM2
  clear hrise hb1 hbx h1 h2 h3 h4 q1 q2 q3 q4 m1 m2
  go_enter Try.func29, Try.ntmps29
  go_upto_region 1 with (fail)
  generalize ((w.alloc (.cells #[.slice a1.A a1.ts.length a1.c, .slice a2.A a2.ts.length a2.c] 35)).alloc (.cells #[.slice b1.A b1.ts.length b1.c, .slice b2.A b2.ts.length b2.c] 35)).alloc (.cells #[.slice none 0 0, .slice none 0 0] 35) = W1 at HR HG ⊢
  obtain ⟨k0, k1, k2, k3⟩ := HG.out.1.args
  go_wp2_with (first
    | (go_at_call 38; (with_reducible refine HR.out.mono ?_); rintro e w2 ⟨rfl, hb2⟩; have B2 := Lib.hid (HG.out.2.trans (lower hb2 HG.out.2.size)); have G2 := Lib.hid (HG.out.1.kept hb2); obtain ⟨k2_0, k2_1, k2_2, k2_3⟩ := G2.out.args; have HN2 := Lib.hid (HM1.out w2 B2.out); clear hb2 k0 k1 k2 k3)
    | (go_at_call 41; (with_reducible refine HN2.out.mono ?_); rintro e w3 ⟨rfl, hb3⟩; have B3 := Lib.hid (B2.out.trans (lower hb3 B2.out.size)); have G3 := Lib.hid (G2.out.kept hb3); obtain ⟨k3_0, k3_1, k3_2, k3_3⟩ := G3.out.args; have HN3 := Lib.hid (HM2.out w3 B3.out); clear hb3 k2_0 k2_1 k2_2 k2_3)
    | (go_at_call 41; (with_reducible refine HN3.out.mono ?_); rintro e w4 ⟨rfl, hb4⟩; have B4 := Lib.hid (B3.out.trans (lower hb4 B3.out.size)); have G4 := Lib.hid (G3.out.kept hb4); obtain ⟨k4_0, k4_1, k4_2, k4_3⟩ := G4.out.args; obtain ⟨r0, r1, r2, r3⟩ := G4.out.res; clear hb4 k3_0 k3_1 k3_2 k3_3))
  exact bodyPost_ret (resThen (set2 G4.out.c _ _) _ rfl) rfl (DeErr.post ⟨rfl, below_set2 B4.out (by omega) _ _⟩)
set_option maxRecDepth 100000 in
set_option maxHeartbeats 4000000 in
theorem then_b3 (a1 a2 b1 b2 : LV) (w : World) (h1 : a1.Ok w) (h2 : a2.Ok w) (h3 : b1.Ok w) (h4 : b2.Ok w) (q1 : Ris (tus a1.ts)) (q2 : Ris (tus a2.ts)) (q3 : Ris (tus b1.ts)) (q4 : Ris (tus b2.ts)) (m1 : meetL (tus a1.ts) (tus b1.ts) = false) (m2 : meetL (tus a2.ts) (tus b2.ts) = false) (m3 : meetL (tus a1.ts) (tus a2.ts) = true) :
    Calls Try.prog 29 #[.agg #[.slice a1.A a1.ts.length a1.c, .slice a2.A a2.ts.length a2.c], .agg #[.slice b1.A b1.ts.length b1.c, .slice b2.A b2.ts.length b2.c]] w (DePost w (2, [], [])) := by
  have hb1 : Below w.heap.size w (((w.alloc (.cells #[.slice a1.A a1.ts.length a1.c, .slice a2.A a2.ts.length a2.c] 35)).alloc (.cells #[.slice b1.A b1.ts.length b1.c, .slice b2.A b2.ts.length b2.c] 35)).alloc (.cells #[.slice none 0 0, .slice none 0 0] 35)) := (((Below.refl w.heap.size w).alloc (Nat.le_refl _) _).alloc (by simp) _).alloc (by simp; omega) _
  have hbx := Box3.new w (.slice a1.A a1.ts.length a1.c) (.slice a2.A a2.ts.length a2.c) (.slice b1.A b1.ts.length b1.c) (.slice b2.A b2.ts.length b2.c) (.slice none 0 0) (.slice none 0 0)
  have hrise := rise_four a1 a2 b1 b2 w _ h1 h2 h3 h4 hb1 true (by rw [Bool.and_eq_true, Bool.and_eq_true, Bool.and_eq_true, ris_iff, ris_iff, ris_iff, ris_iff]; exact ⟨q1, q2, q3, q4⟩)
  have HR := Lib.hid hrise
  have HG := Lib.hid (And.intro hbx hb1)
  have HM1 := Lib.hid fun W (h : Below w.heap.size w W) => meet_any a1 b1 W (h1.below h) (h3.below h) q1 q3
  rw [m1] at HM1
  have HM2 := Lib.hid fun W (h : Below w.heap.size w W) => meet_any a2 b2 W (h2.below h) (h4.below h) q2 q4
  rw [m2] at HM2
  have HM3 := Lib.hid fun W (h : Below w.heap.size w W) => meet_any a1 a2 W (h1.below h) (h2.below h) q1 q2
  rw [m3] at HM3
  clear hrise hb1 hbx h1 h2 h3 h4 q1 q2 q3 q4 m1 m2 m3
  go_enter Try.func29, Try.ntmps29
  go_upto_region 1 with (fail)
  generalize ((w.alloc (.cells #[.slice a1.A a1.ts.length a1.c, .slice a2.A a2.ts.length a2.c] 35)).alloc (.cells #[.slice b1.A b1.ts.length b1.c, .slice b2.A b2.ts.length b2.c] 35)).alloc (.cells #[.slice none 0 0, .slice none 0 0] 35) = W1 at HR HG ⊢
  obtain ⟨k0, k1, k2, k3⟩ := HG.out.1.args
  go_wp2_with (first
    | (go_at_call 38; (with_reducible refine HR.out.mono ?_); rintro e w2 ⟨rfl, hb2⟩; have B2 := Lib.hid (HG.out.2.trans (lower hb2 HG.out.2.size)); have G2 := Lib.hid (HG.out.1.kept hb2); obtain ⟨k2_0, k2_1, k2_2, k2_3⟩ := G2.out.args; have HN2 := Lib.hid (HM1.out w2 B2.out); clear hb2 k0 k1 k2 k3)
    | (go_at_call 41; (with_reducible refine HN2.out.mono ?_); rintro e w3 ⟨rfl, hb3⟩; have B3 := Lib.hid (B2.out.trans (lower hb3 B2.out.size)); have G3 := Lib.hid (G2.out.kept hb3); obtain ⟨k3_0, k3_1, k3_2, k3_3⟩ := G3.out.args; have HN3 := Lib.hid (HM2.out w3 B3.out); clear hb3 k2_0 k2_1 k2_2 k2_3)
    | (go_at_call 41; (with_reducible refine HN3.out.mono ?_); rintro e w4 ⟨rfl, hb4⟩; have B4 := Lib.hid (B3.out.trans (lower hb4 B3.out.size)); have G4 := Lib.hid (G3.out.kept hb4); obtain ⟨k4_0, k4_1, k4_2, k4_3⟩ := G4.out.args; have HN4 := Lib.hid (HM3.out w4 B4.out); clear hb4 k3_0 k3_1 k3_2 k3_3)
    | (go_at_call 41; (with_reducible refine HN4.out.mono ?_); rintro e w5 ⟨rfl, hb5⟩; have B5 := Lib.hid (B4.out.trans (lower hb5 B4.out.size)); have G5 := Lib.hid (G4.out.kept hb5); obtain ⟨k5_0, k5_1, k5_2, k5_3⟩ := G5.out.args; obtain ⟨r0, r1, r2, r3⟩ := G5.out.res; clear hb5 k4_0 k4_1 k4_2 k4_3))
  exact bodyPost_ret (resThen (set2 G5.out.c _ _) _ rfl) rfl (DeErr.post ⟨rfl, below_set2 B5.out (by omega) _ _⟩)
set_option maxRecDepth 100000 in
set_option maxHeartbeats 4000000 in
theorem then_b4 (a1 a2 b1 b2 : LV) (w : World) (h1 : a1.Ok w) (h2 : a2.Ok w) (h3 : b1.Ok w) (h4 : b2.Ok w) (q1 : Ris (tus a1.ts)) (q2 : Ris (tus a2.ts)) (q3 : Ris (tus b1.ts)) (q4 : Ris (tus b2.ts)) (m1 : meetL (tus a1.ts) (tus b1.ts) = false) (m2 : meetL (tus a2.ts) (tus b2.ts) = false) (m3 : meetL (tus a1.ts) (tus a2.ts) = false) (m4 : meetL (tus b1.ts) (tus b2.ts) = true) :
    Calls Try.prog 29 #[.agg #[.slice a1.A a1.ts.length a1.c, .slice a2.A a2.ts.length a2.c], .agg #[.slice b1.A b1.ts.length b1.c, .slice b2.A b2.ts.length b2.c]] w (DePost w (2, [], [])) := by
  have hb1 : Below w.heap.size w (((w.alloc (.cells #[.slice a1.A a1.ts.length a1.c, .slice a2.A a2.ts.length a2.c] 35)).alloc (.cells #[.slice b1.A b1.ts.length b1.c, .slice b2.A b2.ts.length b2.c] 35)).alloc (.cells #[.slice none 0 0, .slice none 0 0] 35)) := (((Below.refl w.heap.size w).alloc (Nat.le_refl _) _).alloc (by simp) _).alloc (by simp; omega) _
  have hbx := Box3.new w (.slice a1.A a1.ts.length a1.c) (.slice a2.A a2.ts.length a2.c) (.slice b1.A b1.ts.length b1.c) (.slice b2.A b2.ts.length b2.c) (.slice none 0 0) (.slice none 0 0)
  have hrise := rise_four a1 a2 b1 b2 w _ h1 h2 h3 h4 hb1 true (by rw [Bool.and_eq_true, Bool.and_eq_true, Bool.and_eq_true, ris_iff, ris_iff, ris_iff, ris_iff]; exact ⟨q1, q2, q3, q4⟩)
  have HR := Lib.hid hrise
  have HG := Lib.hid (And.intro hbx hb1)
  have HM1 := Lib.hid fun W (h : Below w.heap.size w W) => meet_any a1 b1 W (h1.below h) (h3.below h) q1 q3
  rw [m1] at HM1
  have HM2 := Lib.hid fun W (h : Below w.heap.size w W) => meet_any a2 b2 W (h2.below h) (h4.below h) q2 q4
  rw [m2] at HM2
  have HM3 := Lib.hid fun W (h : Below w.heap.size w W) => meet_any a1 a2 W (h1.below h) (h2.below h) q1 q2
  rw [m3] at HM3
  have HM4 := Lib.hid fun W (h : Below w.heap.size w W) => meet_any b1 b2 W (h3.below h) (h4.below h) q3 q4
  rw [m4] at HM4
  clear hrise hb1 hbx h1 h2 h3 h4 q1 q2 q3 q4 m1 m2 m3 m4
  go_enter Try.func29, Try.ntmps29
  go_upto_region 1 with (fail)
  generalize ((w.alloc (.cells #[.slice a1.A a1.ts.length a1.c, .slice a2.A a2.ts.length a2.c] 35)).alloc (.cells #[.slice b1.A b1.ts.length b1.c, .slice b2.A b2.ts.length b2.c] 35)).alloc (.cells #[.slice none 0 0, .slice none 0 0] 35) = W1 at HR HG ⊢
  obtain ⟨k0, k1, k2, k3⟩ := HG.out.1.args
  go_wp2_with (first
    | (go_at_call 38; (with_reducible refine HR.out.mono ?_); rintro e w2 ⟨rfl, hb2⟩; have B2 := Lib.hid (HG.out.2.trans (lower hb2 HG.out.2.size)); have G2 := Lib.hid (HG.out.1.kept hb2); obtain ⟨k2_0, k2_1, k2_2, k2_3⟩ := G2.out.args; have HN2 := Lib.hid (HM1.out w2 B2.out); clear hb2 k0 k1 k2 k3)
    | (go_at_call 41; (with_reducible refine HN2.out.mono ?_); rintro e w3 ⟨rfl, hb3⟩; have B3 := Lib.hid (B2.out.trans (lower hb3 B2.out.size)); have G3 := Lib.hid (G2.out.kept hb3); obtain ⟨k3_0, k3_1, k3_2, k3_3⟩ := G3.out.args; have HN3 := Lib.hid (HM2.out w3 B3.out); clear hb3 k2_0 k2_1 k2_2 k2_3)
    | (go_at_call 41; (with_reducible refine HN3.out.mono ?_); rintro e w4 ⟨rfl, hb4⟩; have B4 := Lib.hid (B3.out.trans (lower hb4 B3.out.size)); have G4 := Lib.hid (G3.out.kept hb4); obtain ⟨k4_0, k4_1, k4_2, k4_3⟩ := G4.out.args; have HN4 := Lib.hid (HM3.out w4 B4.out); clear hb4 k3_0 k3_1 k3_2 k3_3)
    | (go_at_call 41; (with_reducible refine HN4.out.mono ?_); rintro e w5 ⟨rfl, hb5⟩; have B5 := Lib.hid (B4.out.trans (lower hb5 B4.out.size)); have G5 := Lib.hid (G4.out.kept hb5); obtain ⟨k5_0, k5_1, k5_2, k5_3⟩ := G5.out.args; have HN5 := Lib.hid (HM4.out w5 B5.out); clear hb5 k4_0 k4_1 k4_2 k4_3)
    | (go_at_call 41; (with_reducible refine HN5.out.mono ?_); rintro e w6 ⟨rfl, hb6⟩; have B6 := Lib.hid (B5.out.trans (lower hb6 B5.out.size)); have G6 := Lib.hid (G5.out.kept hb6); obtain ⟨k6_0, k6_1, k6_2, k6_3⟩ := G6.out.args; obtain ⟨r0, r1, r2, r3⟩ := G6.out.res; clear hb6 k5_0 k5_1 k5_2 k5_3))
  exact bodyPost_ret (resThen (set2 G6.out.c _ _) _ rfl) rfl (DeErr.post ⟨rfl, below_set2 B6.out (by omega) _ _⟩)
set_option maxRecDepth 100000 in
set_option maxHeartbeats 4000000 in
theorem then_c (a1 a2 b1 b2 : LV) (w : World) (h1 : a1.Ok w) (h2 : a2.Ok w) (h3 : b1.Ok w) (h4 : b2.Ok w) (q1 : Ris (tus a1.ts)) (q2 : Ris (tus a2.ts)) (q3 : Ris (tus b1.ts)) (q4 : Ris (tus b2.ts)) (m1 : meetL (tus a1.ts) (tus b1.ts) = false) (m2 : meetL (tus a2.ts) (tus b2.ts) = false) (m3 : meetL (tus a1.ts) (tus a2.ts) = false) (m4 : meetL (tus b1.ts) (tus b2.ts) = false) (z1 : a1.ts.length + b1.ts.length ≤ 1000) (z2 : a2.ts.length + b2.ts.length ≤ 1000) :
    Calls Try.prog 29 #[.agg #[.slice a1.A a1.ts.length a1.c, .slice a2.A a2.ts.length a2.c], .agg #[.slice b1.A b1.ts.length b1.c, .slice b2.A b2.ts.length b2.c]] w (DePost w (0, setL (woL (tus a1.ts) (tus b2.ts) ++ woL (tus b1.ts) (tus a2.ts)), setL (woL (tus a2.ts) (tus b1.ts) ++ woL (tus b2.ts) (tus a1.ts)))) := by
  have hb1 : Below w.heap.size w (((w.alloc (.cells #[.slice a1.A a1.ts.length a1.c, .slice a2.A a2.ts.length a2.c] 35)).alloc (.cells #[.slice b1.A b1.ts.length b1.c, .slice b2.A b2.ts.length b2.c] 35)).alloc (.cells #[.slice none 0 0, .slice none 0 0] 35)) := (((Below.refl w.heap.size w).alloc (Nat.le_refl _) _).alloc (by simp) _).alloc (by simp; omega) _
  have hbx := Box3.new w (.slice a1.A a1.ts.length a1.c) (.slice a2.A a2.ts.length a2.c) (.slice b1.A b1.ts.length b1.c) (.slice b2.A b2.ts.length b2.c) (.slice none 0 0) (.slice none 0 0)
  have hrise := rise_four a1 a2 b1 b2 w _ h1 h2 h3 h4 hb1 true (by rw [Bool.and_eq_true, Bool.and_eq_true, Bool.and_eq_true, ris_iff, ris_iff, ris_iff, ris_iff]; exact ⟨q1, q2, q3, q4⟩)
  have HR := Lib.hid hrise
  have HG := Lib.hid (And.intro hbx hb1)
  have HM1 := Lib.hid fun W (h : Below w.heap.size w W) => meet_any a1 b1 W (h1.below h) (h3.below h) q1 q3
  rw [m1] at HM1
  have HM2 := Lib.hid fun W (h : Below w.heap.size w W) => meet_any a2 b2 W (h2.below h) (h4.below h) q2 q4
  rw [m2] at HM2
  have HM3 := Lib.hid fun W (h : Below w.heap.size w W) => meet_any a1 a2 W (h1.below h) (h2.below h) q1 q2
  rw [m3] at HM3
  have HM4 := Lib.hid fun W (h : Below w.heap.size w W) => meet_any b1 b2 W (h3.below h) (h4.below h) q3 q4
  rw [m4] at HM4
  have hs1 : mrg (woL (tus a1.ts) (tus b2.ts)) (woL (tus b1.ts) (tus a2.ts)) = setL (woL (tus a1.ts) (tus b2.ts) ++ woL (tus b1.ts) (tus a2.ts)) := (set_mrg (ris_wo _ q1) (ris_wo _ q3) fun t x1 x2 => meet_no.1 m1 t (mem_wo.1 x1).1 (mem_wo.1 x2).1).symm
  have hs2 : mrg (woL (tus a2.ts) (tus b1.ts)) (woL (tus b2.ts) (tus a1.ts)) = setL (woL (tus a2.ts) (tus b1.ts) ++ woL (tus b2.ts) (tus a1.ts)) := (set_mrg (ris_wo _ q2) (ris_wo _ q4) fun t x1 x2 => meet_no.1 m2 t (mem_wo.1 x1).1 (mem_wo.1 x2).1).symm
  have HW1 := Lib.hid fun W (h : Below w.heap.size w W) => without_l a1 b2 W (h1.below h) (h4.below h) q1 q4
  have HW2 := Lib.hid fun W (h : Below w.heap.size w W) => without_l b1 a2 W (h3.below h) (h2.below h) q3 q2
  have HW3 := Lib.hid fun W (h : Below w.heap.size w W) => without_l a2 b1 W (h2.below h) (h3.below h) q2 q3
  have HW4 := Lib.hid fun W (h : Below w.heap.size w W) => without_l b2 a1 W (h4.below h) (h1.below h) q4 q1
  have hlen : ∀ (x y : LV) (a b c d : List Tu), tus x.ts = woL a b → tus y.ts = woL c d → a.length + c.length ≤ 1000 → x.ts.length + y.ts.length ≤ 1000 := fun x y a b c d e1 e2 h => by
    have f1 := congrArg List.length e1
    have f2 := congrArg List.length e2
    have g1 := wo_len a b
    have g2 := wo_len c d
    rw [tus_len] at f1 f2
    omega
  have HJ1 := Lib.hid fun (x y : LV) W (hx : x.Ok W) (hy : y.Ok W) (e1 : tus x.ts = woL (tus a1.ts) (tus b2.ts)) (e2 : tus y.ts = woL (tus b1.ts) (tus a2.ts)) => joined_l x y W hx hy (hlen x y _ _ _ _ e1 e2 (by rw [tus_len, tus_len]; exact z1))
  have HJ2 := Lib.hid fun (x y : LV) W (hx : x.Ok W) (hy : y.Ok W) (e1 : tus x.ts = woL (tus a2.ts) (tus b1.ts)) (e2 : tus y.ts = woL (tus b2.ts) (tus a1.ts)) => joined_l x y W hx hy (hlen x y _ _ _ _ e1 e2 (by rw [tus_len, tus_len]; exact z2))
  have HST := Lib.hid (And.intro hs1 hs2)
  clear hrise hb1 hbx h1 h2 h3 h4 q1 q2 q3 q4 m1 m2 m3 m4 z1 z2 hs1 hs2 hlen
  go_enter Try.func29, Try.ntmps29
  go_upto_region 1 with (fail)
  generalize ((w.alloc (.cells #[.slice a1.A a1.ts.length a1.c, .slice a2.A a2.ts.length a2.c] 35)).alloc (.cells #[.slice b1.A b1.ts.length b1.c, .slice b2.A b2.ts.length b2.c] 35)).alloc (.cells #[.slice none 0 0, .slice none 0 0] 35) = W1 at HR HG ⊢
  obtain ⟨k0, k1, k2, k3⟩ := HG.out.1.args
  go_upto_region 5 with (first
    | (go_at_call 38; (with_reducible refine HR.out.mono ?_); rintro e w2 ⟨rfl, hb2⟩; have B2 := Lib.hid (HG.out.2.trans (lower hb2 HG.out.2.size)); have G2 := Lib.hid (HG.out.1.kept hb2); obtain ⟨k2_0, k2_1, k2_2, k2_3⟩ := G2.out.args; have HN2 := Lib.hid (HM1.out w2 B2.out); clear hb2 k0 k1 k2 k3)
    | (go_at_call 41; (with_reducible refine HN2.out.mono ?_); rintro e w3 ⟨rfl, hb3⟩; have B3 := Lib.hid (B2.out.trans (lower hb3 B2.out.size)); have G3 := Lib.hid (G2.out.kept hb3); obtain ⟨k3_0, k3_1, k3_2, k3_3⟩ := G3.out.args; have HN3 := Lib.hid (HM2.out w3 B3.out); clear hb3 k2_0 k2_1 k2_2 k2_3)
    | (go_at_call 41; (with_reducible refine HN3.out.mono ?_); rintro e w4 ⟨rfl, hb4⟩; have B4 := Lib.hid (B3.out.trans (lower hb4 B3.out.size)); have G4 := Lib.hid (G3.out.kept hb4); obtain ⟨k4_0, k4_1, k4_2, k4_3⟩ := G4.out.args; have HN4 := Lib.hid (HM3.out w4 B4.out); clear hb4 k3_0 k3_1 k3_2 k3_3)
    | (go_at_call 41; (with_reducible refine HN4.out.mono ?_); rintro e w5 ⟨rfl, hb5⟩; have B5 := Lib.hid (B4.out.trans (lower hb5 B4.out.size)); have G5 := Lib.hid (G4.out.kept hb5); obtain ⟨k5_0, k5_1, k5_2, k5_3⟩ := G5.out.args; have HN5 := Lib.hid (HM4.out w5 B5.out); clear hb5 k4_0 k4_1 k4_2 k4_3)
    | (go_at_call 41; (with_reducible refine HN5.out.mono ?_); rintro e w6 ⟨rfl, hb6⟩; have B6 := Lib.hid (B5.out.trans (lower hb6 B5.out.size)); have G6 := Lib.hid (G5.out.kept hb6); obtain ⟨k6_0, k6_1, k6_2, k6_3⟩ := G6.out.args; skip; clear hb6 k5_0 k5_1 k5_2 k5_3))
  clear k6_0 k6_1 k6_2 k6_3 HG HR G2 G3 G4 G5 HM1 HM2 HM3 HM4 HN2 HN3 HN4 HN5
  have KSs := Lib.hid fun W (h : Below w6.heap.size w6 W) => (G6.out.kept h).args
  have HXs := Lib.hid (HW1.out w6.drew B6.out.drew)
  have ks := KSs.out w6.drew (Below.refl _ _).drew
  go_region_held3 (fun W => W.cell? ⟨w.heap.size, 0, none⟩ = some (.slice a1.A a1.ts.length a1.c) ∧ W.cell? ⟨w.heap.size, 1, none⟩ = some (.slice a2.A a2.ts.length a2.c) ∧ W.cell? ⟨w.heap.size + 1, 0, none⟩ = some (.slice b1.A b1.ts.length b1.c) ∧ W.cell? ⟨w.heap.size + 1, 1, none⟩ = some (.slice b2.A b2.ts.length b2.c))
    (first | with_reducible assumption | exact KSs.out _ D9.out | exact KSs.out _ D8.out | exact KSs.out _ D7.out | exact KSs.out _ (Below.refl _ _).drew)
    (first
      | (go_at_call 39; (with_reducible refine HXs.out.mono ?_); rintro e w7 ⟨x7, rfl, o7, e7, b7⟩; have D7 := Lib.hid ((Below.refl _ w6).drew.trans (b7 : Below w6.heap.size _ _)); have E7 := Lib.hid (And.intro o7 e7); have HYs := Lib.hid (HW2.out w7 (B6.out.trans (lower D7.out B6.out.size))); clear o7 e7 b7 HXs)
      | (go_at_call 39; (with_reducible refine HYs.out.mono ?_); rintro e w8 ⟨x8, rfl, o8, e8, b8⟩; have D8 := Lib.hid (D7.out.trans (lower b8 D7.out.size)); have HZs := Lib.hid (HJ1.out x7 x8 w8 (E7.out.1.below b8) o8 E7.out.2 e8); have E8 := Lib.hid e8; clear o8 e8 b8 HYs)
      | (go_at_call 42; (with_reducible refine HZs.out.mono ?_); rintro e w9 ⟨x9, rfl, o9, e9, b9⟩; have D9 := Lib.hid (D8.out.trans (lower b9 D8.out.size)); have E9 := Lib.hid (And.intro o9 e9); clear o9 e9 b9 HZs))
  all_goals
    have B9 := Lib.hid (B6.out.trans (lower D9.out B6.out.size))
    have G9 := Lib.hid (G6.out.kept D9.out)
    clear D7 D8 ks KSs HW1 HW2 HJ1
    go_upto_region 6 with (fail)
    have KSt := Lib.hid fun W (h : Below w9.heap.size w9 W) => (G9.out.kept h).args
    have HXt := Lib.hid (HW3.out w9.drew B9.out.drew)
    have kt := KSt.out w9.drew (Below.refl _ _).drew
    go_region_held3 (fun W => W.cell? ⟨w.heap.size, 0, none⟩ = some (.slice a1.A a1.ts.length a1.c) ∧ W.cell? ⟨w.heap.size, 1, none⟩ = some (.slice a2.A a2.ts.length a2.c) ∧ W.cell? ⟨w.heap.size + 1, 0, none⟩ = some (.slice b1.A b1.ts.length b1.c) ∧ W.cell? ⟨w.heap.size + 1, 1, none⟩ = some (.slice b2.A b2.ts.length b2.c))
      (first | with_reducible assumption | exact KSt.out _ D12.out | exact KSt.out _ D11.out | exact KSt.out _ D10.out | exact KSt.out _ (Below.refl _ _).drew)
      (first
        | (go_at_call 39; (with_reducible refine HXt.out.mono ?_); rintro e w10 ⟨x10, rfl, o10, e10, b10⟩; have D10 := Lib.hid ((Below.refl _ w9).drew.trans (b10 : Below w9.heap.size _ _)); have E10 := Lib.hid (And.intro o10 e10); have HYt := Lib.hid (HW4.out w10 (B9.out.trans (lower D10.out B9.out.size))); clear o10 e10 b10 HXt)
        | (go_at_call 39; (with_reducible refine HYt.out.mono ?_); rintro e w11 ⟨x11, rfl, o11, e11, b11⟩; have D11 := Lib.hid (D10.out.trans (lower b11 D10.out.size)); have HZt := Lib.hid (HJ2.out x10 x11 w11 (E10.out.1.below b11) o11 E10.out.2 e11); have E11 := Lib.hid e11; clear o11 e11 b11 HYt)
        | (go_at_call 42; (with_reducible refine HZt.out.mono ?_); rintro e w12 ⟨x12, rfl, o12, e12, b12⟩; have D12 := Lib.hid (D11.out.trans (lower b12 D11.out.size)); have E12 := Lib.hid (And.intro o12 e12); clear o12 e12 b12 HZt))
    all_goals
      have B12 := Lib.hid (B9.out.trans (lower D12.out B9.out.size))
      have G12 := Lib.hid (G9.out.kept D12.out)
      have HC12 := Lib.hid (copied_l x9 w12 (E9.out.1.below D12.out))
      clear D10 D11 kt KSt HW3 HW4 HJ2
      go_wp2_with (first
        | (go_at_call 31; (with_reducible refine HC12.out.mono ?_); rintro e w13 ⟨x13, rfl, p13, o13, e13, b13⟩; have D13 := Lib.hid b13; have E13 := Lib.hid (And.intro p13 (And.intro o13 e13)); have HC13 := Lib.hid (copied_l x12 w13 (E12.out.1.below b13)); clear p13 o13 e13 b13 HC12)
        | (go_at_call 31; (with_reducible refine HC13.out.mono ?_); rintro e w14 ⟨x14, rfl, p14, o14, e14, b14⟩; have D14 := Lib.hid b14; have E14 := Lib.hid (And.intro p14 (And.intro o14 e14)); have G14 := Lib.hid ((G12.out.kept D13.out).kept b14); obtain ⟨r0, r1, r2, r3⟩ := G14.out.res; clear p14 o14 e14 b14 HC13))
      have hfr := fr_set2 w14 (w.heap.size + 2) (.slice x13.A x13.ts.length x13.c) (.slice x14.A x14.ts.length x14.c)
      have l12 := heap_lt G12.out.c
      have l13 := D13.out.size
      have l14 := D14.out.size
      have t1 : OwnL w14 w12.heap.size x13.val x13.ts := OwnL.below E13.out.1 D14.out
      have t2 := t1.fr hfr (by simpa using l12)
      have t3 := E14.out.1.fr hfr (by simp; omega)
      have t4 : LtB x13 w13.heap.size := E13.out.1.lt
      have b14 : Below w.heap.size w w14 := (B12.out.trans (lower D13.out B12.out.size)).trans (lower D14.out (by omega))
      exact bodyPost_ret (resThen (set2 G14.out.c _ _) _ rfl) rfl ⟨x13, x14, w13.heap.size, rfl, t2.mono (by omega), t2.ok' (by have := E13.out.2.1.sm; exact this) rfl, t4, by omega, t3, t3.ok' (by have := E14.out.2.1.sm; exact this) rfl, by rw [E13.out.2.2, E9.out.2, E7.out.2, E8.out]; exact HST.out.1, by rw [E14.out.2.2, E12.out.2, E10.out.2, E11.out]; exact HST.out.2, below_set2 b14 (by omega) _ _⟩
/-- Then. -/
theorem then_any (a1 a2 b1 b2 : LV) (w : World) (h1 : a1.Ok w) (h2 : a2.Ok w) (h3 : b1.Ok w) (h4 : b2.Ok w) (z1 : a1.ts.length + b1.ts.length ≤ 1000) (z2 : a2.ts.length + b2.ts.length ≤ 1000) :
    Calls Try.prog 29 #[.agg #[.slice a1.A a1.ts.length a1.c, .slice a2.A a2.ts.length a2.c], .agg #[.slice b1.A b1.ts.length b1.c, .slice b2.A b2.ts.length b2.c]] w (DePost w (thenP (tus a1.ts) (tus a2.ts) (tus b1.ts) (tus b2.ts))) := by
  unfold thenP
  by_cases h : (risB (tus a1.ts) && (risB (tus a2.ts) && (risB (tus b1.ts) && risB (tus b2.ts)))) = true
  · rw [if_pos h]
    rw [Bool.and_eq_true, Bool.and_eq_true, Bool.and_eq_true, ris_iff, ris_iff, ris_iff, ris_iff] at h
    obtain ⟨q1, q2, q3, q4⟩ := h
    cases m1 : meetL (tus a1.ts) (tus b1.ts) with
    | true => rw [if_pos (by simp)]; exact then_b1 a1 a2 b1 b2 w h1 h2 h3 h4 q1 q2 q3 q4 m1
    | false =>
      cases m2 : meetL (tus a2.ts) (tus b2.ts) with
      | true => rw [if_pos (by simp)]; exact then_b2 a1 a2 b1 b2 w h1 h2 h3 h4 q1 q2 q3 q4 m1 m2
      | false =>
        cases m3 : meetL (tus a1.ts) (tus a2.ts) with
        | true => rw [if_pos (by simp)]; exact then_b3 a1 a2 b1 b2 w h1 h2 h3 h4 q1 q2 q3 q4 m1 m2 m3
        | false =>
          cases m4 : meetL (tus b1.ts) (tus b2.ts) with
          | true => rw [if_pos (by simp)]; exact then_b4 a1 a2 b1 b2 w h1 h2 h3 h4 q1 q2 q3 q4 m1 m2 m3 m4
          | false => rw [if_neg (by simp)]; exact then_c a1 a2 b1 b2 w h1 h2 h3 h4 q1 q2 q3 q4 m1 m2 m3 m4 z1 z2
  · rw [if_neg h]
    rw [Bool.and_eq_true, Bool.and_eq_true, Bool.and_eq_true, ris_iff, ris_iff, ris_iff, ris_iff] at h
    exact then_a a1 a2 b1 b2 w h1 h2 h3 h4 h
end Go.Proofs.Ytpfkkmfhafejfaa
