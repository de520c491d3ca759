/- The law's awake, few, Own, spoil. -/
import Derived.Test.YtpfkkmfhafejfaaTupP
namespace Go.Proofs.Ytpfkkmfhafejfaa
open Go.RowKit Go.Maps

theorem rd_lit {W : World} {b : Nat} {xs : List Value} {t : TypeId} {fr : Nat × Nat} (h : W.heap[b]? = some (.cells xs.toArray t fr)) : Rd W W.heap.size (some ⟨b, 0, none⟩) xs := fun _ =>
  ⟨b, 0, rfl, heap_lt h, fun j u hu => by rw [Nat.zero_add, cell_of_row W b j _ _ _ h, ← hu, List.getElem?_toArray]⟩
theorem tv_lit {W : World} {b : Nat} {l : Tu} (h : W.heap[b]? = some (.cells (intsV l).toArray 3 (0, 0))) (hl : l.length ≤ 1000) : TV.Ok W ⟨some ⟨b, 0, none⟩, l, l.length⟩ := ⟨rd_lit h, Nat.le_refl _, hl⟩
theorem lv_lit {W : World} {b : Nat} {ts : List TV} (h : W.heap[b]? = some (.cells (vals ts).toArray 24 (0, 0))) (hk : ∀ t ∈ ts, t.Ok W) (hs : ts.length ≤ 1000) : LV.Ok W ⟨some ⟨b, 0, none⟩, ts, ts.length⟩ := ⟨rd_lit h, hk, Nat.le_refl _, hs⟩
/-- A list of one tuple of one number. -/
theorem one_num {W : World} {x : LV} {n : Int} (h : x.Ok W) (e : tus x.ts = [[n]]) : ∃ b o b' o' c', x.A = some ⟨b, o, none⟩ ∧ x.ts.length = 1 ∧ b < W.heap.size ∧ b' < W.heap.size ∧ W.cell? ⟨b, o, none⟩ = some (.slice (some ⟨b', o', none⟩) 1 c') ∧ W.cell? ⟨b', o', none⟩ = some (.int .i64 n) := by
  obtain ⟨A, ts, c⟩ := x
  rcases ts with _ | ⟨t, r⟩
  · cases e
  · injection e with e1 e2
    have hr : r = [] := List.map_eq_nil_iff.1 e2
    subst hr
    obtain ⟨b, o, hA, hb, hc⟩ := Lst.cell h (k := 0) (by simp)
    obtain ⟨b', o', hA', hb', hc'⟩ := (Lst.at h (k := 0) (by simp)).cell (k := 0) (by simp [e1])
    simp only [List.getElem_cons_zero] at hc hA' hc'
    refine ⟨b, o, b', o', t.c, hA, rfl, hb, hb', ?_, ?_⟩
    · rw [hA', e1] at hc
      exact hc
    · simp only [e1, List.getElem_cons_zero] at hc'
      exact hc'
theorem keepA {W : World} {k : Nat} {o o' : Obj} (h : W.heap[k]? = some o) : (W.alloc o').heap[k]? = some o := (Below.heap_alloc _ _ _ (heap_lt h)).trans h
theorem newA {W : World} {n : Nat} {o : Obj} (h : W.heap.size = n) : (W.alloc o).heap[n]? = some o := by
  subst h
  exact heap_alloc_new W o
theorem at6 (w : World) (o0 o1 o2 o3 o4 o5 : Obj) : let W := (((((w.alloc o0).alloc o1).alloc o2).alloc o3).alloc o4).alloc o5
    W.heap[w.heap.size]? = some o0 ∧ W.heap[w.heap.size + 1]? = some o1 ∧ W.heap[w.heap.size + 1 + 1]? = some o2 ∧ W.heap[w.heap.size + 1 + 1 + 1]? = some o3 ∧ W.heap[w.heap.size + 1 + 1 + 1 + 1]? = some o4 ∧ W.heap[w.heap.size + 1 + 1 + 1 + 1 + 1]? = some o5 ∧ Below w.heap.size w W := by
  have s1 := alloc1_size w o0
  have s2 := (alloc1_size (w.alloc o0) o1).trans (congrArg (· + 1) s1)
  have s3 := (alloc1_size ((w.alloc o0).alloc o1) o2).trans (congrArg (· + 1) s2)
  have s4 := (alloc1_size (((w.alloc o0).alloc o1).alloc o2) o3).trans (congrArg (· + 1) s3)
  have s5 := (alloc1_size ((((w.alloc o0).alloc o1).alloc o2).alloc o3) o4).trans (congrArg (· + 1) s4)
  refine ⟨keepA (keepA (keepA (keepA (keepA (newA rfl))))), keepA (keepA (keepA (keepA (newA s1)))), keepA (keepA (keepA (newA s2))), keepA (keepA (newA s3)), keepA (newA s4), newA s5, ?_⟩
  exact (((((((Below.refl w.heap.size w).alloc (Nat.le_refl _) _).alloc (by simp) _).alloc (by simp; omega) _).alloc (by simp; omega) _).alloc (by simp; omega) _).alloc (by simp; omega) _)
theorem diff_lit : diffP [[1], [2]] [[2], [3]] = (0, [[3]], [[1]]) := by decide +kernel
theorem then_lit : thenP [[3]] [] [[4]] [[3]] = (0, [[4]], []) := by decide +kernel
set_option maxRecDepth 100000 in
set_option maxHeartbeats 2000000 in
theorem awake10_any (w : World) : Calls Try.prog 9 #[] w fun e w' => e = .returned (.bool true) ∧ Below w.heap.size w w' := by
  have HD : Hid (Calls Try.prog 22 #[.slice (some ⟨w.heap.size + 1 + 1, 0, none⟩) 2 2, .slice (some ⟨w.heap.size + 1 + 1 + 1 + 1 + 1, 0, none⟩) 2 2]
    ((((((w.alloc (.cells #[.int .i64 1] 3)).alloc (.cells #[.int .i64 2] 3)).alloc (.cells #[.slice (some ⟨w.heap.size, 0, none⟩) 1 1, .slice (some ⟨w.heap.size + 1, 0, none⟩) 1 1] 24)).alloc (.cells #[.int .i64 2] 3)).alloc (.cells #[.int .i64 3] 3)).alloc (.cells #[.slice (some ⟨w.heap.size + 1 + 1 + 1, 0, none⟩) 1 1, .slice (some ⟨w.heap.size + 1 + 1 + 1 + 1, 0, none⟩) 1 1] 24))
    fun e w' => ∃ x y : LV, e = .returned (.tuple #[.agg #[.slice x.A x.ts.length x.c, .slice y.A y.ts.length y.c], .int .i64 0]) ∧ x.Ok w' ∧ y.Ok w' ∧ tus x.ts = [[3]] ∧ tus y.ts = [[1]] ∧ Below w.heap.size w w') := by
    obtain ⟨h0, h1, h2, h3, h4, h5, hb⟩ := at6 w (.cells #[.int .i64 1] 3) (.cells #[.int .i64 2] 3) (.cells #[.slice (some ⟨w.heap.size, 0, none⟩) 1 1, .slice (some ⟨w.heap.size + 1, 0, none⟩) 1 1] 24) (.cells #[.int .i64 2] 3) (.cells #[.int .i64 3] 3) (.cells #[.slice (some ⟨w.heap.size + 1 + 1 + 1, 0, none⟩) 1 1, .slice (some ⟨w.heap.size + 1 + 1 + 1 + 1, 0, none⟩) 1 1] 24)
    have t0 := tv_lit (l := [1]) h0 (by simp)
    have t1 := tv_lit (l := [2]) h1 (by simp)
    have t3 := tv_lit (l := [2]) h3 (by simp)
    have t4 := tv_lit (l := [3]) h4 (by simp)
    have l2 := lv_lit (ts := [⟨some ⟨w.heap.size, 0, none⟩, [1], 1⟩, ⟨some ⟨w.heap.size + 1, 0, none⟩, [2], 1⟩]) h2 (fun t ht => by
      rcases List.mem_cons.1 ht with rfl | ht
      · exact t0
      · rw [List.mem_singleton.1 ht]; exact t1) (by simp)
    have l5 := lv_lit (ts := [⟨some ⟨w.heap.size + 1 + 1 + 1, 0, none⟩, [2], 1⟩, ⟨some ⟨w.heap.size + 1 + 1 + 1 + 1, 0, none⟩, [3], 1⟩]) h5 (fun t ht => by
      rcases List.mem_cons.1 ht with rfl | ht
      · exact t3
      · rw [List.mem_singleton.1 ht]; exact t4) (by simp)
    refine Lib.hid ((diff_any _ _ _ l2 l5).mono ?_)
    rintro e w' ⟨x, y, m, rfl, _, p2, _, _, _, p6, p7, p8, p9⟩
    have hdl : diffP (tus [⟨some ⟨w.heap.size, 0, none⟩, [1], 1⟩, ⟨some ⟨w.heap.size + 1, 0, none⟩, [2], 1⟩]) (tus [⟨some ⟨w.heap.size + 1 + 1 + 1, 0, none⟩, [2], 1⟩, ⟨some ⟨w.heap.size + 1 + 1 + 1 + 1, 0, none⟩, [3], 1⟩]) = (0, [[3]], [[1]]) := diff_lit
    dsimp only at p7 p8
    rw [hdl] at p7 p8 ⊢
    exact ⟨x, y, rfl, p2, p6, p7, p8, hb.trans (lower p9 hb.size)⟩
  have HT : Hid (∀ W, Below w.heap.size w W → Calls Try.prog 29 #[.agg #[.slice (some ⟨W.heap.size + 1, 0, none⟩) 1 1, .slice none 0 0], .agg #[.slice (some ⟨W.heap.size + 1 + 1 + 1, 0, none⟩) 1 1, .slice (some ⟨W.heap.size + 1 + 1 + 1 + 1 + 1, 0, none⟩) 1 1]]
    ((((((W.alloc (.cells #[.int .i64 3] 3)).alloc (.cells #[.slice (some ⟨W.heap.size, 0, none⟩) 1 1] 24)).alloc (.cells #[.int .i64 4] 3)).alloc (.cells #[.slice (some ⟨W.heap.size + 1 + 1, 0, none⟩) 1 1] 24)).alloc (.cells #[.int .i64 3] 3)).alloc (.cells #[.slice (some ⟨W.heap.size + 1 + 1 + 1 + 1, 0, none⟩) 1 1] 24))
    fun e w' => ∃ x y : LV, e = .returned (.tuple #[.agg #[.slice x.A x.ts.length x.c, .slice y.A y.ts.length y.c], .int .i64 0]) ∧ x.Ok w' ∧ y.Ok w' ∧ tus x.ts = [[4]] ∧ tus y.ts = [] ∧ Below W.heap.size W w') := by
    refine Lib.hid fun W hW => ?_
    obtain ⟨h0, h1, h2, h3, h4, h5, hb⟩ := at6 W (.cells #[.int .i64 3] 3) (.cells #[.slice (some ⟨W.heap.size, 0, none⟩) 1 1] 24) (.cells #[.int .i64 4] 3) (.cells #[.slice (some ⟨W.heap.size + 1 + 1, 0, none⟩) 1 1] 24) (.cells #[.int .i64 3] 3) (.cells #[.slice (some ⟨W.heap.size + 1 + 1 + 1 + 1, 0, none⟩) 1 1] 24)
    have l1 := lv_lit (ts := [⟨some ⟨W.heap.size, 0, none⟩, [3], 1⟩]) h1 (fun t ht => by rw [List.mem_singleton.1 ht]; exact tv_lit (l := [3]) h0 (by simp)) (by simp)
    have l3 := lv_lit (ts := [⟨some ⟨W.heap.size + 1 + 1, 0, none⟩, [4], 1⟩]) h3 (fun t ht => by rw [List.mem_singleton.1 ht]; exact tv_lit (l := [4]) h2 (by simp)) (by simp)
    have l5 := lv_lit (ts := [⟨some ⟨W.heap.size + 1 + 1 + 1 + 1, 0, none⟩, [3], 1⟩]) h5 (fun t ht => by rw [List.mem_singleton.1 ht]; exact tv_lit (l := [3]) h4 (by simp)) (by simp)
    refine (then_any _ nilL _ _ _ l1 (nil_ok _) l3 l5 (by simp) (by simp [nilL])).mono ?_
    rintro e w' ⟨x, y, m, rfl, _, p2, _, _, _, p6, p7, p8, p9⟩
    have hdl : thenP (tus [⟨some ⟨W.heap.size, 0, none⟩, [3], 1⟩]) (tus nilL.ts) (tus [⟨some ⟨W.heap.size + 1 + 1, 0, none⟩, [4], 1⟩]) (tus [⟨some ⟨W.heap.size + 1 + 1 + 1 + 1, 0, none⟩, [3], 1⟩]) = (0, [[4]], []) := then_lit
    dsimp only at p7 p8
    rw [hdl] at p7 p8 ⊢
    exact ⟨x, y, rfl, p2, p6, p7, p8, hb.trans (lower p9 hb.size)⟩
  go_enter Try.func9, Try.ntmps9
  go_upto_region 2 with (go_at_call 22; (with_reducible refine HD.out.mono ?_); rintro e w7 ⟨x7, y7, rfl, p1, p2, p3, p4, p5⟩; have E7 := Lib.hid (And.intro p1 (And.intro p2 (And.intro p3 (And.intro p4 p5)))); clear p1 p2 p3 p4 p5 HD)
  have g8 : (w7.alloc (.cells #[.slice x7.A x7.ts.length x7.c, .slice y7.A y7.ts.length y7.c] 35)).heap[w7.heap.size]? = some (.cells #[.slice x7.A x7.ts.length x7.c, .slice y7.A y7.ts.length y7.c] 35 (0, 0)) := newA rfl
  have b8 : Below w7.heap.size w7 (w7.alloc (.cells #[.slice x7.A x7.ts.length x7.c, .slice y7.A y7.ts.length y7.c] 35)) := (Below.refl _ _).alloc (Nat.le_refl _) _
  obtain ⟨w8, hw8⟩ : ∃ w8, w8 = w7.alloc (.cells #[.slice x7.A x7.ts.length x7.c, .slice y7.A y7.ts.length y7.c] 35) := ⟨_, rfl⟩
  rw [← hw8] at g8 b8 ⊢
  clear hw8
  have q8 := E7.out.1.below b8
  have q8' := E7.out.2.1.below b8
  obtain ⟨bx, ox, bx', ox', cx', eA, eL, hbx, hbx', k1, k2⟩ := one_num q8 E7.out.2.2.1
  obtain ⟨_, _, _, _, _, _, eL', _⟩ := one_num q8' E7.out.2.2.2.1
  rw [eA, eL, eL'] at g8 ⊢
  have H8 := Lib.hid (And.intro g8 (And.intro (E7.out.2.2.2.2.trans (lower b8 E7.out.2.2.2.2.size)) (And.intro hbx (And.intro hbx' (And.intro k1 k2)))))
  have HT8 := Lib.hid (HT.out w8 H8.out.2.1)
  clear g8 b8 q8 q8' eA eL eL' hbx hbx' k1 k2 HT E7
  go_upto_region 3 with (go_at_call 29; (with_reducible refine HT8.out.mono ?_); rintro e w9 ⟨x9, y9, rfl, p1, p2, p3, p4, p5⟩; have E9 := Lib.hid (And.intro p1 (And.intro p2 (And.intro p3 (And.intro p4 p5)))); clear p1 p2 p3 p4 p5 HT8)
  have g10 : (w9.alloc (.cells #[.slice x9.A x9.ts.length x9.c, .slice y9.A y9.ts.length y9.c] 35)).heap[w9.heap.size]? = some (.cells #[.slice x9.A x9.ts.length x9.c, .slice y9.A y9.ts.length y9.c] 35 (0, 0)) := newA rfl
  have b10 : Below w9.heap.size w9 (w9.alloc (.cells #[.slice x9.A x9.ts.length x9.c, .slice y9.A y9.ts.length y9.c] 35)) := (Below.refl _ _).alloc (Nat.le_refl _) _
  obtain ⟨w10, hw10⟩ : ∃ w10, w10 = w9.alloc (.cells #[.slice x9.A x9.ts.length x9.c, .slice y9.A y9.ts.length y9.c] 35) := ⟨_, rfl⟩
  rw [← hw10] at g10 b10 ⊢
  clear hw10
  have q10 := E9.out.1.below b10
  obtain ⟨cx, px, cx', px', dx', fA, fL, _, _, j1, j2⟩ := one_num q10 E9.out.2.2.1
  have fL' : y9.ts.length = 0 := by have := congrArg List.length E9.out.2.2.2.1; rw [tus_len] at this; exact this
  rw [fA, fL, fL'] at g10 ⊢
  have b8' : Below w8.heap.size w8 w10 := E9.out.2.2.2.2.trans (lower b10 E9.out.2.2.2.2.size)
  have g8' := (b8'.block _ (heap_lt H8.out.1)).trans H8.out.1
  have i0 := cell_of_row w10 _ 0 _ _ _ g8'
  have i1 := cell_of_row w10 _ 1 _ _ _ g8'
  have i2 : w10.cell? ⟨bx, ox, none⟩ = _ := (b8'.cell (p := ⟨bx, ox, none⟩) H8.out.2.2.1).trans H8.out.2.2.2.2.1
  have i3 : w10.cell? ⟨bx', ox', none⟩ = _ := (b8'.cell (p := ⟨bx', ox', none⟩) H8.out.2.2.2.1).trans H8.out.2.2.2.2.2
  have i4 := cell_of_row w10 _ 0 _ _ _ g10
  have i5 := cell_of_row w10 _ 1 _ _ _ g10
  have HB := Lib.hid (H8.out.2.1.trans (lower b8' H8.out.2.1.size))
  clear g8' b8' g10 b10 q10 fA fL fL' H8 E9
  go_wp2_with (fail)
  go_ret
  exact ⟨rfl, HB.out⟩
end Go.Proofs.Ytpfkkmfhafejfaa
