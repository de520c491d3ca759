/- span.parts. -/
import Derived.Test.YtgjjdmkoamjdpaaSpLH
import Derived.Test.YtgjjdmkoamjdpaaSpLC
import Derived.Test.YtgjjdmkoamjdpaaQuR
namespace Go.Proofs.Ytgjjdmkoamjdpaa
open Go.RowKit Go.Maps Go.Sort Go.Shelf
attribute [local go_sem] Oper.semAt_some

/-- Between two rounds. -/
structure PaI (x : RV) (lo : Nat) (W5 : World) (gu uc : Nat) (L : List Nat) (pre : List (Fin (intsP L).length)) (W : World) : Prop where
  row : ∃ P : List Int, OwnI W lo ⟨some ⟨gu, 0, none⟩, P, uc⟩ ∧ P.length = x.N.length ∧ (pre = firstsN _ pre.length → PartAt (plR x.o.ts) x.N.length L (x.N.length - pre.length) P)
  fr : Fr W5 W [gu]
theorem fr_rowT {W W' : World} {row : Option Nat} (hg : W.grownBy W' row) : Fr W W' row.toList :=
  ⟨hg.os, hg.tape, hg.output, hg.size, fun k hk hs => hg.block k hk fun e => hs (by rw [← e]; simp)⟩
theorem PaI.grown {x : RV} {lo : Nat} {W5 : World} {gu uc : Nat} {L : List Nat} {pre : List (Fin (intsP L).length)} {W W' : World} {row : Option Nat} (h : PaI x lo W5 gu uc L pre W) (hg : W.grownBy W' row) (hgu : gu < W5.heap.size) (hr : ∀ r, row = some r → W5.heap.size ≤ r) : PaI x lo W5 gu uc L pre W' := by
  obtain ⟨P, h1, h2, h3⟩ := h.row
  refine ⟨⟨P, h1.fr (fr_rowT hg) (fun a ha hm => ?_), h2, h3⟩, h.fr.more (fr_rowT hg) fun s hs => .inr (hr s (by simpa using hs))⟩
  injection ha with ha
  rw [← ha] at hm
  have := hr gu (by simpa using hm)
  omega
theorem kpR_put {Bs g n l : Nat} {W : World} {o' : Obj} (h1 : Bs ≠ l) (h2 : 0 < n → g ≠ l) : KpR Bs g n W (W.putObj l o') :=
  ⟨World.cell?_of_block (World.putObj_heap_other h1), fun _ hj => World.cell?_of_block (World.putObj_heap_other (h2 (by omega)))⟩
theorem keeps_frT {B : Nat} {W W' : World} {S : List Nat} (hf : Fr W W' S) (hS : ∀ s ∈ S, s < B) : KeepsFrom B W W' :=
  ⟨hf.size, fun k o hB hk _ => (hf.block k (heap_lt hk) (fun h => by have := hS k h; omega)).trans hk⟩
theorem kpR_fr {Bs g n : Nat} {W W' : World} {S : List Nat} (hf : Fr W W' S) (h1 : Bs < W.heap.size) (h2 : 0 < n → g < W.heap.size) (h3 : Bs ∉ S) (h4 : 0 < n → g ∉ S) : KpR Bs g n W W' :=
  ⟨World.cell?_of_block (hf.block Bs h1 h3), fun _ hj => World.cell?_of_block (hf.block g (h2 (by omega)) (h4 (by omega)))⟩
/-- A round that is the next. -/
theorem next_in {n : Nat} {pre : List (Fin n)} {y : Fin n} (h : pre ++ [y] = firstsN n (pre ++ [y]).length) : pre = firstsN n pre.length ∧ y.1 = pre.length := by
  rw [List.length_append, List.length_singleton] at h
  have hl : pre.length < n := by
    have h1 := congrArg List.length h
    rw [List.length_append, List.length_singleton] at h1
    unfold firstsN at h1
    rw [List.length_take, List.length_finRange] at h1
    omega
  rw [firstsN_succ n _ hl] at h
  obtain ⟨h1, h2⟩ := List.append_inj' h rfl
  exact ⟨h1, by injection h2 with h2; rw [h2]⟩
theorem resParts {w : World} {v : Value} (tmps : Array Value) (h2 : tmps.getD 2 undef = v) : (results Try.f33 tmps).run Try.prog w = .ok v w := by
  have h2' := h2
  simp only [Array.getD_eq_getD_getElem?] at h2'
  simp [results, Try.results33, go_sem, h2']
/-- What parts answers. -/
def PrPost (x : RV) (w : World) (e : Ending) (w' : World) : Prop := ∃ u : TV, e = .returned (.slice u.A u.l.length u.c) ∧ u.l.length = x.N.length ∧ OwnI w' w.heap.size u ∧ (∀ p q, p < x.N.length → q < x.N.length → (u.l.getD p (-1) = u.l.getD q (-1) ↔ p = q ∨ Lead (AtR (plR x.o.ts)) p q ∧ Lead (AtR (plR x.o.ts)) q p)) ∧ (∀ p, p < x.N.length → ∃ r : Nat, u.l.getD p (-1) = (r : Int) ∧ r < x.N.length) ∧ Below w.heap.size w w'
theorem LeftOk.len {O : Rows} {n : Nat} {L : List Nat} (h : LeftOk O n L) : L.length = n := by
  have h1 := nodup_len (m := List.range n) h.nodup fun x hx => List.mem_range.2 ((h.mem x).1 hx)
  have h2 := nodup_len (m := L) List.nodup_range fun x hx => (h.mem x).2 (List.mem_range.1 hx)
  rw [List.length_range] at h1 h2
  omega
set_option maxRecDepth 100000 in
set_option maxHeartbeats 8000000 in
theorem parts_some (x : RV) (E : List Pr) (w : World) (hx : x.Ok w) (hr : Rdy x E) (h0 : 0 < x.N.length) : Calls Try.prog 33 #[.agg (rvA x)] w (PrPost x w) := by
  have hb1 : Below w.heap.size w (w.alloc (.cells (rvA x) 43)) := (Below.refl _ _).alloc (Nat.le_refl _) _
  have hg1 := heap_alloc_new w (.cells (rvA x) 43)
  have hun := unknown_any x _ (hx.below hb1)
  have hnl := hr.nl
  have hlf := fun W (hW : Below w.heap.size w W) => left_any x E W (hx.below hW) hr
  unfold rvA at hb1 hg1 hun hlf ⊢
  have q0 := bx3 hg1
  have HLF := Lib.hid hlf
  have HUN := Lib.hid hun
  have HB := Lib.hid (And.intro hb1 hg1)
  have HX := Lib.hid (And.intro hx hr)
  clear hx hr hb1 hg1 hun hlf
  refine (callsIn_wide (n := 5)).1 ?_
  have h1 : 1 ≤ 5 := by omega
  refine callsIn_of_wp_marks Try.func33 rfl trivial ?_ rfl
  simp only [Try.ntmps33, List.size_toArray, List.length_cons, List.length_nil, Nat.reduceAdd, Nat.reduceSub, Array.replicate_succ, Array.replicate_zero, List.push_toArray, List.append_toArray, List.nil_append, List.cons_append]
  obtain ⟨q0, q1, q2⟩ := q0
  gi_wp2_with (first
    | (refine ⟨trivial, ?_⟩; gi_at_call 26; refine (callsIn_wide.2 HUN.out).mono ?_; rintro e w2 ⟨⟨sA, sl, sc⟩, rfl, h2, o2, b2⟩; dsimp only at h2; subst h2; have H2 := Lib.hid (And.intro o2 (And.intro (HB.out.1.trans (lower' b2 HB.out.1.size)) ((b2.block w.heap.size (by simp)).trans HB.out.2))); clear o2 b2 q0 q1 q2; have hbW : Below w2.heap.size w2 (w2.alloc (.cells #[.slice sA (List.replicate x.N.length (-1 : Int)).length sc] 25)) := (Below.refl _ _).alloc (Nat.le_refl _) _; rw [List.length_replicate] at hbW; have hbox3 := (hbW.block w.heap.size (heap_lt H2.out.2.2)).trans H2.out.2.2; obtain ⟨q0, q1, q2⟩ := bx3 hbox3; have hnew := heap_alloc_new w2 (.cells #[.slice sA x.N.length sc] 25); have hlf := HLF.out _ (H2.out.2.1.trans (lower' hbW H2.out.2.1.size)); have HL := Lib.hid hlf; have H3 := Lib.hid (And.intro hbW (And.intro hbox3 hnew)); clear hbW hbox3 hnew hlf)
    | (refine ⟨trivial, ?_⟩; gi_at_call 43; refine (callsIn_wide.2 HL.out).mono ?_; rintro e w4 ⟨lA, lc, L, rfl, hL4, oL4, b4⟩; have H4 := Lib.hid (And.intro hL4 (And.intro oL4 b4)); clear hL4 oL4 b4 q0 q1 q2 HL)
    | (refine ⟨trivial, ?_⟩; gi_at_call 42; refine (back_in Fence.wide (5 - 1) trivial rfl _ _ _ _).mono ?_; rintro e W5 ⟨rfl, hW5⟩))
  have hLn := H4.out.1.len
  obtain ⟨gu, cur, hsA, hgl, hgw, _⟩ := OwnI.blk H2.out.1 (by dsimp only; rw [List.length_replicate]; omega)
  dsimp only at hsA
  subst hsA
  obtain ⟨gL, curL, hlA, hll, hlw, _⟩ := OwnI.blk H4.out.2.1 (by dsimp only; rw [intsP_len]; omega)
  dsimp only at hlA
  subst hlA
  have hnI : (intsP L).length = x.N.length := by rw [intsP_len]; exact hLn
  have z1 : w.heap.size < w2.heap.size := heap_lt H2.out.2.2
  have z2 : (w2.alloc (.cells #[.slice (some ⟨gu, 0, none⟩) x.N.length sc] 25)).heap.size = w2.heap.size + 1 := alloc1_size _ _
  generalize w2.alloc (.cells #[.slice (some ⟨gu, 0, none⟩) x.N.length sc] 25) = W3 at H3 H4 z2 hll
  have b3 := H3.out.1
  have b4 := H4.out.2.2
  have z3 : W3.heap.size ≤ w4.heap.size := b4.size
  have z4 : W5.heap.size = w4.heap.size + 1 := by rw [hW5]; exact alloc1_size _ _
  have z5 : w.heap.size + 1 ≤ gu := by rw [alloc1_size] at hgl; exact hgl
  have b5 : Below w4.heap.size w4 W5 := by rw [hW5]; exact (Below.refl _ _).alloc (Nat.le_refl _) _
  have hbox5 : W5.heap[w.heap.size]? = some (.cells #[.slice x.nA x.N.length x.nc, .slice x.o.A x.o.ts.length x.o.c, .slice x.i.A x.i.ts.length x.i.c] 43 (0, 0)) := (b5.block _ (by omega)).trans ((b4.block _ (by omega)).trans H3.out.2.1)
  have hprt5 : W5.heap[w2.heap.size]? = some (.cells #[.slice (some ⟨gu, 0, none⟩) x.N.length sc] 25 (0, 0)) := (b5.block _ (by omega)).trans ((b4.block _ (by omega)).trans H3.out.2.2)
  have hrow2 : OwnI w2 w.heap.size ⟨some ⟨gu, 0, none⟩, List.replicate x.N.length (-1), sc⟩ := own_mono H2.out.1 (by rw [alloc1_size]; omega)
  have hrow5 := ((hrow2.below b3).below b4).below b5
  have hL5 := H4.out.2.1.below b5
  have gs : W5.cell? ⟨w4.heap.size, 0, none⟩ = some (.slice (some ⟨gL, 0, none⟩) (intsP L).length lc) := by
    have hh : W5.heap[w4.heap.size]? = some (.cells #[.slice (some ⟨gL, 0, none⟩) L.length lc] 25 (0, 0)) := by rw [hW5]; exact heap_alloc_new _ _
    rw [intsP_len]
    exact cell_of_row W5 _ 0 _ _ _ hh
  have hLc : ∀ j (h : j < (intsP L).length), W5.cell? ⟨gL, j, none⟩ = some (.int .i64 (intsP L)[j]) := fun j h => by
    have h1 := World.ownsRow.cellAt hL5 j (by rw [Nat.mul_one]; exact h)
    rw [intsV_at _ _ h] at h1
    exact h1
  have hbel5 : Below w.heap.size w W5 := H2.out.2.1.trans ((lower' b3 (by omega)).trans ((lower' b4 (by omega)).trans (lower' b5 (by omega))))
  have H5 := Lib.hid (And.intro hbox5 (And.intro hprt5 (And.intro hrow5 (And.intro hbel5 H4.out.1))))
  rw [← hW5]
  clear hW5 hbox5 hprt5 hrow2 hrow5 hL5 hbel5 H4 H3 b3 b4 b5 hgl
  refine wpIn_rangeFunc_ownG (α := Fin (intsP L).length) rfl h1 (gf := 60) (lb := #[.pointer (some ⟨w4.heap.size, 0, none⟩)]) rfl trivial (enters_of Try.func60 (by kernel_rfl) rfl)
    (back_stops Fence.wide (5 - 1) trivial rfl (by omega) w4.heap.size gL (some ⟨gL, 0, none⟩) (intsP L) lc (by omega) (fun _ => rfl) W5 (by omega) (fun _ => by omega) gs hLc)
    (fun h k => ⟨k.1.trans h.1, fun j hj => (k.2 j hj).trans (h.2 j hj)⟩) (fun W l o o' hl _ _ _ => kpR_put (by omega) (fun _ => by omega)) (Below.refl _ _) (fun _ => rfl)
    (PaI x w.heap.size W5 gu sc L) (fun c pre W => False)
    (fun pre W W' row hs hg hr => hs.grown hg (by omega) (fun r e => by have := (hr r e).1; omega))
    (fun c pre W W' row hs hg hr => hs)
    ?h0 (fun y => { tmps := #[.agg #[.slice x.nA x.N.length x.nc, .slice x.o.A x.o.ts.length x.o.c, .slice x.i.A x.i.ts.length x.i.c], .pointer (some ⟨w.heap.size, 0, none⟩), .slice none 0 0, .pointer (some ⟨w2.heap.size, 0, none⟩), undef, .int .i64 (backN (intsP L) y.1), undef, undef, undef, undef, .agg #[.slice x.nA x.N.length x.nc, .slice x.o.A x.o.ts.length x.o.c, .slice x.i.A x.i.ts.length x.i.c], .slice (some ⟨gu, 0, none⟩) x.N.length sc, .agg #[.slice x.nA x.N.length x.nc, .slice x.o.A x.o.ts.length x.o.c, .slice x.i.A x.i.ts.length x.i.c], .slice (some ⟨gL, 0, none⟩) L.length lc, .func (.func 60) #[] #[.pointer (some ⟨w4.heap.size, 0, none⟩)], .int .i64 (backI (intsP L) y.1), .int .i64 (backN (intsP L) y.1), undef, undef, undef, undef, undef, undef, undef, undef, undef, undef, undef, undef, undef, undef, undef, undef, undef, undef, undef, undef, undef, undef, undef, undef, undef, undef, undef, undef, undef, undef, undef, undef, undef, undef, undef, undef, undef, undef, undef, undef, undef, undef, undef, undef, undef], defers := [] }) ?assign ?body ?done ?stop
  case h0 =>
    exact ⟨⟨_, H5.out.2.2.1, List.length_replicate .., fun _ => by have h1 := PartAt.start (O := plR x.o.ts) hLn; rw [hLn] at h1; exact h1⟩, Fr.refl _ _⟩
  case assign =>
    intro l y W K hK
    unfold backV
    clear hLn hnI
    gi_wp2
    exact hK
  case body =>
    rintro l pre y W hI hlen
    obtain ⟨P, hrow, hPl, hord⟩ := hI.row
    have hfr := hI.fr
    have hyn : y.1 < x.N.length := by have := y.2; omega
    obtain ⟨t, ht⟩ : ∃ t, t = L[L.length - 1 - y.1]'(by omega) := ⟨_, rfl⟩
    have htn : t < x.N.length := by rw [ht]; exact (H5.out.2.2.2.2.mem _).1 (List.getElem_mem _)
    have hbv : backN (intsP L) y.1 = (t : Int) := by
      unfold backN
      rw [List.getD_eq_getElem?_getD, List.getElem?_eq_getElem (by omega), Option.getD_some, ht]
      simp only [intsP_len]
      exact intsP_at _
    rw [hbv]
    have hpw : W5.heap.size ≤ W.heap.size := hfr.size
    have hboxW := (hfr.block _ (by omega) (by simp; omega)).trans H5.out.1
    have hprtW := (hfr.block _ (by omega) (by simp; omega)).trans H5.out.2.1
    have c1 : W.cell? ⟨w2.heap.size, 0, none⟩ = some (.slice (some ⟨gu, 0, none⟩) x.N.length sc) := cell_of_row W _ 0 _ _ _ hprtW
    obtain ⟨s0, s1, s2, s3, s4, s5⟩ := OwnI.setAt hrow (g := gu) rfl (p := t) (by dsimp only; omega) (t : Int)
    dsimp only at s0 s1 s2
    have htI : (t : Int) < (x.N.length : Int) := by omega
    have hgt : P.getD t (-1) = P[t]'(by omega) := by rw [List.getD_eq_getElem?_getD, List.getElem?_eq_getElem (by omega)]; rfl
    by_cases hpos : 0 ≤ P[t]'(by omega)
    · have HN := Lib.hid (show KeepsFrom W5.heap.size W W ∧ KpR w4.heap.size gL (intsP L).length W W ∧ PaI x w.heap.size W5 gu sc L (pre ++ [y]) W from
        ⟨KeepsFrom.refl _ _, ⟨rfl, fun _ _ => rfl⟩, ⟨⟨P, hrow, hPl, fun ho => by
          obtain ⟨h1, h2⟩ := next_in ho
          rw [List.length_append, List.length_singleton]
          have h3 := hord h1
          have h4 : x.N.length - pre.length = x.N.length - (pre.length + 1) + 1 := by omega
          rw [h4] at h3
          have hLt : L[x.N.length - (pre.length + 1)]'(by omega) = t := by subst ht; congr 1; omega
          exact h3.skip (by omega) (by rw [hLt, hgt]; exact hpos)⟩, hfr⟩⟩)
      generalize P[t]'(by omega) = pv at s0 hpos hgt
      clear hI hord hrow hfr hboxW hprtW s2 s3 s4 s5 ht hbv hgt gs hLc hnI hLn z2 z4
      gi_wp2
      exact HN.out
    · have hneg : P[t]'(by omega) < 0 := by omega
      have hgr := Grow.start (plR x.o.ts) hPl htn (by rw [hgt]; exact hneg)
      generalize P[t]'(by omega) = pv at s0 hpos hgt hneg
      have hsz : (W.setCell ⟨gu, t, none⟩ (.int .i64 (t : Int))).heap.size = W.heap.size := by simp
      have hbA : Below W.heap.size (W.setCell ⟨gu, t, none⟩ (.int .i64 (t : Int))) ((W.setCell ⟨gu, t, none⟩ (.int .i64 (t : Int))).alloc (.cells #[.int .i64 (t : Int)] 3)) := (Below.refl _ _).alloc (Nat.le_of_eq hsz.symm) _
      have hfd : OwnI ((W.setCell ⟨gu, t, none⟩ (.int .i64 (t : Int))).alloc (.cells #[.int .i64 (t : Int)] 3)) W.heap.size ⟨some ⟨W.heap.size, 0, none⟩, intsP [t], 1⟩ := own_heap (l := [(t : Int)]) (by rw [← hsz]; exact heap_alloc_new _ _) (Nat.le_refl _) (by show 1 ≤ 5000; omega)
      have hfA : Fr W ((W.setCell ⟨gu, t, none⟩ (.int .i64 (t : Int))).alloc (.cells #[.int .i64 (t : Int)] 3)) [gu] := s3.alloc _
      have HIN := Lib.hid (And.intro hfd (And.intro (OwnI.below s2 ((Below.refl _ _).alloc (Nat.le_refl _) (.cells #[.int .i64 (t : Int)] 3))) (And.intro hgr hfA)))
      have hWgu : gu < W.heap.size := by omega
      have hroads : ∀ p q, AtR (plR x.o.ts) p q → p < x.N.length ∧ q < x.N.length := fun p q h => ⟨((HX.out.2.roads.out p q).1 h).1, ((HX.out.2.roads.out p q).1 h).2.1⟩
      have HBW := Lib.hid (And.intro hfr (And.intro hpw (And.intro hWgu (And.intro (show ∀ W', Fr W W' [gu] → Below w.heap.size w W' from fun W' h => H5.out.2.2.2.1.trans ((hfr.trans h).below (by omega) (fun s hs => by rw [List.mem_singleton.1 hs]; omega))) (And.intro (show ∀ W', Fr W W' [gu] → W'.heap[w.heap.size]? = some (.cells #[.slice x.nA x.N.length x.nc, .slice x.o.A x.o.ts.length x.o.c, .slice x.i.A x.i.ts.length x.i.c] 43 (0, 0)) from fun W' h => (h.block _ (heap_lt hboxW) (by simp; omega)).trans hboxW) (And.intro (show ∀ W', Fr W W' [gu] → W'.cell? ⟨w2.heap.size, 0, none⟩ = some (.slice (some ⟨gu, 0, none⟩) x.N.length sc) from fun W' h => cell_of_row W' _ 0 _ _ _ ((h.block _ (heap_lt hprtW) (by simp; omega)).trans hprtW)) hroads))))))
      have HORD := Lib.hid (show ∀ Q B i, Grow (plR x.o.ts) x.N.length t P B Q i → B.length ≤ i → pre ++ [y] = firstsN _ (pre ++ [y]).length → PartAt (plR x.o.ts) x.N.length L (x.N.length - (pre ++ [y]).length) Q from fun Q B i hg hi ho => by
        obtain ⟨h1, h2⟩ := next_in ho
        rw [List.length_append, List.length_singleton]
        have h3 := hord h1
        have h4 : x.N.length - pre.length = x.N.length - (pre.length + 1) + 1 := by omega
        rw [h4] at h3
        have hLt : L[x.N.length - (pre.length + 1)]'(by omega) = t := by subst ht; congr 1; omega
        exact Grow.fin H5.out.2.2.2.2 (by omega) h3 (by rw [hLt]; exact hg) hi hroads)
      have HSZ := Lib.hid (And.intro z1 (And.intro z2 (And.intro z3 (And.intro z4 (And.intro z5 (And.intro hgw (And.intro hll (And.intro hlw (And.intro hnI hLn)))))))))
      clear hI hord hrow hfr hboxW hprtW s2 s3 s4 s5 ht hbv hgt hfd hbA hfA hgr hroads gs hLc hnI hLn z2 z3 z4 z5 z1 hpw hll hlw hgw hPl hlen hyn hWgu
      gi_upto_region 7 with (fail)
      generalize ((W.setCell ⟨gu, t, none⟩ (.int .i64 (t : Int))).alloc (.cells #[.int .i64 (t : Int)] 3)) = w1 at HIN ⊢
      clear s0 s1 hsz c1 hpos hneg
      gi_wp2
      gi_loopw [6, 7] (fun v6 v7 wr => ∃ (i g c : Nat) (G : List Nat) (D : List Int), i ≤ G.length ∧ G.length ≤ x.N.length ∧ v6 = .slice (some ⟨g, 0, none⟩) G.length c ∧ v7 = .int .i64 (i : Int) ∧ Hid (OwnI wr W.heap.size ⟨some ⟨g, 0, none⟩, intsP G, c⟩ ∧ OwnI wr w.heap.size ⟨some ⟨gu, 0, none⟩, D, sc⟩ ∧ Grow (plR x.o.ts) x.N.length t P G D i ∧ Fr W wr [gu])) (fun _ v7 _ => x.N.length - (intOf v7).toNat)
      case atStart => exact ⟨0, W.heap.size, 1, [t], P.set t (t : Int), by omega, by simp; omega, rfl, rfl, HIN⟩
      case round =>
        clear HIN
        obtain ⟨i, g, c, G, D, hi, hGn, rfl, rfl, hrel⟩ := hrel
        by_cases hlt : i < G.length
        · have hlI : (i : Int) < (G.length : Int) := by omega
          obtain ⟨p, hp⟩ : ∃ p, p = G.getD i t := ⟨_, rfl⟩
          have hpm : p ∈ G := hp ▸ getD_mem hlt t
          have hpn : p < x.N.length := (hrel.out.2.2.1.bnd p hpm).1
          have hpo : p < x.i.ts.length := by rw [HX.out.2.il]; exact hpn
          have hbw := HBW.out.2.2.2.1 _ hrel.out.2.2.2
          have hxw := HX.out.1.below hbw
          obtain ⟨-, -, d2⟩ := bx3 (HBW.out.2.2.2.2.1 _ hrel.out.2.2.2)
          obtain ⟨ob, oo, hoA, _, r0⟩ := LV.Ok.cel hxw.i hpo
          rw [hoA] at d2
          obtain ⟨eb, eo, heA, _, e0⟩ := (OwnI.ok hrel.out.1 (by dsimp only; rw [intsP_len]; omega)).cell (k := i) (by dsimp only; rw [intsP_len]; exact hlt)
          dsimp only at heA e0
          injection heA with heA
          injection heA with e8 e9
          subst e8 e9
          rw [Nat.zero_add, intsP_at hlt, show G[i] = p from by rw [hp, List.getD_eq_getElem?_getD, List.getElem?_eq_getElem hlt]; rfl] at e0
          have hat := fun q => atR_int hpo HX.out.2.pi q
          have htb := HX.out.2.pi _ (List.getElem_mem hpo)
          have hto := fun W' (hW : Below w.heap.size w W') => LV.Ok.att (HX.out.1.below hW).i hpo
          generalize x.i.ts[p] = u at r0 hat htb hto
          have htl : u.l.length ≤ 5000 := (hto _ hbw).sm
          have hpI : (p : Int) < (x.i.ts.length : Int) := by omega
          have HP := Lib.hid (And.intro hp (And.intro hpm (And.intro hat (And.intro htb hto))))
          have HR := Lib.hid hrel.out
          clear hp hpm hpo hbw hxw hoA hat htb hto hrel
          gi_upto_region 10 with (fail)
          refine wpIn_region_quiet_litR (by kernel_rfl) (by kernel_rfl) (by kernel_rfl) ?_
          repeat (gi_big_quiet_step (fail))
          refine wpQuietIn_nil ?_
          rintro _ ⟨nq, rfl⟩
          have HR2 := Lib.hid (And.intro (OwnI.below HR.out.1 (Below.drewN' (Below.refl _ _) nq)) (And.intro (OwnI.below HR.out.2.1 (Below.drewN' (Below.refl _ _) nq)) (And.intro HR.out.2.2.1 (HR.out.2.2.2.drewN nq))))
          generalize wr.drewN nq = wa at HR2 ⊢
          clear HR d2 r0 e0 hpI
          gi_wp2
          gi_loopw [6, 43] (fun v6 v43 wq => ∃ (j g c : Nat) (G : List Nat) (D : List Int), j ≤ u.l.length ∧ i < G.length ∧ G.length ≤ x.N.length ∧ v43 = .int .i64 (j : Int) ∧ v6 = .slice (some ⟨g, 0, none⟩) G.length c ∧ Hid (OwnI wq W.heap.size ⟨some ⟨g, 0, none⟩, intsP G, c⟩ ∧ OwnI wq w.heap.size ⟨some ⟨gu, 0, none⟩, D, sc⟩ ∧ Grow (plR x.o.ts) x.N.length t P G D i ∧ Fr W wq [gu] ∧ p = G.getD i t ∧ ∀ q : Nat, (q : Int) ∈ u.l.take j → q < x.N.length → ¬ D.getD q (-1) < 0)) (fun _ v43 _ => u.l.length - (intOf v43).toNat)
          case atStart => exact ⟨0, g, c, G, D, by omega, hlt, hGn, rfl, rfl, Lib.hid ⟨HR2.out.1, HR2.out.2.1, HR2.out.2.2.1, HR2.out.2.2.2, HP.out.1, fun q hq => by simp at hq⟩⟩
          case round =>
            clear HR2
            obtain ⟨j, g, c, G, D, hj, hiG, hGn, rfl, rfl, hrel⟩ := hrel
            rename World => wq
            by_cases hjt : j < u.l.length
            · have hjI : (j : Int) < (u.l.length : Int) := by omega
              have htb := HP.out.2.2.2.1 _ (List.getElem_mem hjt)
              obtain ⟨q, hq⟩ : ∃ q : Nat, u.l[j] = (q : Int) := ⟨u.l[j].toNat, by omega⟩
              have hqn : q < x.N.length := by omega
              have hqI : (q : Int) < (x.N.length : Int) := by omega
              have htk : u.l.take (j + 1) = u.l.take j ++ [(q : Int)] := by rw [List.take_succ_eq_append_getElem hjt, hq]
              have hAt : AtR (plR x.o.ts) q p := (HX.out.2.roads.inn q p).1 ((HP.out.2.2.1 q).2 (by rw [← hq]; exact List.getElem_mem hjt))
              obtain ⟨tb, tof, htA, _, t0⟩ := (HP.out.2.2.2.2 _ (HBW.out.2.2.2.1 _ hrel.out.2.2.2.1)).cell hjt
              rw [hq] at t0
              rw [htA]
              have c1 := HBW.out.2.2.2.2.2.1 _ hrel.out.2.2.2.1
              have hDl := hrel.out.2.2.1.len
              have hqs : q < D.length := by rw [hDl]; exact hqn
              have hgq : D.getD q (-1) = D[q] := by rw [List.getD_eq_getElem?_getD, List.getElem?_eq_getElem hqs]; rfl
              obtain ⟨s0, s1, s2, s3, s4, s5⟩ := OwnI.setAt hrel.out.2.1 (g := gu) rfl (p := q) hqs (t : Int)
              dsimp only at s0 s1 s2
              by_cases hqG : D[q] < 0
              · have hadd := hrel.out.2.2.1.add (by omega) (show p ∈ G from by rw [hrel.out.2.2.2.2.1]; exact getD_mem hiG t) hAt hqn (by rw [hgq]; exact hqG)
                have hge := (OwnI.lo hrel.out.1 _ rfl).1
                dsimp only at hge
                have hgne : g ≠ gu := by have := HBW.out.2.2.1; omega
                have hfd := OwnI.fr hrel.out.1 s3 (fun a ha hm => by injection ha with ha; rw [← ha] at hm; exact hgne (List.mem_singleton.1 hm))
                have hwle : W.heap.size ≤ (wq.setCell ⟨gu, q, none⟩ (.int .i64 (t : Int))).heap.size := Nat.le_trans hrel.out.2.2.2.1.size s3.size
                obtain ⟨v, w5, hrun, hul, hou, hfr, _, hb5⟩ := run_appN (wq.setCell ⟨gu, q, none⟩ (.int .i64 (t : Int))) W.heap.size ⟨some ⟨g, 0, none⟩, intsP G, c⟩ [(q : Int)] hfd hwle (by dsimp only; rw [intsP_len]; simp; omega)
                obtain ⟨g', cur', huA, _⟩ := hou.blk (by rw [hul]; simp)
                obtain ⟨uA, ul, uc⟩ := v
                dsimp only at hul huA hrun
                subst hul huA
                have hb1 : Below (wq.setCell ⟨gu, q, none⟩ (.int .i64 (t : Int))).heap.size (wq.setCell ⟨gu, q, none⟩ (.int .i64 (t : Int))) ((wq.setCell ⟨gu, q, none⟩ (.int .i64 (t : Int))).alloc (.cells #[.int .i64 (q : Int)] 3)) := (Below.refl _ _).alloc (Nat.le_refl _) _
                have hf5 : Fr (wq.setCell ⟨gu, q, none⟩ (.int .i64 (t : Int))) w5 [g] := (Fr.of_below hb1 _).trans hfr
                have hs5 := OwnI.fr s2 hf5 (fun a ha hm => by injection ha with ha; rw [← ha] at hm; exact hgne (List.mem_singleton.1 hm).symm)
                obtain ⟨G', hG'⟩ : ∃ G', G' = G ++ [q] := ⟨_, rfl⟩
                have eF : intsP G ++ [(q : Int)] = intsP G' := by rw [hG']; simp [intsP]
                have hGl : G'.length = G.length + 1 := by rw [hG', List.length_append]; rfl
                rw [eF] at hrun hou
                rw [intsP_len, intsP_len] at hrun
                simp only [hGl] at hrun
                have hszs : (wq.setCell ⟨gu, q, none⟩ (.int .i64 (t : Int))).heap.size = wq.heap.size := by simp
                have hrun : (Builtin.append_ #[25, 25] 25 #[.slice (some ⟨g, 0, none⟩) G.length c, .slice (some ⟨(wq.setCell ⟨gu, q, none⟩ (.int .i64 (t : Int))).heap.size, 0, none⟩) 1 1]).run Try.prog ((wq.setCell ⟨gu, q, none⟩ (.int .i64 (t : Int))).alloc (.cells #[.int .i64 (q : Int)] 3)) = .ok (.slice (some ⟨g', 0, none⟩) (G.length + 1) uc) w5 := hrun
                rw [hszs] at hrun
                rw [← hG'] at hadd
                have hFr5 : Fr W w5 [gu] := (hrel.out.2.2.2.1.trans s3).more hf5 (fun s hs => .inr (by rw [List.mem_singleton.1 hs]; exact hge))
                have HN := Lib.hid (show OwnI w5 W.heap.size ⟨some ⟨g', 0, none⟩, intsP G', uc⟩ ∧ OwnI w5 w.heap.size ⟨some ⟨gu, 0, none⟩, D.set q (t : Int), sc⟩ ∧ Grow (plR x.o.ts) x.N.length t P G' (D.set q (t : Int)) i ∧ Fr W w5 [gu] ∧ p = G'.getD i t ∧ ∀ z : Nat, (z : Int) ∈ u.l.take (j + 1) → z < x.N.length → ¬ (D.set q (t : Int)).getD z (-1) < 0 from ⟨hou, hs5, hadd, hFr5, by
                    rw [hG', List.getD_eq_getElem?_getD, List.getElem?_append_left hiG, ← List.getD_eq_getElem?_getD]
                    exact hrel.out.2.2.2.2.1, fun z hz hzn => by
                    rw [getD_setI hqs]
                    by_cases e : z = q
                    · rw [if_pos e]; omega
                    · rw [if_neg e]
                      rw [htk] at hz
                      rcases List.mem_append.1 hz with hz | hz
                      · exact hrel.out.2.2.2.2.2 z hz hzn
                      · exact absurd (by have := List.mem_singleton.1 hz; omega) e⟩)
                have HGl := Lib.hid (And.intro hGl hadd.size)
                generalize D[q] = sv at s0 hqG
                clear htb hq htk hAt htA hDl hqs hgq s2 s3 s4 s5 hadd hge hgne hfd hwle hou hfr hb5 hb1 hf5 hs5 hG' eF hGl hszs hFr5 hrel
                gi_wp2_with (gi_at_builtin; refine wpListIn_appK _ rfl (.tmp 56) (.tmp 58) 25 rfl rfl _ _ _ _ rfl rfl hrun ?_)
                go_roundw
                case rel => exact ⟨j + 1, g', uc, G', D.set q (t : Int), by omega, by have := HGl.out.1; omega, HGl.out.2, by go_num, by rw [HGl.out.1], HN⟩
                case measure => simp [intOf]; omega
              · have HN := Lib.hid (And.intro hrel.out (show ∀ z : Nat, (z : Int) ∈ u.l.take (j + 1) → z < x.N.length → ¬ D.getD z (-1) < 0 from fun z hz hzn => by
                  rw [htk] at hz
                  rcases List.mem_append.1 hz with hz | hz
                  · exact hrel.out.2.2.2.2.2 z hz hzn
                  · have : z = q := by have := List.mem_singleton.1 hz; omega
                    rw [this, hgq]; exact hqG))
                generalize D[q] = sv at s0 hqG
                clear htb hq htk hAt htA hDl hqs hgq s1 s2 s3 s4 s5 hrel
                gi_wp2
                go_roundw
                case rel => exact ⟨j + 1, g, c, G, D, by omega, hiG, hGn, by go_num, rfl, Lib.hid ⟨HN.out.1.1, HN.out.1.2.1, HN.out.1.2.2.1, HN.out.1.2.2.2.1, HN.out.1.2.2.2.2.1, HN.out.2⟩⟩
                case measure => simp [intOf]; omega
            · have hjI : ¬ (j : Int) < (u.l.length : Int) := by omega
              have hd : ∀ z, AtR (plR x.o.ts) z (G.getD i t) → z < x.N.length → ¬ D.getD z (-1) < 0 := fun z hz hzn => by
                rw [← hrel.out.2.2.2.2.1] at hz
                have h1 := (HP.out.2.2.1 z).1 ((HX.out.2.roads.inn z p).2 hz)
                refine hrel.out.2.2.2.2.2 z ?_ hzn
                rw [List.take_of_length_le (by omega)]
                exact h1
              have HN := Lib.hid (And.intro hrel.out (hrel.out.2.2.1.next hd))
              clear hd hrel
              gi_wp2
              go_roundw
              case rel => exact ⟨i + 1, g, c, G, D, hiG, hGn, rfl, by go_num, Lib.hid ⟨HN.out.1.1, HN.out.1.2.1, HN.out.2, HN.out.1.2.2.2.1⟩⟩
              case measure => simp [intOf]; omega
        · have hlI : ¬ (i : Int) < (G.length : Int) := by omega
          have HF := Lib.hid hrel.out
          have hGi : G.length ≤ i := by omega
          clear hrel
          gi_wp2
          have hfrA : Fr W5 wr [gu] := HBW.out.1.trans HF.out.2.2.2
          have hs := HSZ.out
          refine ⟨keeps_frT HF.out.2.2.2 (fun s hs => by rw [List.mem_singleton.1 hs]; omega), kpR_fr HF.out.2.2.2 (by have := HBW.out.2.1; omega) (fun _ => by have := HBW.out.2.1; omega) (by simp; omega) (fun _ => by simp; omega), ⟨D, HF.out.2.1, HF.out.2.2.1.len, fun ho => HORD.out D G i HF.out.2.2.1 hGi ho⟩, hfrA⟩
  case done =>
    rintro D ys W hD rfl hI hK
    obtain ⟨P, hrow, hPl, hord⟩ := hI.row
    have hfr := hI.fr
    have hprtW := (hfr.block _ (by omega) (by simp; omega)).trans H5.out.2.1
    have c1 : W.cell? ⟨w2.heap.size, 0, none⟩ = some (.slice (some ⟨gu, 0, none⟩) x.N.length sc) := cell_of_row W _ 0 _ _ _ hprtW
    have hpa := hord (by rw [List.length_finRange, firstsN_all])
    rw [List.length_finRange, hnI, Nat.sub_self] at hpa
    have HN := Lib.hid (And.intro hrow (And.intro hPl (And.intro hpa (And.intro hfr (And.intro hK (And.intro hD (And.intro z4 (And.intro hgw (And.intro z3 (And.intro z2 hLn))))))))))
    clear hI hord hrow hfr hprtW hPl hpa gs hLc hnI hLn z2 z4 hK hD
    gi_wp2
    have hx := HN.out
    refine ⟨by simp, .inl ⟨_, _, rfl, run_takeDeferred hx.2.2.2.2.1, ?_⟩⟩
    have hf8 : Fr W (W.putObj D (.deferred none)) [D] := Fr.of_grown (grownBy_putObj' _ _ _)
    have hb8 : Below w.heap.size W (W.putObj D (.deferred none)) := hf8.below (by have := hx.2.2.2.1.size; omega) (fun s hs => by rw [List.mem_singleton.1 hs]; omega)
    refine ⟨_, resParts _ rfl, ⟨⟨some ⟨gu, 0, none⟩, P, sc⟩, by dsimp only; rw [hx.2.1]; rfl, hx.2.1, hx.1.fr hf8 (fun a ha hm => by injection ha with ha; rw [← ha] at hm; have := List.mem_singleton.1 hm; dsimp only at this; omega), fun p q hp hq => hx.2.2.1.same H5.out.2.2.2.2 hp hq, fun p hp => hx.2.2.1.range H5.out.2.2.2.2 hp, H5.out.2.2.2.1.trans ((hx.2.2.2.1.below (by omega) (fun s hs => by rw [List.mem_singleton.1 hs]; omega)).trans hb8)⟩⟩
  case stop =>
    rintro D c pre W hD hS hX
    exact hX.elim
end Go.Proofs.Ytgjjdmkoamjdpaa
