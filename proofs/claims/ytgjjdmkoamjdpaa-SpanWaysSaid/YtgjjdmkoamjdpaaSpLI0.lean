/- span.parts of no nodes, and of any (written by wip/gen/genspi0.py). -/
import Derived.Test.YtgjjdmkoamjdpaaSpLI
namespace Go.Proofs.Ytgjjdmkoamjdpaa
open Go.RowKit Go.Maps Go.Sort Go.Shelf
attribute [local go_sem] Oper.semAt_some

set_option maxRecDepth 100000 in
set_option maxHeartbeats 8000000 in
theorem parts_none (x : RV) (E : List Pr) (w : World) (hx : x.Ok w) (hr : Rdy x E) (h0 : x.N.length = 0) : Calls Try.prog 33 #[.agg (rvA x)] w (PrPost x w) := by
  have H0 := Lib.hid h0
  clear h0
  have hb1 : Below w.heap.size w (w.alloc (.cells (rvA x) 43)) := (Below.refl _ _).alloc (Nat.le_refl _) _
  have hg1 := heap_alloc_new w (.cells (rvA x) 43)
  have hun := unknown_any x _ (hx.below hb1)
  have hnl := hr.nl
  have hlf := fun W (hW : Below w.heap.size w W) => left_any x E W (hx.below hW) hr
  unfold rvA at hb1 hg1 hun hlf ⊢
  have q0 := bx3 hg1
  have HLF := Lib.hid hlf
  have HUN := Lib.hid hun
  have HB := Lib.hid (And.intro hb1 hg1)
  have HX := Lib.hid (And.intro hx hr)
  clear hx hr hb1 hg1 hun hlf
  refine (callsIn_wide (n := 5)).1 ?_
  have h1 : 1 ≤ 5 := by omega
  refine callsIn_of_wp_marks Try.func33 rfl trivial ?_ rfl
  simp only [Try.ntmps33, List.size_toArray, List.length_cons, List.length_nil, Nat.reduceAdd, Nat.reduceSub, Array.replicate_succ, Array.replicate_zero, List.push_toArray, List.append_toArray, List.nil_append, List.cons_append]
  obtain ⟨q0, q1, q2⟩ := q0
  gi_wp2_with (first
    | (refine ⟨trivial, ?_⟩; gi_at_call 26; refine (callsIn_wide.2 HUN.out).mono ?_; rintro e w2 ⟨⟨sA, sl, sc⟩, rfl, h2, o2, b2⟩; dsimp only at h2; subst h2; have H2 := Lib.hid (And.intro o2 (And.intro (HB.out.1.trans (lower' b2 HB.out.1.size)) ((b2.block w.heap.size (by simp)).trans HB.out.2))); clear o2 b2 q0 q1 q2; have hbW : Below w2.heap.size w2 (w2.alloc (.cells #[.slice sA (List.replicate x.N.length (-1 : Int)).length sc] 25)) := (Below.refl _ _).alloc (Nat.le_refl _) _; rw [List.length_replicate] at hbW; have hbox3 := (hbW.block w.heap.size (heap_lt H2.out.2.2)).trans H2.out.2.2; obtain ⟨q0, q1, q2⟩ := bx3 hbox3; have hnew := heap_alloc_new w2 (.cells #[.slice sA x.N.length sc] 25); have hlf := HLF.out _ (H2.out.2.1.trans (lower' hbW H2.out.2.1.size)); have HL := Lib.hid hlf; have H3 := Lib.hid (And.intro hbW (And.intro hbox3 hnew)); clear hbW hbox3 hnew hlf)
    | (refine ⟨trivial, ?_⟩; gi_at_call 43; refine (callsIn_wide.2 HL.out).mono ?_; rintro e w4 ⟨lA, lc, L, rfl, hL4, oL4, b4⟩; have H4 := Lib.hid (And.intro hL4 (And.intro oL4 b4)); clear hL4 oL4 b4 q0 q1 q2 HL)
    | (refine ⟨trivial, ?_⟩; gi_at_call 42; refine (back_in Fence.wide (5 - 1) trivial rfl _ _ _ _).mono ?_; rintro e W5 ⟨rfl, hW5⟩))
  have hLn := H4.out.1.len
  have hl0 : L = [] := List.length_eq_zero_iff.1 (by have := H0.out; omega)
  subst hl0
  have z1 : w.heap.size < w2.heap.size := heap_lt H2.out.2.2
  have z2 : (w2.alloc (.cells #[.slice sA x.N.length sc] 25)).heap.size = w2.heap.size + 1 := alloc1_size _ _
  generalize w2.alloc (.cells #[.slice sA x.N.length sc] 25) = W3 at H3 H4 z2
  have b3 := H3.out.1
  have b4 := H4.out.2.2
  have z3 : W3.heap.size ≤ w4.heap.size := b4.size
  have z4 : W5.heap.size = w4.heap.size + 1 := by rw [hW5]; exact alloc1_size _ _
  have b5 : Below w4.heap.size w4 W5 := by rw [hW5]; exact (Below.refl _ _).alloc (Nat.le_refl _) _
  have hprt5 : W5.heap[w2.heap.size]? = some (.cells #[.slice sA x.N.length sc] 25 (0, 0)) := (b5.block _ (by omega)).trans ((b4.block _ (by omega)).trans H3.out.2.2)
  have gs : W5.cell? ⟨w4.heap.size, 0, none⟩ = some (.slice lA ([] : List Int).length lc) := by
    have hh : W5.heap[w4.heap.size]? = some (.cells #[.slice lA ([] : List Nat).length lc] 25 (0, 0)) := by rw [hW5]; exact heap_alloc_new _ _
    exact cell_of_row W5 _ 0 _ _ _ hh
  have hbel5 : Below w.heap.size w W5 := H2.out.2.1.trans ((lower' b3 (by omega)).trans ((lower' b4 (by omega)).trans (lower' b5 (by omega))))
  have hrow2 : OwnI w2 w.heap.size ⟨sA, List.replicate x.N.length (-1), sc⟩ := own_mono H2.out.1 (by rw [alloc1_size]; omega)
  have hrow5 := ((hrow2.below b3).below b4).below b5
  have H5 := Lib.hid (And.intro hprt5 (And.intro hrow5 (And.intro hbel5 H0.out)))
  rw [← hW5]
  clear hW5 hprt5 hrow2 hrow5 hbel5 H4 H3 b3 b4 b5
  refine wpIn_rangeFunc_ownG (α := Fin ([] : List Int).length) rfl h1 (gf := 60) (lb := #[.pointer (some ⟨w4.heap.size, 0, none⟩)]) rfl trivial (enters_of Try.func60 (by kernel_rfl) rfl)
    (back_stops Fence.wide (5 - 1) trivial rfl (by omega) w4.heap.size 0 lA [] lc (by simp) (fun h => absurd h (Nat.lt_irrefl 0)) W5 (by omega) (fun h => absurd h (Nat.lt_irrefl 0)) gs (fun j h => absurd h (Nat.not_lt_zero j)))
    (fun h k => ⟨k.1.trans h.1, fun j hj => (k.2 j hj).trans (h.2 j hj)⟩) (fun W l o o' hl _ _ _ => kpR_put (by omega) (fun h => absurd h (Nat.lt_irrefl 0))) (Below.refl _ _) (fun _ => rfl)
    (fun _ W => Below W5.heap.size W5 W) (fun c pre W => False)
    (fun pre W W' row hs hg hr => hs.trans ((fr_rowT hg).below hs.size (fun r e => (hr r (by simpa using e)).1)))
    (fun c pre W W' row hs hg hr => hs)
    ?h0 (fun y => { tmps := #[.agg #[.slice x.nA x.N.length x.nc, .slice x.o.A x.o.ts.length x.o.c, .slice x.i.A x.i.ts.length x.i.c], .pointer (some ⟨w.heap.size, 0, none⟩), .slice none 0 0, .pointer (some ⟨w2.heap.size, 0, none⟩), undef, .int .i64 (backN [] y.1), undef, undef, undef, undef, .agg #[.slice x.nA x.N.length x.nc, .slice x.o.A x.o.ts.length x.o.c, .slice x.i.A x.i.ts.length x.i.c], .slice sA x.N.length sc, .agg #[.slice x.nA x.N.length x.nc, .slice x.o.A x.o.ts.length x.o.c, .slice x.i.A x.i.ts.length x.i.c], .slice lA ([] : List Nat).length lc, .func (.func 60) #[] #[.pointer (some ⟨w4.heap.size, 0, none⟩)], .int .i64 (backI [] y.1), .int .i64 (backN [] y.1), undef, undef, undef, undef, undef, undef, undef, undef, undef, undef, undef, undef, undef, undef, undef, undef, undef, undef, undef, undef, undef, undef, undef, undef, undef, undef, undef, undef, undef, undef, undef, undef, undef, undef, undef, undef, undef, undef, undef, undef, undef, undef, undef, undef, undef], defers := [] }) ?assign ?body ?done ?stop
  case h0 => exact Below.refl _ _
  case assign =>
    intro l y W K hK
    exact y.elim0
  case body =>
    rintro l pre y W hI hlen
    exact y.elim0
  case done =>
    rintro D ys W hD rfl hI hK
    have hprtW := (hI.block _ (by omega)).trans H5.out.1
    have c1 : W.cell? ⟨w2.heap.size, 0, none⟩ = some (.slice sA x.N.length sc) := cell_of_row W _ 0 _ _ _ hprtW
    have HN := Lib.hid (And.intro hI (And.intro hK (And.intro hD (And.intro z4 (And.intro z3 z2)))))
    clear hI hprtW gs z2 z4 hK hD hLn
    gi_wp2
    have hx := HN.out
    refine ⟨by simp, .inl ⟨_, _, rfl, run_takeDeferred hx.2.1, ?_⟩⟩
    have hf8 : Fr W (W.putObj D (.deferred none)) [D] := Fr.of_grown (grownBy_putObj' _ _ _)
    have hb8 : Below W5.heap.size W (W.putObj D (.deferred none)) := hf8.below hx.1.size (fun s hs => by rw [List.mem_singleton.1 hs]; omega)
    have hb9 := hx.1.trans hb8
    refine ⟨_, resParts _ rfl, ⟨⟨sA, List.replicate x.N.length (-1), sc⟩, by dsimp only; rw [List.length_replicate]; rfl, List.length_replicate .., H5.out.2.1.below hb9, fun p q hp _ => by have := H5.out.2.2.2; omega, fun p hp => by have := H5.out.2.2.2; omega, H5.out.2.2.1.trans (lower' hb9 (by omega))⟩⟩
  case stop =>
    rintro D c pre W hD hS hX
    exact hX.elim
theorem parts_any (x : RV) (E : List Pr) (w : World) (hx : x.Ok w) (hr : Rdy x E) : Calls Try.prog 33 #[.agg (rvA x)] w (PrPost x w) := by
  by_cases h0 : x.N.length = 0
  · exact parts_none x E w hx hr h0
  · exact parts_some x E w hx hr (by omega)
end Go.Proofs.Ytgjjdmkoamjdpaa
