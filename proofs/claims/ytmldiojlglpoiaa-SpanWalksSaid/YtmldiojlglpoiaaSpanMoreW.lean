/- The law SpanMore, walked (written by wip/gen/genspmore.py). -/
import Derived.Test.YtmldiojlglpoiaaSpanGreatW
import Derived.Test.YtmldiojlglpoiaaJoBD
import Derived.Test.YtmldiojlglpoiaaJoOp
import Derived.Test.YtmldiojlglpoiaaJnC
namespace Go.Proofs.Ytmldiojlglpoiaa
open Go.RowKit Go.Maps Go.Sort

theorem OwnL.frS {w w' : World} {lo : Nat} {v : Value} {us : List TV} {S : List Nat} (h : OwnL w lo v us) (hf : Fr w w' S) (hS : ∀ s ∈ S, s < lo) : OwnL w' lo v us :=
  ⟨rowFrS h.row hf fun s hs hm => by
    have h1 := (World.ownsRow.lt h.row s (by simpa using hs)).1
    have h2 := hS s hm
    omega, fun t ht => (h.tup t ht).fr hf fun a ha hm => by
    have h1 := ((h.tup t ht).lo a ha).1
    have h2 := hS _ hm
    omega, h.sm, h.off⟩
theorem OwnL.okV {w : World} {lo : Nat} {x : LV} (h : OwnL w lo x.val x.ts) (hs : x.ts.length ≤ 5000) : x.Ok w := by
  obtain ⟨A, c, e, h1⟩ := h.lst hs
  unfold LV.val at e
  injection e with e1 e2 e3
  unfold LV.Ok
  rw [e1, e3]
  exact h1
theorem EdsRaw.es {w : World} {A : Option Addr} {c : Nat} {l : List Ed} (h : EdsRaw w A c l) (hs : l.length ≤ 1000) : Es w A c l := ⟨h.1, h.2.1, hs⟩
theorem es_row {lo : Nat} {w : World} {A : Option Addr} {c : Nat} {l : List Ed} {m : Ed} (h : w.ownsRow lo 48 3 (.slice A (l.length + 1) c) (l.length + 1) (edsC (l ++ [m]))) (hl : l.length ≤ 900) : Es w A c (l ++ [m]) := by
  obtain ⟨A', c', e, h1, h2, h3⟩ := own_shape h
  injection e with e1 e2 e3
  subst e1 e3
  exact ⟨h3, by rw [List.length_append]; exact h1, by rw [List.length_append]; simp; omega⟩
def edOf (ts : List Tu) : List Ed := ts.map fun t => ⟨t.getD 0 0, [97], t.getD 1 0⟩
theorem edOf_len (ts : List Tu) : (edOf ts).length = ts.length := List.length_map _
theorem edOf_take {ts : List Tu} {k : Nat} (h : k < ts.length) : edOf (ts.take (k + 1)) = edOf (ts.take k) ++ [⟨ts[k].getD 0 0, [97], ts[k].getD 1 0⟩] := by
  unfold edOf
  rw [List.take_succ_eq_append_getElem h, List.map_append]
  rfl
theorem edOf_span (E : List Pr) : spanL (prsL [97] (edOf (spanL E))) = spanL E := by
  refine spanL_twice E _ fun p => ?_
  obtain ⟨a, b⟩ := p
  rw [mem_prsL]
  unfold edOf
  constructor
  · rintro ⟨e, he, _, h1, h2⟩
    obtain ⟨t, ht, rfl⟩ := List.mem_map.1 he
    obtain ⟨x, y, rfl, hl⟩ := mem_spanL.1 ht
    simp at h1 h2
    subst h1 h2
    exact ht
  · intro h
    exact ⟨_, List.mem_map.2 ⟨_, h, rfl⟩, rfl, by simp, by simp⟩
theorem prsL_app (lab : Nm) (a b : List Ed) : prsL lab (a ++ b) = prsL lab a ++ prsL lab b := by unfold prsL; rw [List.filter_append, List.map_append]
theorem span_two {E : List Pr} {t : Tu} (h : t ∈ spanL E) : ∃ a b, t = [a, b] := by
  obtain ⟨a, b, e, _⟩ := mem_spanL.1 h
  exact ⟨a, b, e⟩
/-- Pairs of few edges. -/
theorem pairs_few (l : List Ed) (A : Option Addr) (c : Nat) (w : World) (h : Es w A c l) (hl : l.length ≤ 40 ∨ (spanL (prsL [97] l)).length ≤ 4000) :
    Calls Try.prog 16 #[.string ⟨#[97]⟩, .slice A l.length c] w fun e w' => ∃ y : LV, e = .returned (.tuple #[.slice y.A y.ts.length y.c, .int .i64 0]) ∧ y.Ok w' ∧ tus y.ts = spanL (prsL [97] l) ∧ Below w.heap.size w w' ∧ OwnL w' w.heap.size y.val y.ts := by
  have hc : pairsC [97] (prsL [97] l) = 0 ∧ pairsR [97] (prsL [97] l) = spanL (prsL [97] l) := by
    have h2 : (spanL (prsL [97] l)).length ≤ 4000 := by
      rcases hl with hl | hl
      · have h3 := spanL_few (prsL [97] l)
        have h4 := prsL_len [97] l
        have h5 : (prsL [97] l).length * (prsL [97] l).length ≤ 40 * 40 := Nat.mul_le_mul (by omega) (by omega)
        omega
      · exact hl
    unfold pairsC pairsR
    rw [if_neg (by rw [nm97]; decide), if_neg (by omega), if_neg (by rw [nm97]; decide), if_neg (by omega)]
    exact ⟨rfl, rfl⟩
  refine (Pairs_any [97] A c l w h).mono ?_
  rintro e w' ⟨y, h1, h2, h3, h4, h5, _⟩
  rw [hc.1] at h1
  rw [hc.2] at h4
  exact ⟨y, h1, h3, h4, h5, h2⟩
set_option maxRecDepth 100000 in
set_option maxHeartbeats 8000000 in
theorem spanMore_walk (A : Option Addr) (l : List Ed) (c : Nat) (m : Ed) (W : World) (he : EdsRaw W A c l) (hm : m.Ok) : Calls Try.prog 7 #[.slice A l.length c, edV m] W fun e w' => e = .returned (.bool true) ∧ Below W.heap.size W w' := by
  have HAW := Lib.hid awake13_any
  have hb1 : Below W.heap.size W (W.alloc (.cells #[.int .i64 m.f, .string ⟨m.lab.toArray⟩, .int .i64 m.t] 48)) := (Below.refl _ _).alloc (Nat.le_refl _) _
  have hg1 := heap_alloc_new W (.cells #[.int .i64 m.f, .string ⟨m.lab.toArray⟩, .int .i64 m.t] 48)
  have HBX := Lib.hid (And.intro hb1 hg1)
  unfold edV
  clear hb1 hg1
  by_cases h20 : l.length ≤ 20
  · have hlI : ¬ (20 : Int) < (l.length : Int) := by omega
    have HE := Lib.hid (And.intro he (And.intro hm h20))
    clear he hm h20
    go_enter Try.func7, Try.ntmps7
    go_upto_region 4 with (first
      | (go_at_call 15; (with_reducible refine (HAW.out _).mono ?_); rintro e w1 ⟨rfl, hb1⟩; have B1 := Lib.hid (And.intro (HBX.out.1.trans (lower' hb1 HBX.out.1.size)) ((hb1.block W.heap.size (by simp)).trans HBX.out.2)); have HP1 := Lib.hid (pairs_few l A c w1 ((HE.out.1.es (by have := HE.out.2.2; omega)).below B1.out.1) (.inl (by have := HE.out.2.2; omega))); clear hb1 HAW)
      | (go_at_call 16; (with_reducible refine HP1.out.mono ?_); rintro e w2 ⟨y, rfl, _, y2, y3, y4⟩; have Y2 := Lib.hid (And.intro y2 (And.intro y3 y4)); clear y2 y3 y4 HP1))
    have hbox2 := (Y2.out.2.1.block W.heap.size (heap_lt B1.out.2)).trans B1.out.2
    have hyl : y.ts.length ≤ 400 := by
      rw [← tus_len, Y2.out.1]
      have h3 := spanL_few (prsL [97] l)
      have h4 := prsL_len [97] l
      have h5 : (prsL [97] l).length * (prsL [97] l).length ≤ 20 * 20 := Nat.mul_le_mul (by have := HE.out.2.2; omega) (by have := HE.out.2.2; omega)
      omega
    obtain ⟨q0, q1, q2⟩ := bx3 hbox2
    have f1 : w2.frozen? ⟨W.heap.size, 1, none⟩ = false := frozen_of_row w2 _ 1 _ _ hbox2
    have hf3 : Fr w2 (w2.setCell ⟨W.heap.size, 1, none⟩ (.string ⟨#[97]⟩)) [W.heap.size] := (Fr.refl w2 [W.heap.size]).setCell (p := ⟨W.heap.size, 1, none⟩) (by simp) _
    have hbox3 : (w2.setCell ⟨W.heap.size, 1, none⟩ (.string ⟨#[97]⟩)).heap[W.heap.size]? = some (.cells #[.int .i64 m.f, .string ⟨#[97]⟩, .int .i64 m.t] 48 (0, 0)) := by
      have := heap_setCell_same w2 W.heap.size 1 _ _ (.string ⟨#[97]⟩) hbox2
      simpa using this
    have hW1 : W.heap.size < w1.heap.size := heap_lt B1.out.2
    have hyo := Y2.out.2.2.frS hf3 (fun s hs => by rw [List.mem_singleton.1 hs]; exact hW1)
    have hb3 : Below W.heap.size W (w2.setCell ⟨W.heap.size, 1, none⟩ (.string ⟨#[97]⟩)) := B1.out.1.trans ((lower' Y2.out.2.1 B1.out.1.size).trans (hf3.below (Nat.le_trans (Nat.le_of_lt hW1) Y2.out.2.1.size) (fun s hs => by rw [List.mem_singleton.1 hs]; exact Nat.le_refl _)))
    have H3 := Lib.hid (And.intro hbox3 (And.intro hyo (And.intro hb3 (And.intro Y2.out.1 hyl))))
    clear hbox2 hf3 hbox3 hyo hb3 hW1 hyl
    go_upto_region 5 with (fail)
    clear q0 q1 q2 f1
    generalize w2.setCell ⟨W.heap.size, 1, none⟩ (.string ⟨#[97]⟩) = w3 at H3 ⊢
    have KT := Lib.hid fun WW (hW : Below w3.heap.size w3 WW) => (bx3 ((hW.block _ (heap_lt H3.out.1)).trans H3.out.1) : WW.cell? ⟨W.heap.size, 0, none⟩ = some (.int .i64 m.f) ∧ WW.cell? ⟨W.heap.size, 1, none⟩ = some (.string ⟨#[97]⟩) ∧ WW.cell? ⟨W.heap.size, 2, none⟩ = some (.int .i64 m.t))
    have hE3 := (HE.out.1.es (by have := HE.out.2.2; omega)).below H3.out.2.2.1
    have HRD := Lib.hid (And.intro hE3.rd (show l.length ≤ 1000 by have := hE3.sm; omega))
    have HPB := Lib.hid fun (w6 : World) (A6 : Option Addr) (c6 : Nat) (h6 : w6.ownsRow w3.heap.size 48 3 (.slice A6 (l.length + 1) c6) (l.length + 1) (edsC (l ++ [⟨m.f, [97], m.t⟩]))) => (show Calls Try.prog 16 #[.string ⟨#[97]⟩, .slice A6 (l.length + 1) c6] w6 fun e w' => ∃ z : LV, e = .returned (.tuple #[.slice z.A z.ts.length z.c, .int .i64 0]) ∧ z.Ok w' ∧ tus z.ts = spanL (prsL [97] (l ++ [⟨m.f, [97], m.t⟩])) ∧ Below w6.heap.size w6 w' from by
      have h := pairs_few (l ++ [⟨m.f, [97], m.t⟩]) A6 c6 w6 (es_row h6 (by have := HE.out.2.2; omega)) (.inl (by rw [List.length_append]; have := HE.out.2.2; simp; omega))
      rw [List.length_append] at h
      exact h.mono fun e w' ⟨z, h1, h2, h3, h4, _⟩ => ⟨z, h1, h2, h3, h4⟩)
    clear hE3
    go_cut [7, 8] from 28 to 37 (fun s7 s8 w' => ∃ z : LV, s7 = .slice z.A z.ts.length z.c ∧ s8 = .int .i64 0 ∧ Hid (z.Ok w' ∧ tus z.ts = spanL (prsL [97] (l ++ [⟨m.f, [97], m.t⟩])) ∧ Below w3.heap.size w3 w'))
    case first =>
      have hS0 := KT.out w3.drew (Below.refl _ _).drew
      refine wp_region_M (fun j => decide (j < 6)) (fun w' => w'.cell? ⟨W.heap.size, 0, none⟩ = some (.int .i64 m.f) ∧ w'.cell? ⟨W.heap.size, 1, none⟩ = some (.string ⟨#[97]⟩) ∧ w'.cell? ⟨W.heap.size, 2, none⟩ = some (.int .i64 m.t)) (by kernel_rfl) ?_
      refine wpAnyM_take (i := 1) (v := ?_) rfl (by kernel_rfl) (by kernel_rfl) (by kernel_rfl) (by kernel_rfl) (fun _ _ _ h => h) (Or.inl ⟨by rfl, ?_⟩) hS0 ?_
      rotate_left
      · intro w hSw; (try dsimp only at hSw); go_simp; (try with_reducible rfl)
      simp only [Act.put, List.getElem_toArray, List.getElem_cons_zero, List.getElem_cons_succ, List.setIfInBounds_toArray, List.set_cons_zero, List.set_cons_succ]
      refine wpAnyM_take (i := 3) (v := ?_) rfl (by kernel_rfl) (by kernel_rfl) (by kernel_rfl) (by kernel_rfl) (fun _ _ _ h => h) (Or.inl ⟨by rfl, ?_⟩) hS0 ?_
      rotate_left
      · intro w hSw; (try dsimp only at hSw); go_simp; (try with_reducible rfl)
      simp only [Act.put, List.getElem_toArray, List.getElem_cons_zero, List.getElem_cons_succ, List.setIfInBounds_toArray, List.set_cons_zero, List.set_cons_succ]
      refine wpAnyM_two (i := 0) (j := 4) (by kernel_rfl) rfl rfl (fun K hK => ?_) (fun K hK => ?_)
      · skip
        go_simp
        refine hK.out _ _ (fun _ => KT.out _ ((Below.refl _ _).alloc (Nat.le_refl _) _).drew) ?_
        clear hK K
        refine wpAnyM_two (i := 2) (j := 4) (by kernel_rfl) rfl rfl (fun K hK => ?_) (fun K hK => ?_)
        · skip
          obtain ⟨A5, c5, w5, A6, c6, w6, hrun5, hrun6, hown6, hb6, hb5⟩ := ordE1d (A := A) (c := c) (W := w3) HRD.out.1 (Nat.le_refl _) HRD.out.2 ⟨m.f, [97], m.t⟩
          dsimp only at hrun5 hrun6 hown6
          refine step_appK _ (by rfl) (.tmp 29) (.tmp 30) 22 rfl rfl _ _ _ _ rfl rfl hrun5 ?_
          refine hK.out _ _ (fun _ => KT.out _ hb5) ?_
          clear hK K
          refine wpAnyM_one (i := 4) (by kernel_rfl) rfl (fun K hK => ?_)
          go_simp
          refine hK.out _ _ (fun _ => KT.out _ (hb5.alloc hb5.size _)) ?_
          clear hK K
          refine wpAnyM_one (i := 5) (by kernel_rfl) rfl (fun K hK => ?_)
          refine step_appK _ (by rfl) (.tmp 31) (.tmp 33) 22 rfl rfl _ _ _ _ rfl rfl hrun6 ?_
          refine hK.out _ _ (fun _ => KT.out _ hb6) ?_
          clear hK K
          have HR6 := Lib.hid (HPB.out w6 A6 c6 hown6)
          have HB6 := Lib.hid hb6
          clear hrun5 hrun6 hown6 hb6 hb5
          refine wpAnyM_one (i := 6) (by kernel_rfl) rfl (fun K hK => ?_)
          go_simp
          go_wp2_with (go_at_call 16; (with_reducible refine HR6.out.mono ?_); rintro e w7 ⟨z, rfl, z2, z3, z4⟩)
          refine hK.out _ _ (fun h => absurd h (by decide)) ?_
          clear hK K
          refine wpAnyM_value (i := 7) (v := ?_) rfl (by kernel_rfl) (by kernel_rfl) (by kernel_rfl) (by kernel_rfl) (fun _ _ _ h => h) (Or.inl ⟨by rfl, ?_⟩) ?_
          rotate_left
          · intro w hSw; go_simp; (try with_reducible rfl)
          simp only [Act.put, List.getElem_toArray, List.getElem_cons_zero, List.getElem_cons_succ, List.setIfInBounds_toArray, List.set_cons_zero, List.set_cons_succ]
          refine wpAnyM_value (i := 8) (v := ?_) rfl (by kernel_rfl) (by kernel_rfl) (by kernel_rfl) (by kernel_rfl) (fun _ _ _ h => h) (Or.inl ⟨by rfl, ?_⟩) ?_
          rotate_left
          · intro w hSw; go_simp; (try with_reducible rfl)
          simp only [Act.put, List.getElem_toArray, List.getElem_cons_zero, List.getElem_cons_succ, List.setIfInBounds_toArray, List.set_cons_zero, List.set_cons_succ]
          refine wpAnyM_value (i := 9) (v := ?_) rfl (by kernel_rfl) (by kernel_rfl) (by kernel_rfl) (by kernel_rfl) (fun _ _ _ h => h) (Or.inl ⟨by rfl, ?_⟩) ?_
          rotate_left
          · intro w hSw; go_simp; (try with_reducible rfl)
          simp only [Act.put, List.getElem_toArray, List.getElem_cons_zero, List.getElem_cons_succ, List.setIfInBounds_toArray, List.set_cons_zero, List.set_cons_succ]
          refine wpAnyM_one (i := 10) (by kernel_rfl) rfl (fun K hK => ?_)
          go_simp
          refine hK.out _ _ (fun h => absurd h (by decide)) ?_
          clear hK K
          refine wpAnyM_one (i := 11) (by kernel_rfl) rfl (fun K hK => ?_)
          go_simp
          refine hK.out _ _ (fun h => absurd h (by decide)) ?_
          clear hK K
          refine wpAnyM_done (by kernel_rfl) ?_ _
          go_wp2_with (fail)
          go_meet
          case rel => exact ⟨z, rfl, rfl, Lib.hid ⟨z2, z3, HB6.out.trans (lower' z4 HB6.out.size)⟩⟩
        · skip
          go_simp
          refine hK.out _ _ (fun _ => KT.out _ (((Below.refl _ _).alloc (Nat.le_refl _) _).alloc (by simp) _).drew) ?_
          clear hK K
          obtain ⟨A5, c5, w5, A6, c6, w6, hrun5, hrun6, hown6, hb6, hb5⟩ := ordE2d (A := A) (c := c) (W := w3) HRD.out.1 (Nat.le_refl _) HRD.out.2 ⟨m.f, [97], m.t⟩
          dsimp only at hrun5 hrun6 hown6
          refine wpAnyM_one (i := 2) (by kernel_rfl) rfl (fun K hK => ?_)
          refine step_appK _ (by rfl) (.tmp 29) (.tmp 30) 22 rfl rfl _ _ _ _ rfl rfl hrun5 ?_
          refine hK.out _ _ (fun _ => KT.out _ hb5) ?_
          clear hK K
          refine wpAnyM_one (i := 5) (by kernel_rfl) rfl (fun K hK => ?_)
          refine step_appK _ (by rfl) (.tmp 31) (.tmp 33) 22 rfl rfl _ _ _ _ rfl rfl hrun6 ?_
          refine hK.out _ _ (fun _ => KT.out _ hb6) ?_
          clear hK K
          have HR6 := Lib.hid (HPB.out w6 A6 c6 hown6)
          have HB6 := Lib.hid hb6
          clear hrun5 hrun6 hown6 hb6 hb5
          refine wpAnyM_one (i := 6) (by kernel_rfl) rfl (fun K hK => ?_)
          go_simp
          go_wp2_with (go_at_call 16; (with_reducible refine HR6.out.mono ?_); rintro e w7 ⟨z, rfl, z2, z3, z4⟩)
          refine hK.out _ _ (fun h => absurd h (by decide)) ?_
          clear hK K
          refine wpAnyM_value (i := 7) (v := ?_) rfl (by kernel_rfl) (by kernel_rfl) (by kernel_rfl) (by kernel_rfl) (fun _ _ _ h => h) (Or.inl ⟨by rfl, ?_⟩) ?_
          rotate_left
          · intro w hSw; go_simp; (try with_reducible rfl)
          simp only [Act.put, List.getElem_toArray, List.getElem_cons_zero, List.getElem_cons_succ, List.setIfInBounds_toArray, List.set_cons_zero, List.set_cons_succ]
          refine wpAnyM_value (i := 8) (v := ?_) rfl (by kernel_rfl) (by kernel_rfl) (by kernel_rfl) (by kernel_rfl) (fun _ _ _ h => h) (Or.inl ⟨by rfl, ?_⟩) ?_
          rotate_left
          · intro w hSw; go_simp; (try with_reducible rfl)
          simp only [Act.put, List.getElem_toArray, List.getElem_cons_zero, List.getElem_cons_succ, List.setIfInBounds_toArray, List.set_cons_zero, List.set_cons_succ]
          refine wpAnyM_value (i := 9) (v := ?_) rfl (by kernel_rfl) (by kernel_rfl) (by kernel_rfl) (by kernel_rfl) (fun _ _ _ h => h) (Or.inl ⟨by rfl, ?_⟩) ?_
          rotate_left
          · intro w hSw; go_simp; (try with_reducible rfl)
          simp only [Act.put, List.getElem_toArray, List.getElem_cons_zero, List.getElem_cons_succ, List.setIfInBounds_toArray, List.set_cons_zero, List.set_cons_succ]
          refine wpAnyM_one (i := 10) (by kernel_rfl) rfl (fun K hK => ?_)
          go_simp
          refine hK.out _ _ (fun h => absurd h (by decide)) ?_
          clear hK K
          refine wpAnyM_one (i := 11) (by kernel_rfl) rfl (fun K hK => ?_)
          go_simp
          refine hK.out _ _ (fun h => absurd h (by decide)) ?_
          clear hK K
          refine wpAnyM_done (by kernel_rfl) ?_ _
          go_wp2_with (fail)
          go_meet
          case rel => exact ⟨z, rfl, rfl, Lib.hid ⟨z2, z3, HB6.out.trans (lower' z4 HB6.out.size)⟩⟩
      · skip
        go_simp
        refine hK.out _ _ (fun _ => KT.out _ ((Below.refl _ _).alloc (Nat.le_refl _) _).drew) ?_
        clear hK K
        refine wpAnyM_one (i := 0) (by kernel_rfl) rfl (fun K hK => ?_)
        go_simp
        refine hK.out _ _ (fun _ => KT.out _ (((Below.refl _ _).alloc (Nat.le_refl _) _).alloc (by simp) _).drew) ?_
        clear hK K
        obtain ⟨A5, c5, w5, A6, c6, w6, hrun5, hrun6, hown6, hb6, hb5⟩ := ordE3d (A := A) (c := c) (W := w3) HRD.out.1 (Nat.le_refl _) HRD.out.2 ⟨m.f, [97], m.t⟩
        dsimp only at hrun5 hrun6 hown6
        refine wpAnyM_one (i := 2) (by kernel_rfl) rfl (fun K hK => ?_)
        refine step_appK _ (by rfl) (.tmp 29) (.tmp 30) 22 rfl rfl _ _ _ _ rfl rfl hrun5 ?_
        refine hK.out _ _ (fun _ => KT.out _ hb5) ?_
        clear hK K
        refine wpAnyM_one (i := 5) (by kernel_rfl) rfl (fun K hK => ?_)
        refine step_appK _ (by rfl) (.tmp 31) (.tmp 33) 22 rfl rfl _ _ _ _ rfl rfl hrun6 ?_
        refine hK.out _ _ (fun _ => KT.out _ hb6) ?_
        clear hK K
        have HR6 := Lib.hid (HPB.out w6 A6 c6 hown6)
        have HB6 := Lib.hid hb6
        clear hrun5 hrun6 hown6 hb6 hb5
        refine wpAnyM_one (i := 6) (by kernel_rfl) rfl (fun K hK => ?_)
        go_simp
        go_wp2_with (go_at_call 16; (with_reducible refine HR6.out.mono ?_); rintro e w7 ⟨z, rfl, z2, z3, z4⟩)
        refine hK.out _ _ (fun h => absurd h (by decide)) ?_
        clear hK K
        refine wpAnyM_value (i := 7) (v := ?_) rfl (by kernel_rfl) (by kernel_rfl) (by kernel_rfl) (by kernel_rfl) (fun _ _ _ h => h) (Or.inl ⟨by rfl, ?_⟩) ?_
        rotate_left
        · intro w hSw; go_simp; (try with_reducible rfl)
        simp only [Act.put, List.getElem_toArray, List.getElem_cons_zero, List.getElem_cons_succ, List.setIfInBounds_toArray, List.set_cons_zero, List.set_cons_succ]
        refine wpAnyM_value (i := 8) (v := ?_) rfl (by kernel_rfl) (by kernel_rfl) (by kernel_rfl) (by kernel_rfl) (fun _ _ _ h => h) (Or.inl ⟨by rfl, ?_⟩) ?_
        rotate_left
        · intro w hSw; go_simp; (try with_reducible rfl)
        simp only [Act.put, List.getElem_toArray, List.getElem_cons_zero, List.getElem_cons_succ, List.setIfInBounds_toArray, List.set_cons_zero, List.set_cons_succ]
        refine wpAnyM_value (i := 9) (v := ?_) rfl (by kernel_rfl) (by kernel_rfl) (by kernel_rfl) (by kernel_rfl) (fun _ _ _ h => h) (Or.inl ⟨by rfl, ?_⟩) ?_
        rotate_left
        · intro w hSw; go_simp; (try with_reducible rfl)
        simp only [Act.put, List.getElem_toArray, List.getElem_cons_zero, List.getElem_cons_succ, List.setIfInBounds_toArray, List.set_cons_zero, List.set_cons_succ]
        refine wpAnyM_one (i := 10) (by kernel_rfl) rfl (fun K hK => ?_)
        go_simp
        refine hK.out _ _ (fun h => absurd h (by decide)) ?_
        clear hK K
        refine wpAnyM_one (i := 11) (by kernel_rfl) rfl (fun K hK => ?_)
        go_simp
        refine hK.out _ _ (fun h => absurd h (by decide)) ?_
        clear hK K
        refine wpAnyM_done (by kernel_rfl) ?_ _
        go_wp2_with (fail)
        go_meet
        case rel => exact ⟨z, rfl, rfl, Lib.hid ⟨z2, z3, HB6.out.trans (lower' z4 HB6.out.size)⟩⟩
    case rest =>
      obtain ⟨z, rfl, rfl, hz⟩ := hcut
      have hyc : y.Ok wc := (H3.out.2.1.okV (by have := H3.out.2.2.2.2; omega)).below hz.out.2.2
      have hsub : woL (tus y.ts) (tus z.ts) = [] := by
        unfold woL
        rw [List.filter_eq_nil_iff]
        intro t ht
        rw [H3.out.2.2.2.1] at ht
        have h1 : t ∈ tus z.ts := by
          rw [hz.out.2.1]
          exact spanL_mono (fun p hp => by rw [prsL_app]; exact List.mem_append.2 (.inl hp)) ht
        rw [hasL_iff.2 h1]
        decide
      have hhas : hasL (tus z.ts) [m.f, m.t] = true := by
        rw [hasL_iff, hz.out.2.1]
        refine mem_spanL.2 ⟨m.f, m.t, rfl, .one ?_⟩
        show (m.f, m.t) ∈ prsL [97] (l ++ [⟨m.f, [97], m.t⟩])
        rw [mem_prsL]
        exact ⟨⟨m.f, [97], m.t⟩, by simp, rfl, rfl, rfl⟩
      have HWO := Lib.hid (show Calls Try.prog 26 #[.slice y.A y.ts.length y.c, .slice z.A z.ts.length z.c] wc fun e w' => ∃ (xA : Option Addr) (xc : Nat), e = .returned (.slice xA 0 xc) ∧ Below wc.heap.size wc w' from (rwithout_l y z wc hyc hz.out.1).mono fun e w' ⟨v, h1, _, h3, h4⟩ => by
        rw [hsub] at h3
        have hl : v.ts.length = 0 := by rw [← tus_len, h3]; rfl
        rw [hl] at h1
        exact ⟨v.A, v.c, h1, h4⟩)
      have HHA := Lib.hid fun WW (hW : Below wc.heap.size wc WW) => (show Calls Try.prog 25 #[.slice z.A z.ts.length z.c, .slice (some ⟨WW.heap.size, 0, none⟩) 2 2] (WW.alloc (.cells #[.int .i64 m.f, .int .i64 m.t] 3)) fun e w' => e = .returned (.bool true) ∧ Below wc.heap.size wc w' from by
        have hbA : Below WW.heap.size WW (WW.alloc (.cells #[.int .i64 m.f, .int .i64 m.t] 3)) := (Below.refl _ _).alloc (Nat.le_refl _) _
        have h := rhas_any z ⟨some ⟨WW.heap.size, 0, none⟩, [m.f, m.t], 2⟩ _ ((LV.Ok.below hz.out.1 hW).below hbA) (tv_lit (l := [m.f, m.t]) (heap_alloc_new _ _) (by simp))
        rw [hhas] at h
        refine h.mono fun e w' ⟨h1, n, h2⟩ => ⟨h1, ?_⟩
        rw [h2]
        exact Below.drewN' (hW.trans (lower' hbA hW.size)) n)
      have KC := Lib.hid fun WW (hW : Below wc.heap.size wc WW) => KT.out WW (hz.out.2.2.trans (lower' hW hz.out.2.2.size))
      have HC := Lib.hid (And.intro hyc (H3.out.2.2.1.trans (lower' hz.out.2.2 H3.out.2.2.1.size)))
      have HS := Lib.hid H3.out.2.2.2
      clear hyc hsub hhas hz
      go_upto_region 9 with (first
        | (go_at_call 26; (with_reducible refine HWO.out.mono ?_); rintro e w4 ⟨xA, xc, rfl, b4⟩; have B4 := Lib.hid b4; obtain ⟨q0, q1, q2⟩ := KC.out _ b4; clear b4)
        | (go_at_call 25; (with_reducible refine (HHA.out _ B4.out).mono ?_); rintro e w5 ⟨rfl, b5⟩; have B5 := Lib.hid b5; clear b5 q0 q1 q2))
      clear HWO HHA KC KT HPB HRD
      go_wp2_with (fail)
      go_loopw [9, 63] (fun v9 v63 wr => ∃ ii : Nat, ii ≤ y.ts.length ∧ v63 = .int .i64 (ii : Int) ∧ Hid (EdRow w5.heap.size wr v9 (edOf ((tus y.ts).take ii)) ∧ Below w5.heap.size w5 wr)) (fun _ v63 _ => y.ts.length - (intOf v63).toNat)
      case atStart => exact ⟨0, by omega, rfl, Lib.hid ⟨EdRow.nil _ _, Below.refl _ _⟩⟩
      case round =>
        obtain ⟨ii, hk, rfl, hrel⟩ := hrel
        have hyb := HS.out.2
        by_cases hlt : ii < y.ts.length
        · have hlI2 : (ii : Int) < (y.ts.length : Int) := by omega
          have hD : Below wr.heap.size wr wr.drew := (Below.refl _ _).drew
          have hy := (HC.out.1.below B5.out).below hrel.out.2
          obtain ⟨yb, yo, hyA, _, c0⟩ := Lst.cell hy hlt
          have hto := Lst.at hy hlt
          have htl : y.ts[ii].l = (tus y.ts)[ii]'(by rw [tus_len]; exact hlt) := (tus_at y.ts ii hlt).symm
          obtain ⟨a, b, hab⟩ := span_two (E := prsL [97] l) (t := y.ts[ii].l) (by rw [← HS.out.1]; exact mem_tus (List.getElem_mem hlt))
          have htk : edOf ((tus y.ts).take (ii + 1)) = edOf ((tus y.ts).take ii) ++ [⟨a, [97], b⟩] := by
            rw [edOf_take (by rw [tus_len]; exact hlt), ← htl, hab]
            rfl
          rw [hyA]
          generalize y.ts[ii] = t at c0 hto hab
          obtain ⟨tA, tl, tc⟩ := t
          dsimp only at hab c0
          subst hab
          obtain ⟨tb, tof, htA, _, t0⟩ := hto.cell (k := 0) (by simp)
          obtain ⟨tb', tof', htA', _, t1⟩ := hto.cell (k := 1) (by simp)
          dsimp only at htA htA' t0 t1
          subst htA
          injection htA' with htA'
          injection htA' with e8 e9
          subst e8 e9
          simp only [List.getElem_cons_zero, List.getElem_cons_succ, Nat.add_zero] at t0 t1
          simp only [List.length_cons, List.length_nil] at c0
          obtain ⟨v5, w9, hrun, h5, b9⟩ := (hrel.out.1.kept hD).push ⟨a, [97], b⟩ (by rw [edOf_len, List.length_take]; omega) (Nat.le_trans hrel.out.2.size hD.size)
          rw [← htk] at h5
          have H5 := Lib.hid (And.intro h5 (hrel.out.2.trans ((lower' hD hrel.out.2.size).trans b9)))
          have hrun : (Builtin.append_ #[22, 22] 22 #[u9, .slice (some ⟨wr.heap.size, 0, none⟩) 1 1]).run Try.prog (wr.drew.alloc (.cells #[.int .i64 a, .string ⟨#[97]⟩, .int .i64 b] 48)) = .ok v5 w9 := hrun
          have HLT := Lib.hid hlt
          clear h5 b9 hrel htk htl hto hy hD hyA
          go_upto_region 12 with (fail)
          go_region_law (refine step_appK _ (by rfl) (.tmp 67) (.tmp 75) 22 rfl rfl _ _ _ _ rfl rfl hrun ?_)
          all_goals
            simp only [Act.put]
            go_simp
            go_wp2_with (fail)
            go_roundw
            case rel => exact ⟨ii + 1, by have := HLT.out; omega, by go_num, H5⟩
            case measure => have := HLT.out; simp [intOf]; omega
        · obtain rfl : ii = y.ts.length := by omega
          have hlI2 : ¬ (y.ts.length : Int) < (y.ts.length : Int) := by omega
          rw [List.take_of_length_le (by rw [tus_len]; omega)] at hrel
          obtain ⟨A9, c9, rfl, hE⟩ := hrel.out.1.es (by rw [edOf_len, tus_len]; omega)
          have hle : (edOf (tus y.ts)).length = y.ts.length := by rw [edOf_len, tus_len]
          have hsp : spanL (prsL [97] (edOf (tus y.ts))) = tus y.ts := by rw [HS.out.1]; exact edOf_span _
          have h := pairs_few (edOf (tus y.ts)) A9 c9 wr hE (.inr (by rw [hsp, tus_len]; omega))
          rw [hle, hsp] at h
          rw [hle]
          have HP3 := Lib.hid h
          have B9 := Lib.hid (B5.out.trans (lower' hrel.out.2 B5.out.size))
          clear h hE hrel hle hsp hyb
          go_wp2_with (first
            | (go_at_call 16; (with_reducible refine HP3.out.mono ?_); rintro e w7 ⟨v, rfl, v2, v3, v4, _⟩; have hsm := same10_any y v w7 ((HC.out.1.below B9.out).below v4) v2; rw [v3, decide_eq_true rfl] at hsm; have HSM := Lib.hid hsm; have B10 := Lib.hid (HC.out.2.trans (lower' (B9.out.trans (lower' v4 B9.out.size)) HC.out.2.size)); clear v2 v3 v4 hsm)
            | (go_at_call 18; (with_reducible refine HSM.out.mono ?_); rintro e w8 ⟨rfl, n8, rfl⟩))
          go_ret
          exact ⟨rfl, Below.drewN' B10.out _⟩
  · have hlI : (20 : Int) < (l.length : Int) := by omega
    clear he hm h20
    go_enter Try.func7, Try.ntmps7
    go_upto_region 2 with (go_at_call 15; (with_reducible refine (HAW.out _).mono ?_); rintro e w1 ⟨rfl, hb1⟩; have B1 := Lib.hid (HBX.out.1.trans (lower' hb1 HBX.out.1.size)); clear hb1)
    go_wp2_with (go_at_call 15; (with_reducible refine (HAW.out _).mono ?_); rintro e w2 ⟨rfl, hb2⟩; have B2 := Lib.hid (B1.out.trans (lower' hb2 B1.out.size)); clear hb2)
    go_ret
    exact ⟨rfl, B2.out⟩
end Go.Proofs.Ytmldiojlglpoiaa
