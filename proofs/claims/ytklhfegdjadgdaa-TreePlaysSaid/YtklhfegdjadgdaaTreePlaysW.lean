/- TreePlays: the walk. -/
import Derived.Test.YtklhfegdjadgdaaTreO
import Derived.Test.YtklhfegdjadgdaaTrePG
import Derived.Test.YtklhfegdjadgdaaTrePO
import Derived.IntWalk
import Derived.Deep.CutRange
namespace Go.Proofs.Ytklhfegdjadgdaa
open Go.RowKit Go.Maps

theorem op_cells {w : World} {B : Nat} {A : Option Addr} {L : List OpR} (h : Rd w B A (opsC L)) {k : Nat} (hk : k < L.length) : ∃ ab ao, A = some ⟨ab, ao, none⟩ ∧ ab < B ∧ ∀ w' : World, Below B w w' →
    w'.cell? ⟨ab, ao + k * 4, none⟩ = some (.int .i64 L[k].kind) ∧ w'.cell? ⟨ab, ao + k * 4 + 1, none⟩ = some (.int .i64 L[k].n) ∧
    w'.cell? ⟨ab, ao + k * 4 + 2, none⟩ = some (.slice L[k].k.A L[k].k.l.length L[k].k.c) ∧ w'.cell? ⟨ab, ao + k * 4 + 3, none⟩ = some (.slice L[k].v.A L[k].v.l.length L[k].v.c) := by
  obtain ⟨ab, ao, e, hab, hc⟩ := h (by intro e; have := opsC_len L; rw [e] at this; simp at this; omega)
  refine ⟨ab, ao, e, hab, fun w' hb => ?_⟩
  have key : ∀ j (hj : j < 4), w'.cell? ⟨ab, ao + (k * 4 + j), none⟩ = L[k].cells[j]? := fun j hj => by
    have hg := opsC_get L k hk j hj
    obtain ⟨u, hu⟩ : ∃ u, L[k].cells[j]? = some u := ⟨_, List.getElem?_eq_getElem (l := L[k].cells) (i := j) (by simpa [OpR.cells] using hj)⟩
    rw [hu] at hg ⊢
    exact (hb.cell (p := ⟨ab, ao + (k * 4 + j), none⟩) hab).trans (hc _ u hg)
  refine ⟨key 0 (by omega), ?_, ?_, ?_⟩
  · exact key 1 (by omega)
  · exact key 2 (by omega)
  · exact key 3 (by omega)
/-- Behind the loop. -/
theorem plays_end {w : World} {lo q : Nat} {L : List Pr} {A : Option Addr} {c : Nat} (hT : TreeW w lo q L) (hm : RowS w lo A c L) (hn : L.length ≤ 200) :
    Calls Try.prog 9 #[.pointer (some ⟨q, 0, none⟩), .slice none 0 0, .slice none 0 0, .int .i64 4611686018427387904] w fun e w' => ∃ (A2 : Option Addr) (c2 n2 : Nat), e = .returned (.slice A2 n2 c2) ∧ Below w.heap.size w w' ∧
      Calls Try.prog 8 #[.slice A2 n2 c2, .slice A L.length c] w' fun e w2 => e = .returned (.bool true) ∧ Below w'.heap.size w' w2 := by
  have h1 : Calls Try.prog 9 #[.pointer (some ⟨q, 0, none⟩), .slice none 0 0, .slice none 0 0, .int .i64 4611686018427387904] w _ := trange_any hT ⟨none, [], 0⟩ ⟨none, [], 0⟩ 0 (Rd.emp _ _ _) (Rd.emp _ _ _) 4611686018427387904 (by omega) (by simp) (by omega)
  refine h1.mono ?_
  rintro e w' ⟨v, P, rfl, p1, p2, p3⟩
  rw [rng_great (by omega) _ (by omega)] at p2
  obtain ⟨A2, c2, rfl, _, _, _⟩ := own_shape p1.row
  have hl : P.length = L.length := by rw [← p2, prL_len]
  have hS : Rd w' w'.heap.size A (prS (prL P)) := by rw [p2]; exact (hm.below p3).rd
  have := same_any P A2 c2 A c p1 hS (Nat.le_refl _) (by omega) L.length hl.symm
  refine ⟨A2, c2, L.length, by rw [hl], p3, this⟩
set_option maxRecDepth 100000 in
set_option maxHeartbeats 4000000 in
theorem treePlays_walk (A : Option Addr) (l : List OpR) (c : Nat) (w : World) (hr : Rd w w.heap.size A (opsC l)) (ho : ∀ o ∈ l, o.ok w w.heap.size) :
    Calls Try.prog 3 #[.slice A l.length c] w fun e w' => e = .returned (.bool true) ∧ Below w.heap.size w w' := by
  have hnew := tnew_any w w.heap.size (Nat.le_refl _)
  have HNEW := Lib.hid hnew
  have HAW := Lib.hid (fun W => treeAwake_any W)
  have HR := Lib.hid hr
  have HO := Lib.hid ho
  clear hnew hr ho
  go_enter Try.func3, Try.ntmps3
  go_upto_region 2 with (go_at_call 4; (with_reducible refine HNEW.out.mono ?_); rintro e w1 ⟨rfl, h1, hb1⟩)
  have H1 := Lib.hid (And.intro h1 hb1)
  clear h1 hb1
  go_upto_region 4 with (go_at_call 5; (with_reducible refine (HAW.out w1).mono ?_); rintro e w2 ⟨rfl, hb2⟩; have H2 := Lib.hid (And.intro (H1.out.1.below hb2) (H1.out.2.trans (lower' hb2 H1.out.2.size))); clear hb2)
  go_wp2_with (fail)
  go_loopw [3, 4, 5] (fun t m i wr => ∃ (k q : Nat) (L : List Pr) (A' : Option Addr) (c' : Nat), t = .pointer (some ⟨q, 0, none⟩) ∧ m = .slice A' L.length c' ∧ i = .int .i64 (k : Int) ∧ k ≤ l.length ∧ k ≤ 200 ∧ TreeW wr w.heap.size q L ∧ RowS wr w.heap.size A' c' L ∧ L.length ≤ k ∧ Below w.heap.size w wr)
    (fun _ _ i _ => l.length - (intOf i).toNat)
  case atStart => exact ⟨0, w.heap.size, [], none, 0, rfl, rfl, rfl, by omega, by omega, H2.out.1, rowS_nil _ _, by simp, H2.out.2⟩
  case round =>
    obtain ⟨k, q, L, A', c', rfl, rfl, rfl, hk, hk3, hT, hm, hLk, hb⟩ := hrel
    by_cases hgo : k < l.length ∧ k < 200
    · obtain ⟨hkl, hk9⟩ := hgo
      have hkI : (k : Int) < (l.length : Int) := by omega
      have hkJ : (k : Int) < 200 := by omega
      obtain ⟨ab, ao, rfl, hab, hcell⟩ := op_cells HR.out hkl
      obtain ⟨o, hoe⟩ : ∃ o, o = l[k] := ⟨_, rfl⟩
      have hoo : o.ok w w.heap.size := by rw [hoe]; exact HO.out _ (List.getElem_mem hkl)
      obtain ⟨x0, x1, x2, x3⟩ := hcell wr hb
      rw [← hoe] at x0 x1 x2 x3
      clear hoe hcell
      obtain ⟨kind, num, ⟨kA, kl, kc⟩, ⟨vA, vl, vc⟩⟩ := o
      simp only at x0 x1 x2 x3
      have hnum : num ≤ 9223372036854775807 := hoo.num.2
      have hkr : Rd wr w.heap.size kA (u8s kl) := hoo.k.1.below hb (Nat.le_refl _)
      have hvr : Rd wr w.heap.size vA (u8s vl) := hoo.v.1.below hb (Nat.le_refl _)
      have hk47 : (kl.length : Int) ≤ 140737488351232 := by have h1 : kl.length ≤ kc := hoo.k.2.1; have h2 : kc ≤ 140737488351232 := hoo.k.2.2; omega
      have hv47 : (vl.length : Int) ≤ 140737488351232 := by have h1 : vl.length ≤ vc := hoo.v.2.1; have h2 : vc ≤ 140737488351232 := hoo.v.2.2; omega
      have hwr : IntKind.i64.wrap ((kl.length : Int) + (vl.length : Int)) = (kl.length : Int) + (vl.length : Int) := IntWalk.i64_in _ (by omega)
      clear hoo hab hk hk3
      by_cases hs : 500 < kl.length + vl.length
      · have hsI : (500 : Int) < (kl.length : Int) + (vl.length : Int) := by omega
        have HX := Lib.hid (And.intro hT (And.intro hm (And.intro hLk (And.intro hb hkl))))
        clear hT hm hLk hb hkl hs hkr hvr
        go_upto_region 8 with (fail)
        go_quiet (fail)
        go_wp2_with (fail)
        exact ⟨⟨k + 1, q, L, A', c', rfl, rfl, by simp, by have := HX.out.2.2.2.2; omega, by omega, HX.out.1.below (below_draws (Below.refl _ _) nq), HX.out.2.1.below (below_draws (Below.refl _ _) nq), by have := HX.out.2.2.1; omega, below_draws HX.out.2.2.2.1 nq⟩, by simp [intOf]; have := HX.out.2.2.2.2; omega⟩
      · have hsI : ¬ (500 : Int) < (kl.length : Int) + (vl.length : Int) := by omega
        have hpl := fun n => play_any q A' L c' kind num kA vA kl vl kc vc (wr.drewN n) w.heap.size w.heap.size (hT.below (below_draws (Below.refl _ _) n)) (hm.below (below_draws (Below.refl _ _) n)) (by omega) (hkr.drewN n) (hvr.drewN n) (Nat.le_refl _) hb.size (by omega) hnum
        have HPL := Lib.hid hpl
        have HX := Lib.hid (And.intro hLk (And.intro hb hkl))
        clear hT hm hLk hb hkl hs hkr hvr hpl
        go_upto_region 8 with (fail)
        go_quiet (fail)
        go_upto_region 11 with (go_at_call 6; (with_reducible refine (HPL.out _).mono ?_); rintro e w5 ⟨q2, L2, A2, c2, rfl, hT2, hm2, hl2, hb2⟩)
        have hlen := tlen_any hT2
        have HLEN := Lib.hid hlen
        have HY := Lib.hid (And.intro hT2 (And.intro hm2 (And.intro hl2 ((below_draws HX.out.2.1 nq).trans hb2))))
        clear hT2 hm2 hl2 hb2 hlen HPL
        have h9 : (L2.length : Int) ≤ 1000 := by have := HY.out.2.2.1; have := HX.out.1; omega
        go_wp2_with (go_at_call 7; (with_reducible refine HLEN.out.mono ?_); rintro e wa ⟨rfl, rfl⟩)
        exact ⟨⟨k + 1, q2, L2, A2, c2, rfl, rfl, by simp, by have := HX.out.2.2; omega, by omega, HY.out.1, HY.out.2.1, by have := HY.out.2.2.1; have := HX.out.1; omega, HY.out.2.2.2⟩, by simp [intOf]; have := HX.out.2.2; omega⟩
    · have hx' : (¬ (k : Int) < (l.length : Int)) ∨ ((k : Int) < (l.length : Int) ∧ ¬ (k : Int) < 200) := by omega
      have hen := plays_end hT hm (by omega)
      have HE := Lib.hid hen
      have HB := Lib.hid hb
      clear hT hLk hb hgo hk hk3 hm hen
      rcases hx' with h1 | ⟨h1, h2⟩
      all_goals
        go_wp2_with (first
          | (go_at_call 9; (with_reducible refine HE.out.mono ?_); rintro e w6 ⟨A6, c6, n6, rfl, hb6, hsm⟩)
          | (go_at_call 8; (with_reducible refine hsm.mono ?_); rintro e w7 ⟨rfl, hb7⟩))
        go_ret
        exact ⟨rfl, (HB.out.trans (lower' hb6 HB.out.size)).trans (lower' hb7 (Nat.le_trans HB.out.size hb6.size))⟩
end Go.Proofs.Ytklhfegdjadgdaa
