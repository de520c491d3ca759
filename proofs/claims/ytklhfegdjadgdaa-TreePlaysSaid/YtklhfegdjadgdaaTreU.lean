/- Words that the walks of the laws of layer 6 share: rows of pairs, boxes, constants of bytes. -/
import Derived.Test.YtklhfegdjadgdaaTreO
import Derived.Test.YtklhfegdjadgdaaTreV
import Derived.Lib.SlBytesConst
namespace Go.Proofs.Ytklhfegdjadgdaa
open Go.RowKit Go.Maps

/-- The box of a pair. -/
theorem box_pair {w : World} (r x : Bs) (h : r.ok w) (hx : x.ok w) : ∃ w', w' = (w.alloc (.cells #[.slice r.A r.l.length r.c, .slice x.A x.l.length x.c] 42)) ∧ (∀ W, Below w'.heap.size w' W → W.cell? ⟨w.heap.size, 0, none⟩ = some (.slice r.A r.l.length r.c) ∧ W.cell? ⟨w.heap.size, 1, none⟩ = some (.slice x.A x.l.length x.c)) ∧ r.ok w' ∧ x.ok w' ∧ Below w.heap.size w w' := by
  have hb : Below w.heap.size w (w.alloc (.cells #[.slice r.A r.l.length r.c, .slice x.A x.l.length x.c] 42)) := (Below.refl _ _).alloc (Nat.le_refl _) _
  refine ⟨_, rfl, fun W hW => ?_, h.below hb, hx.below hb, hb⟩
  have hg := (hW.block w.heap.size (by simp)).trans (heap_alloc_new w _)
  exact ⟨cell_of_row W w.heap.size 0 _ _ _ hg, cell_of_row W w.heap.size 1 _ _ _ hg⟩
theorem prC_two : ∀ (P : List (Bs × Bs)) (i : Nat) (h : i < P.length), (prC P)[i * 2]? = some (.slice P[i].1.A P[i].1.l.length P[i].1.c) ∧ (prC P)[i * 2 + 1]? = some (.slice P[i].2.A P[i].2.l.length P[i].2.c)
  | [], _, h => by cases h
  | p :: P, 0, _ => ⟨rfl, rfl⟩
  | p :: P, i + 1, h => by
    have ih := prC_two P i (by simpa using h)
    simp only [prC, List.flatMap_cons] at ih ⊢
    rw [show (i + 1) * 2 = i * 2 + 1 + 1 by omega]
    simpa using ih
/-- The cells of a pair in a row. -/
theorem prs_at {w : World} {base c : Nat} {A : Option Addr} {P : List (Bs × Bs)} (h : Prs w base (.slice A P.length c) P) {k : Nat} (hk : k < P.length) : ∃ ab ao, A = some ⟨ab, ao, none⟩ ∧ ∀ W, Below w.heap.size w W → W.cell? ⟨ab, ao + k * 2, none⟩ = some (.slice P[k].1.A P[k].1.l.length P[k].1.c) ∧ W.cell? ⟨ab, ao + k * 2 + 1, none⟩ = some (.slice P[k].2.A P[k].2.l.length P[k].2.c) ∧ P[k].1.ok W ∧ P[k].2.ok W := by
  obtain ⟨A', c', e, _, _, hrd⟩ := own_shape h.row
  cases e
  obtain ⟨ab, ao, rfl, hab, hc⟩ := hrd (by intro e; have := congrArg List.length e; rw [prC_len] at this; have h9 : P.length * 2 = 0 := this; omega)
  obtain ⟨q1, _, q2, _⟩ := h.key P[k] (List.getElem_mem hk)
  obtain ⟨t1, t2⟩ := prC_two P k hk
  refine ⟨ab, ao, rfl, fun W hW => ⟨(hW.cell (p := ⟨ab, ao + k * 2, none⟩) hab).trans (hc _ _ t1), ?_, q1.below hW, q2.below hW⟩⟩
  have := (hW.cell (p := ⟨ab, ao + (k * 2 + 1), none⟩) hab).trans (hc _ _ t2)
  rw [← Nat.add_assoc] at this
  exact this
theorem prL_at {P : List (Bs × Bs)} {k : Nat} (hk : k < P.length) : (prL P)[k]? = some (P[k].1.l, P[k].2.l) := by
  unfold prL
  rw [List.getElem?_map, List.getElem?_eq_getElem hk]
  rfl
/-- Two rows of the same pairs. -/
theorem prL_same {P Q : List (Bs × Bs)} (h : prL P = prL Q) {k : Nat} (hp : k < P.length) (hq : k < Q.length) : P[k].1.l = Q[k].1.l ∧ P[k].2.l = Q[k].2.l := by
  have h1 := prL_at hp
  rw [h, prL_at hq] at h1
  injection h1 with h1
  injection h1 with h1 h2
  exact ⟨h1.symm, h2.symm⟩
theorem prL_len (P : List (Bs × Bs)) : (prL P).length = P.length := by simp [prL]
/-- A constant of three bytes, as a slice. -/
theorem conv_three (w : World) (x y z : Int) : (convert 27 27 (.slice (some ⟨w.heap.size, 0, none⟩) 3 3)).run Try.prog (w.alloc (.cells #[.int .u8 x, .int .u8 y, .int .u8 z] 5)) = .ok (.slice (some ⟨w.heap.size, 0, none⟩) 3 3) (w.alloc (.cells #[.int .u8 x, .int .u8 y, .int .u8 z] 5 (3, 4))) :=
  Lib.run_convert_bytes_const w 27 5 #[.int .u8 x, .int .u8 y, .int .u8 z] 3 3 Try.underlying27 Try.underlying5
theorem rd_three (w : World) (x y z : UInt8) (fr : Nat × Nat) : Rd (w.alloc (.cells #[.int .u8 (x.toNat : Int), .int .u8 (y.toNat : Int), .int .u8 (z.toNat : Int)] 5 fr)) (w.heap.size + 1) (some ⟨w.heap.size, 0, none⟩) (u8s [x, y, z]) := Rd.new w #[.int .u8 (x.toNat : Int), .int .u8 (y.toNat : Int), .int .u8 (z.toNat : Int)] 5 fr
/-- A range over all pairs. -/
theorem range_all {w : World} {lo p : Nat} {L : List Pr} (h : TreeW w lo p L) (hn : L.length ≤ 1000) :
    Calls Try.prog 9 #[.pointer (some ⟨p, 0, none⟩), .slice none 0 0, .slice none 0 0, .int .i64 1000] w fun e w' => ∃ (A : Option Addr) (c : Nat) (P : List (Bs × Bs)), e = .returned (.slice A L.length c) ∧ Prs w' w.heap.size (.slice A P.length c) P ∧ prL P = L ∧ P.length = L.length ∧ Below w.heap.size w w' := by
  have h1 : Calls Try.prog 9 #[.pointer (some ⟨p, 0, none⟩), .slice none 0 0, .slice none 0 0, .int .i64 1000] w _ := trange_any h ⟨none, [], 0⟩ ⟨none, [], 0⟩ 0 (Rd.emp _ _ _) (Rd.emp _ _ _) 1000 (by omega) (by simp) (by omega)
  refine h1.mono ?_
  rintro e w' ⟨v, P, rfl, p1, p2, p3⟩
  rw [rng_all hn] at p2
  obtain ⟨A, c, rfl, _, _, _⟩ := own_shape p1.row
  have hl : P.length = L.length := by rw [← p2, prL_len]
  exact ⟨A, c, P, by rw [hl], p1, p2, hl, p3⟩
end Go.Proofs.Ytklhfegdjadgdaa
