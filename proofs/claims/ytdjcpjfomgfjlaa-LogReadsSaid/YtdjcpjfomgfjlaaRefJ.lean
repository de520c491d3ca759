/- The document's disk in a block beside a disk: other blocks, off a block, facts on a write. -/
import Derived.Test.YtdjcpjfomgfjlaaRefI
namespace Go.Proofs.Ytdjcpjfomgfjlaa
open Go.RowKit Go.Maps

theorem Sl.ext {w : World} {X Y : List Nat} {A : Option Addr} {xs : List Value} (h : Sl w X A xs) (hn : xs ≠ []) (hY : ∀ y ∈ Y, w.heap.size ≤ y) : Sl w (X ++ Y) A xs := by
  obtain ⟨b, o, e, hlt, hc⟩ := h.1 hn
  refine ⟨h.1, fun a ha hx => ?_⟩
  rcases List.mem_append.1 hx with hx | hx
  · exact h.2 a ha hx
  · rw [e] at ha; cases ha
    exact absurd (hY _ hx) (by show ¬ (w.heap.size ≤ b); omega)
theorem RefV.ext {w : World} {X Y : List Nat} {M : DM} {v : Value} (h : RefV w X (refOf M) v) (hp : 0 < M.size) (hY : ∀ y ∈ Y, w.heap.size ≤ y) : RefV w (X ++ Y) (refOf M) v := by
  obtain ⟨A1, A2, A3, c1, c2, c3, rfl, h1, h2, h3⟩ := h
  have ne : ∀ {α : Type} (f : Nat → α), (List.range M.size).map f ≠ [] := fun f e => by have := congrArg List.length e; simp at this; omega
  exact ⟨A1, A2, A3, c1, c2, c3, rfl, h1.ext (by simp only [strs, refOf, List.map_map]; exact ne _) hY, h2.ext (by simp only [strs, refOf, List.map_map]; exact ne _) hY, h3.ext (by simp only [bools, refOf, List.map_map]; exact ne _) hY⟩
theorem RefV.sub {w : World} {X Y : List Nat} {R : RD} {v : Value} (h : RefV w X R v) (hY : ∀ y ∈ Y, y ∈ X) : RefV w Y R v := by
  obtain ⟨A1, A2, A3, c1, c2, c3, rfl, h1, h2, h3⟩ := h
  exact ⟨A1, A2, A3, c1, c2, c3, rfl, h1.sub hY, h2.sub hY, h3.sub hY⟩
theorem write_facts (M : DM) (i : Int) (l : List UInt8) : (M.writeM i l).size = M.size ∧ (M.writeM i l).steps ≤ M.steps + 1 ∧ (M.writeM i l).left ≤ M.left := by
  unfold DM.writeM
  split
  · exact ⟨rfl, by omega, Nat.le_refl _⟩
  · split
    · exact ⟨rfl, by omega, Nat.le_refl _⟩
    · exact ⟨rfl, Nat.le_refl _, by show (if M.armed then M.left - 1 else M.left) ≤ M.left; split <;> omega⟩
theorem Sl.off {w : World} {X : List Nat} {A : Option Addr} {xs : List Value} {b : Nat} {cs : Array Value} {t : TypeId} {fr : Nat × Nat} (h : Sl w X A xs) (hn : xs ≠ []) (hb : w.heap[b]? = some (.cells cs t fr)) (hx : ∀ x ∈ xs, x ∉ cs) : Sl w (b :: X) A xs := by
  refine ⟨h.1, fun a ha hm => ?_⟩
  rcases List.mem_cons.1 hm with e | e
  · obtain ⟨b', o, e', _, hc⟩ := h.1 hn
    rw [e'] at ha; cases ha
    change b' = b at e
    subst e
    obtain ⟨x, r, hxr⟩ := List.exists_cons_of_ne_nil hn
    have := hc 0 x (by rw [hxr]; rfl)
    rw [cell_of_row w b' _ _ _ _ hb] at this
    exact hx x (by simp [hxr]) (Array.mem_of_getElem? this)
  · exact h.2 a ha e
section
variable {w w' : World} {b p bs bw B T n1 n2 n3 c1 c2 c3 : Nat} {M : DM} {v : Value} {A1 A2 A3 : Option Addr} {s l : Int} {t : TypeId} {fr : Nat × Nat} {X : List Nat}
theorem RefV.off (h : RefV w X (refOf M) v) (hp : 0 < M.size) (hb : w.heap[b]? = some (.cells #[.slice A1 n1 c1, .slice A2 n2 c2, .slice A3 n3 c3, .int .i64 s, .int .i64 l] t fr)) : RefV w (b :: X) (refOf M) v := by
  obtain ⟨a1, a2, a3, d1, d2, d3, rfl, h1, h2, h3⟩ := h
  have ne : ∀ {α : Type} (f : Nat → α), (List.range M.size).map f ≠ [] := fun f e => by have := congrArg List.length e; simp at this; omega
  have hs : ∀ (L : List (List UInt8)), ∀ x ∈ strs L, x ∉ #[Value.slice A1 n1 c1, .slice A2 n2 c2, .slice A3 n3 c3, .int .i64 s, .int .i64 l] := by
    intro L x hx
    obtain ⟨y, _, rfl⟩ := List.mem_map.1 hx
    simp
  have hbs : ∀ (L : List Bool), ∀ x ∈ bools L, x ∉ #[Value.slice A1 n1 c1, .slice A2 n2 c2, .slice A3 n3 c3, .int .i64 s, .int .i64 l] := by
    intro L x hx
    obtain ⟨y, _, rfl⟩ := List.mem_map.1 hx
    simp
  exact ⟨a1, a2, a3, d1, d2, d3, rfl, h1.off (by simp only [strs, refOf, List.map_map]; exact ne _) hb (hs _), h2.off (by simp only [strs, refOf, List.map_map]; exact ne _) hb (hs _), h3.off (by simp only [bools, refOf, List.map_map]; exact ne _) hb (hbs _)⟩
theorem DiskM.off (h : DiskM w p bs bw M T) (hb : w.heap[b]? = some (.cells #[.slice A1 n1 c1, .slice A2 n2 c2, .slice A3 n3 c3, .int .i64 s, .int .i64 l] t fr)) : p ≠ b ∧ bs ≠ b ∧ bw ≠ b := by
  obtain ⟨D, ⟨h1, _, ns, nw, ⟨es, cl, h2, _⟩, ⟨es2, cl2, h3, _⟩, _⟩, _⟩ := h
  refine ⟨?_, ?_, ?_⟩
  · rintro rfl
    rw [h1] at hb
    unfold DK.cells at hb
    simp at hb
  · rintro rfl
    rw [h2] at hb
    cases hb
  · rintro rfl
    rw [h3] at hb
    cases hb
end
/-- A disk, and beside it in the block bx the document's disk, that stands a write behind or not: M and R. -/
structure BoxD (W0 wr : World) (bx p bs bw N T : Nat) (M R : DM) : Prop where
  box : ∃ A1 A2 A3 n1 n2 n3 c1 c2 c3 s l, wr.heap[bx]? = some (.cells #[.slice A1 n1 c1, .slice A2 n2 c2, .slice A3 n3 c3, .int .i64 s, .int .i64 l] 33 (0, 0)) ∧ RefV wr [bx, p, bs, bw] (refOf R) (.agg #[.slice A1 n1 c1, .slice A2 n2 c2, .slice A3 n3 c3, .int .i64 s, .int .i64 l])
  disk : DiskM wr p bs bw M T
  okM : M.Ok T
  okR : R.Ok T
  sizeM : M.size = N
  sizeR : R.size = N
  stepsM : M.steps ≤ T
  stepsR : R.steps ≤ T
  pos : 0 < N
  off : p ≠ bx ∧ bs ≠ bx ∧ bw ≠ bx
  low : W0.heap.size ≤ p ∧ W0.heap.size ≤ bs ∧ W0.heap.size ≤ bw ∧ W0.heap.size ≤ bx
  below : Below W0.heap.size W0 wr
section
variable {W0 wr w' : World} {bx p bs bw N T : Nat} {M R : DM}
theorem BoxD.lt (h : BoxD W0 wr bx p bs bw N T M R) : bx < wr.heap.size := by
  obtain ⟨_, _, _, _, _, _, _, _, _, _, _, hb, _⟩ := h.box
  exact heap_lt hb
theorem BoxD.kept (h : BoxD W0 wr bx p bs bw N T M R) (hb : Below wr.heap.size wr w') : BoxD W0 w' bx p bs bw N T M R := by
  obtain ⟨A1, A2, A3, n1, n2, n3, c1, c2, c3, s, l, hg, hv⟩ := h.box
  exact ⟨⟨A1, A2, A3, n1, n2, n3, c1, c2, c3, s, l, (hb.block bx (heap_lt hg)).trans hg, hv.below hb⟩, h.disk.kept hb, h.okM, h.okR, h.sizeM, h.sizeR, h.stepsM, h.stepsR, h.pos, h.off, h.low, h.below.trans (lower' hb h.below.size)⟩
theorem BoxD.drew (h : BoxD W0 wr bx p bs bw N T M R) : BoxD W0 wr.drew bx p bs bw N T M R := h.kept (Below.refl _ _).drew
/-- The disk is written. -/
theorem BoxD.wrote (h : BoxD W0 wr bx p bs bw N T M M) {i : Int} {b : List UInt8} (hD : DiskM w' p bs bw (M.writeM i b) (T + 1)) (hf : Fr wr w' [p, bw]) (hT : T ≤ 1000) : BoxD W0 w' bx p bs bw N (T + 1) (M.writeM i b) M := by
  obtain ⟨A1, A2, A3, n1, n2, n3, c1, c2, c3, s, l, hg, hv⟩ := h.box
  obtain ⟨f1, f2, f3⟩ := write_facts M i b
  have ho := h.off
  have h1 := h.okM
  have h2 := h.stepsM
  exact ⟨⟨A1, A2, A3, n1, n2, n3, c1, c2, c3, s, l, (hf.block bx (heap_lt hg) (by simp; omega)).trans hg, hv.fr hf (by simp)⟩, hD, ⟨by rw [f1]; exact h1.size, by omega, Nat.le_trans f3 h1.left, by omega⟩, ⟨h1.size, h1.steps, h1.left, by omega⟩, f1.trans h.sizeM, h.sizeR, by omega, by omega, h.pos, h.off, h.low,
    h.below.trans (hf.below h.below.size (by have := h.low; simp; omega))⟩
/-- The document's disk is written: what its call answers. -/
theorem BoxD.rwrite (h : BoxD W0 wr bx p bs bw N T M R) {v : Value} (hv : RefV wr [bx, p, bs, bw] (refOf R) v) (i : Int) (b : List UInt8) :
    Calls Try.prog 19 #[v, .int .i64 i, .string ⟨b.toArray⟩] wr fun e w' => ∃ B1 B2 B3 m1 m2 m3 d1 d2 d3 s l, e = .returned (.tuple #[.agg #[.slice B1 m1 d1, .slice B2 m2 d2, .slice B3 m3 d3, .int .i64 s, .int .i64 l], .int .i64 (R.writeE i b)]) ∧ RefV w' [bx, p, bs, bw] (refOf (R.writeM i b)) (.agg #[.slice B1 m1 d1, .slice B2 m2 d2, .slice B3 m3 d3, .int .i64 s, .int .i64 l]) ∧ Below wr.heap.size wr w' := by
  have hl := h.disk.lt
  have hx := h.lt
  refine (rwrite_any wr [bx, p, bs, bw] (refOf R) v hv (refOf_ok h.okR) (by simp; omega) i b).mono ?_
  rintro e w' ⟨v', rfl, hR, hb⟩
  rw [(refOf_write R i b).1]
  rw [(refOf_write R i b).2] at hR
  have hR' := hR
  obtain ⟨A1, A2, A3, c1, c2, c3, rfl, _, _, _⟩ := hR'
  exact ⟨_, _, _, _, _, _, _, _, _, _, _, rfl, hR, hb⟩
/-- The answer is stored. -/
theorem BoxD.put (h : BoxD W0 wr bx p bs bw N T M R) (hb : Below wr.heap.size wr w') {B1 B2 B3 : Option Addr} {m1 m2 m3 d1 d2 d3 : Nat} {s l : Int} (hR : RefV w' [bx, p, bs, bw] (refOf M) (.agg #[.slice B1 m1 d1, .slice B2 m2 d2, .slice B3 m3 d3, .int .i64 s, .int .i64 l])) :
    BoxD W0 (((((w'.setCell ⟨bx, 0, none⟩ (.slice B1 m1 d1)).setCell ⟨bx, 1, none⟩ (.slice B2 m2 d2)).setCell ⟨bx, 2, none⟩ (.slice B3 m3 d3)).setCell ⟨bx, 3, none⟩ (.int .i64 s)).setCell ⟨bx, 4, none⟩ (.int .i64 l)) bx p bs bw N T M M := by
  have h7 := h.kept hb
  obtain ⟨A1, A2, A3, n1, n2, n3, c1, c2, c3, s', l', hg, hv⟩ := h7.box
  have hf : Fr w' (((((w'.setCell ⟨bx, 0, none⟩ (.slice B1 m1 d1)).setCell ⟨bx, 1, none⟩ (.slice B2 m2 d2)).setCell ⟨bx, 2, none⟩ (.slice B3 m3 d3)).setCell ⟨bx, 3, none⟩ (.int .i64 s)).setCell ⟨bx, 4, none⟩ (.int .i64 l)) [bx] := (((((Fr.refl _ _).setCell (by simp) _).setCell (by simp) _).setCell (by simp) _).setCell (by simp) _).setCell (by simp) _
  have ho := h.off
  exact ⟨⟨_, _, _, _, _, _, _, _, _, _, _, set5 hg _ _ _ _ _, hR.fr hf (by simp)⟩, h7.disk.fr hf (by simp; omega) (by simp; omega) (by simp; omega), h.okM, h.okM, h.sizeM, h.sizeM, h.stepsM, h.stepsM, h.pos, h.off, h.low, h7.below.trans (hf.below h7.below.size (by have := h.low; simp; omega))⟩
theorem BoxD.both (h : BoxD W0 wr bx p bs bw N T M M) {v : Value} (hv : RefV wr [bx, p, bs, bw] (refOf M) v) : Both wr p bs bw T M v := ⟨h.disk, hv.sub (fun _ hy => List.mem_cons_of_mem _ hy), h.okM⟩
end
end Go.Proofs.Ytdjcpjfomgfjlaa
