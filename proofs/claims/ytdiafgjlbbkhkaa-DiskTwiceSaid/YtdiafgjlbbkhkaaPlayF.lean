/- The law's Play as one contract; the document's New of a number that is none; what a struct's block is not. -/
import Derived.Test.YtdiafgjlbbkhkaaPlayE
import Derived.Test.YtdiafgjlbbkhkaaDskU
namespace Go.Proofs.Ytdiafgjlbbkhkaa
open Go.RowKit Go.Maps

theorem play_any (w : World) (B T p bs bw : Nat) (M : DM) (v : Value) (o : OpR) (h : Pair w B T p bs bw M v) (ho : o.ok w B) (hB : B ≤ w.heap.size) (hT : T ≤ 1000) :
    Calls Try.prog 19 #[.pointer (some ⟨p, 0, none⟩), v, o.v] w fun e w' => Played w w' B T p bs bw M e := by
  by_cases h1 : o.kind = 1
  · cases hw : o.raw with
    | true => exact play_write_raw w B T p bs bw M v o h ho hB hT h1 hw
    | false => exact play_write_cut w B T p bs bw M v o h ho hB hT h1 hw
  · by_cases h2 : o.kind = 2
    · exact play_flush w B T p bs bw M v o h ho hB hT h2
    · by_cases h3 : o.kind = 3
      · exact play_arm w B T p bs bw M v o h ho hB hT h3
      · by_cases h4 : o.kind = 4
        · exact play_crash w B T p bs bw M v o h ho hB hT h4
        · exact play_none w B T p bs bw M v o h ho hB hT h1 h2 h3 h4

set_option maxRecDepth 100000 in
set_option maxHeartbeats 1000000 in
theorem rnew_bad (n : Int) (w : World) (h : n < 1 ∨ 4096 < n) :
    Calls Try.prog 18 #[.int .i64 n] w fun e w' => e = .returned (.tuple #[.agg #[.slice none 0 0, .slice none 0 0, .slice none 0 0, .int .i64 0, .int .i64 0], .int .i64 1]) ∧ Below w.heap.size w w' := by
  have hb : Below w.heap.size w (w.alloc (.cells #[.slice none 0 0, .slice none 0 0, .slice none 0 0, .int .i64 0, .int .i64 0] 31)) := (Below.refl _ _).alloc (Nat.le_refl _) _
  have hg := heap_alloc_new w (.cells #[.slice none 0 0, .slice none 0 0, .slice none 0 0, .int .i64 0, .int .i64 0] 31)
  have HB := Lib.hid (And.intro hb hg)
  clear hb hg
  have step : ∀ W : World, Below w.heap.size w W → W.heap[w.heap.size]? = some (.cells #[.slice none 0 0, .slice none 0 0, .slice none 0 0, .int .i64 0, .int .i64 0] 31) → Below w.heap.size w (((((W.setCell ⟨w.heap.size, 0, none⟩ (.slice none 0 0)).setCell ⟨w.heap.size, 1, none⟩ (.slice none 0 0)).setCell ⟨w.heap.size, 2, none⟩ (.slice none 0 0)).setCell ⟨w.heap.size, 3, none⟩ (.int .i64 0)).setCell ⟨w.heap.size, 4, none⟩ (.int .i64 0)) := fun W h1 _ =>
    ((((h1.setCell (Nat.le_refl _) _).setCell (Nat.le_refl _) _).setCell (Nat.le_refl _) _).setCell (Nat.le_refl _) _).setCell (Nat.le_refl _) _
  have HS := Lib.hid step
  clear step
  by_cases h1 : n < 1
  · go_enter Try.func18, Try.ntmps18
    go_upto_region 1 with go_in
    generalize w.alloc (.cells #[.slice none 0 0, .slice none 0 0, .slice none 0 0, .int .i64 0, .int .i64 0] 31) = W at HB ⊢
    have z0 := cell_of_row W w.heap.size 0 _ _ _ HB.out.2
    have z1 := cell_of_row W w.heap.size 1 _ _ _ HB.out.2
    have z2 := cell_of_row W w.heap.size 2 _ _ _ HB.out.2
    have z3 := cell_of_row W w.heap.size 3 _ _ _ HB.out.2
    have z4 := cell_of_row W w.heap.size 4 _ _ _ HB.out.2
    have zf0 := frozen_of_row W w.heap.size 0 _ _ HB.out.2
    have zf1 := frozen_of_row W w.heap.size 1 _ _ HB.out.2
    have zf2 := frozen_of_row W w.heap.size 2 _ _ HB.out.2
    have zf3 := frozen_of_row W w.heap.size 3 _ _ HB.out.2
    have zf4 := frozen_of_row W w.heap.size 4 _ _ HB.out.2
    go_wp2_with go_in
    exact bodyPost_ret (resNew (set5 HB.out.2 _ _ _ _ _) _ rfl) rfl ⟨rfl, HS.out W HB.out.1 HB.out.2⟩
  · have h2 : 4096 < n := by omega
    clear h
    go_enter Try.func18, Try.ntmps18
    go_upto_region 1 with go_in
    generalize w.alloc (.cells #[.slice none 0 0, .slice none 0 0, .slice none 0 0, .int .i64 0, .int .i64 0] 31) = W at HB ⊢
    have z0 := cell_of_row W w.heap.size 0 _ _ _ HB.out.2
    have z1 := cell_of_row W w.heap.size 1 _ _ _ HB.out.2
    have z2 := cell_of_row W w.heap.size 2 _ _ _ HB.out.2
    have z3 := cell_of_row W w.heap.size 3 _ _ _ HB.out.2
    have z4 := cell_of_row W w.heap.size 4 _ _ _ HB.out.2
    have zf0 := frozen_of_row W w.heap.size 0 _ _ HB.out.2
    have zf1 := frozen_of_row W w.heap.size 1 _ _ HB.out.2
    have zf2 := frozen_of_row W w.heap.size 2 _ _ HB.out.2
    have zf3 := frozen_of_row W w.heap.size 3 _ _ HB.out.2
    have zf4 := frozen_of_row W w.heap.size 4 _ _ HB.out.2
    go_wp2_with go_in
    exact bodyPost_ret (resNew (set5 HB.out.2 _ _ _ _ _) _ rfl) rfl ⟨rfl, HS.out W HB.out.1 HB.out.2⟩

theorem Sl.off {w : World} {X : List Nat} {A : Option Addr} {xs : List Value} {b : Nat} {cs : Array Value} {t : TypeId} {fr : Nat × Nat} (h : Sl w X A xs) (hn : xs ≠ []) (hb : w.heap[b]? = some (.cells cs t fr)) (hx : ∀ x ∈ xs, x ∉ cs) : Sl w (b :: X) A xs := by
  refine ⟨h.1, fun a ha hm => ?_⟩
  rcases List.mem_cons.1 hm with e | e
  · obtain ⟨b', o, e', _, hc⟩ := h.1 hn
    rw [e'] at ha; cases ha
    change b' = b at e
    subst e
    obtain ⟨x, r, hxr⟩ := List.exists_cons_of_ne_nil hn
    have := hc 0 x (by rw [hxr]; rfl)
    rw [cell_of_row w b' _ _ _ _ hb] at this
    exact hx x (by simp [hxr]) (Array.mem_of_getElem? this)
  · exact h.2 a ha e
section
variable {w w' : World} {b p bs bw B T n1 n2 n3 c1 c2 c3 : Nat} {M : DM} {v : Value} {A1 A2 A3 : Option Addr} {s l : Int} {t : TypeId} {fr : Nat × Nat} {X : List Nat}
theorem RefV.off (h : RefV w X (refOf M) v) (hp : 0 < M.size) (hb : w.heap[b]? = some (.cells #[.slice A1 n1 c1, .slice A2 n2 c2, .slice A3 n3 c3, .int .i64 s, .int .i64 l] t fr)) : RefV w (b :: X) (refOf M) v := by
  obtain ⟨a1, a2, a3, d1, d2, d3, rfl, h1, h2, h3⟩ := h
  have ne : ∀ {α : Type} (f : Nat → α), (List.range M.size).map f ≠ [] := fun f e => by have := congrArg List.length e; simp at this; omega
  have hs : ∀ (L : List (List UInt8)), ∀ x ∈ strs L, x ∉ #[Value.slice A1 n1 c1, .slice A2 n2 c2, .slice A3 n3 c3, .int .i64 s, .int .i64 l] := by
    intro L x hx
    obtain ⟨y, _, rfl⟩ := List.mem_map.1 hx
    simp
  have hbs : ∀ (L : List Bool), ∀ x ∈ bools L, x ∉ #[Value.slice A1 n1 c1, .slice A2 n2 c2, .slice A3 n3 c3, .int .i64 s, .int .i64 l] := by
    intro L x hx
    obtain ⟨y, _, rfl⟩ := List.mem_map.1 hx
    simp
  exact ⟨a1, a2, a3, d1, d2, d3, rfl, h1.off (by simp only [strs, refOf, List.map_map]; exact ne _) hb (hs _), h2.off (by simp only [strs, refOf, List.map_map]; exact ne _) hb (hs _), h3.off (by simp only [bools, refOf, List.map_map]; exact ne _) hb (hbs _)⟩
theorem DiskM.off (h : DiskM w p bs bw M T) (hb : w.heap[b]? = some (.cells #[.slice A1 n1 c1, .slice A2 n2 c2, .slice A3 n3 c3, .int .i64 s, .int .i64 l] t fr)) : p ≠ b ∧ bs ≠ b ∧ bw ≠ b := by
  obtain ⟨D, ⟨h1, _, ns, nw, ⟨es, cl, h2, _⟩, ⟨es2, cl2, h3, _⟩, _⟩, _⟩ := h
  refine ⟨?_, ?_, ?_⟩
  · rintro rfl
    rw [h1] at hb
    unfold DK.cells at hb
    simp at hb
  · rintro rfl
    rw [h2] at hb
    cases hb
  · rintro rfl
    rw [h3] at hb
    cases hb
theorem Pair.fr1 (h : Pair w B T p bs bw M v) (hb : w.heap[b]? = some (.cells #[.slice A1 n1 c1, .slice A2 n2 c2, .slice A3 n3 c3, .int .i64 s, .int .i64 l] t fr)) (hf : Fr w w' [b]) : Pair w' B T p bs bw M v := by
  have hd := h.both.disk.off hb
  refine ⟨⟨h.both.disk.fr hf (by simpa using hd.1) (by simpa using hd.2.1) (by simpa using hd.2.2), ?_, h.both.ok⟩, h.p, h.bs, h.bw, h.steps, h.pos⟩
  exact ((h.both.ref.off h.pos hb).fr hf (by simp)).sub (fun y hy => List.mem_cons_of_mem _ hy)
end
/-- Within a script: a disk, and the document's of the same in a block. -/
def PlayIn (w wr : World) (b7 k m : Nat) (d : Value) : Prop :=
  ∃ p bs bw M A1 A2 A3 n1 n2 n3 c1 c2 c3 s l, d = .pointer (some ⟨p, 0, none⟩) ∧ Pair wr w.heap.size k p bs bw M (.agg #[.slice A1 n1 c1, .slice A2 n2 c2, .slice A3 n3 c3, .int .i64 s, .int .i64 l]) ∧ M.size = m ∧
    wr.heap[b7]? = some (.cells #[.slice A1 n1 c1, .slice A2 n2 c2, .slice A3 n3 c3, .int .i64 s, .int .i64 l] 31 (0, 0)) ∧ Below w.heap.size w wr
theorem op_cells {w : World} {B : Nat} {A : Option Addr} {L : List OpR} (h : Rd w B A (opsC L)) {k : Nat} (hk : k < L.length) : ∃ ab ao, A = some ⟨ab, ao, none⟩ ∧ ab < B ∧ ∀ w' : World, Below B w w' →
    w'.cell? ⟨ab, ao + k * 6, none⟩ = some (.int .i64 L[k].kind) ∧ w'.cell? ⟨ab, ao + k * 6 + 1, none⟩ = some (.int .i64 L[k].n) ∧ w'.cell? ⟨ab, ao + k * 6 + 2, none⟩ = some (.int .i64 L[k].cut) ∧
    w'.cell? ⟨ab, ao + k * 6 + 3, none⟩ = some (.slice L[k].b.A L[k].b.l.length L[k].b.c) ∧ w'.cell? ⟨ab, ao + k * 6 + 4, none⟩ = some (.bool L[k].raw) ∧ w'.cell? ⟨ab, ao + k * 6 + 5, none⟩ = some (.slice L[k].KA L[k].keep.length L[k].kc) := by
  obtain ⟨ab, ao, e, hab, hc⟩ := h (by intro e; have := opsC_len L; rw [e] at this; simp at this; omega)
  refine ⟨ab, ao, e, hab, fun w' hb => ?_⟩
  have key : ∀ j (hj : j < 6), w'.cell? ⟨ab, ao + (k * 6 + j), none⟩ = L[k].cells[j]? := fun j hj => by
    have hg := opsC_get L k hk j hj
    obtain ⟨u, hu⟩ : ∃ u, L[k].cells[j]? = some u := ⟨_, List.getElem?_eq_getElem (l := L[k].cells) (i := j) (by simpa [OpR.cells] using hj)⟩
    rw [hu] at hg ⊢
    exact (hb.cell (p := ⟨ab, ao + (k * 6 + j), none⟩) hab).trans (hc _ u hg)
  refine ⟨key 0 (by omega), ?_, ?_, ?_, ?_, ?_⟩
  · exact key 1 (by omega)
  · exact key 2 (by omega)
  · exact key 3 (by omega)
  · exact key 4 (by omega)
  · exact key 5 (by omega)
end Go.Proofs.Ytdiafgjlbbkhkaa
