/- A view with memory of its own: rhizomelaw09.Own. -/
import Derived.Test.YtgldcahhliokeaaJoBB
import Derived.Test.YtgldcahhliokeaaJoBE
namespace Go.Proofs.Ytgldcahhliokeaa
open Go.RowKit Go.Maps

theorem infoAtom : (Try.prog.info? 69).map (fun i => (i.zero, i.size, i.bytes)) = some (some (.agg #[.string .empty, .string .empty, .string .empty]), 3, 48) := by kernel_rfl
theorem atsC_one (a : List Atm) : ∀ u ∈ atsC a, u.oneCell' = true := by
  intro u hu
  obtain ⟨x, _, hx⟩ := List.mem_flatMap.1 hu
  unfold atC at hx
  simp only [List.mem_cons, List.not_mem_nil, or_false] at hx
  rcases hx with rfl | rfl | rfl <;> rfl
/-- A row of atoms of the call's own. -/
def AtRow (lo : Nat) (w : World) (v : Value) (l : List Atm) : Prop := w.ownsRow lo 69 3 v l.length (atsC l)
theorem AtRow.ats {lo : Nat} {w : World} {A : Option Addr} {n c : Nat} {l : List Atm} (h : AtRow lo w (.slice A n c) l) (hl : l.length ≤ 100) : Ats w A c l := by
  obtain ⟨A', c', e, h1, h2, h3⟩ := own_shape h
  injection e with e1 e2 e3
  subst e1 e3
  exact ⟨h3, h1, hl⟩
theorem StrRow.sts' {lo : Nat} {w : World} {A : Option Addr} {n c : Nat} {l : List Nm} (h : StrRow lo w (.slice A n c) l) (hl : l.length ≤ 100) : Sts w A c l := by
  obtain ⟨A', c', e, h1⟩ := h.sts hl
  injection e with e1 e2 e3
  subst e1 e3
  exact h1
theorem copy_strs (W : World) {A : Option Addr} {c : Nat} {l : List Nm} (h : Sts W A c l) :
    ∃ A5 c5 w5, (Builtin.append_ #[22, 22] 22 #[.slice (some ⟨W.heap.size, 0, none⟩) 0 0, .slice A l.length c]).run Try.prog (W.alloc (.cells #[] 9)) = .ok (.slice A5 l.length c5) w5 ∧ StrRow W.heap.size w5 (.slice A5 l.length c5) l ∧ Below W.heap.size W w5 := by
  obtain ⟨i, hi, hz0, hz1, hz2⟩ := info_parts infoStr
  have hs := h.sm
  have hb1 : Below W.heap.size W (W.alloc (.cells #[] 9)) := (Below.refl _ _).alloc (Nat.le_refl _) _
  have hrd := (h.rd.below hb1 (Nat.le_refl _)).more hb1.size
  obtain ⟨v', w', hrun, h1, h2, h3⟩ := run_appR (P := Try.prog) (W.alloc (.cells #[] 9)) W.heap.size 22 22 9 i _ 1 16 Try.underlying22 hi hz0 hz1 hz2 rfl (by omega) _ 0 [] (own_lit0 W (Nat.le_refl _)) _ A l.length c (strs l) (by rw [strs_len, Nat.mul_one]) hrd (strs_one l) (by omega) (by omega) hb1.size
  rw [Nat.zero_add, List.nil_append] at h1
  obtain ⟨A', c', rfl, _, _, _⟩ := own_shape h1
  exact ⟨A', c', w', hrun, h1, hb1.trans (grown_below' h2 (fun k hk => by cases hk; exact Nat.le_refl _) hb1.size)⟩
theorem copy_ats (W : World) {A : Option Addr} {c : Nat} {l : List Atm} (h : Ats W A c l) :
    ∃ A5 c5 w5, (Builtin.append_ #[23, 23] 23 #[.slice (some ⟨W.heap.size, 0, none⟩) 0 0, .slice A l.length c]).run Try.prog (W.alloc (.cells #[] 69)) = .ok (.slice A5 l.length c5) w5 ∧ AtRow W.heap.size w5 (.slice A5 l.length c5) l ∧ Below W.heap.size W w5 := by
  obtain ⟨i, hi, hz0, hz1, hz2⟩ := info_parts infoAtom
  have hs := h.sm
  have hb1 : Below W.heap.size W (W.alloc (.cells #[] 69)) := (Below.refl _ _).alloc (Nat.le_refl _) _
  have hrd := (h.rd.below hb1 (Nat.le_refl _)).more hb1.size
  obtain ⟨v', w', hrun, h1, h2, h3⟩ := run_appR (P := Try.prog) (W.alloc (.cells #[] 69)) W.heap.size 23 23 69 i _ 3 48 Try.underlying23 hi hz0 hz1 hz2 rfl (by omega) _ 0 [] (own_lit0 W (Nat.le_refl _)) _ A l.length c (atsC l) (atsC_len l) hrd (atsC_one l) (by omega) (by omega) hb1.size
  rw [Nat.zero_add, List.nil_append] at h1
  obtain ⟨A', c', rfl, _, _, _⟩ := own_shape h1
  exact ⟨A', c', w', hrun, h1, hb1.trans (grown_below' h2 (fun k hk => by cases hk; exact Nat.le_refl _) hb1.size)⟩
theorem put5 {w : World} {b : Nat} {a0 a1 a2 a3 a4 : Value} {t : TypeId} (h : w.heap[b]? = some (.cells #[a0, a1, a2, a3, a4] t (0, 0))) (v0 v1 v2 v3 v4 : Value) :
    (((((w.setCell ⟨b, 0, none⟩ v0).setCell ⟨b, 1, none⟩ v1).setCell ⟨b, 2, none⟩ v2).setCell ⟨b, 3, none⟩ v3).setCell ⟨b, 4, none⟩ v4).heap[b]? = some (.cells #[v0, v1, v2, v3, v4] t (0, 0)) := by
  have h1 := heap_setCell_same _ b 0 _ _ v0 h
  have h2 := heap_setCell_same _ b 1 _ _ v1 h1
  have h3 := heap_setCell_same _ b 2 _ _ v2 h2
  have h4 := heap_setCell_same _ b 3 _ _ v3 h3
  exact heap_setCell_same _ b 4 _ _ v4 h4
theorem resOwn {w : World} {b : Nat} {v0 v1 v2 v3 v4 : Value} (h : w.heap[b]? = some (.cells #[v0, v1, v2, v3, v4] 25 (0, 0))) (tmps : Array Value) (h2 : tmps.getD 2 undef = .pointer (some ⟨b, 0, none⟩)) :
    (results Try.f13 tmps).run Try.prog w = .ok (.agg #[v0, v1, v2, v3, v4]) w := by
  obtain ⟨e0, e1, e2, e3, e4⟩ := box5 h
  have h2' := h2
  simp only [Array.getD_eq_getD_getElem?] at h2'
  simp [results, Try.results13, go_sem, h2', e0, e1, e2, e3, e4]
/-- What Own answers. -/
def OwnVP (w : World) (v : Vw) (e : Ending) (w' : World) : Prop := ∃ y : VW, y.v = v ∧ e = .returned (.agg (vwA y)) ∧ y.Ok w' ∧ StrRow w.heap.size w' (.slice y.oA v.out.length y.oc) v.out ∧ AtRow w.heap.size w' (.slice y.aA v.atoms.length y.ac) v.atoms ∧ Below w.heap.size w w'
set_option maxRecDepth 100000 in
set_option maxHeartbeats 4000000 in
theorem own_any (x : VW) (w : World) (h : x.Ok w) : Calls Try.prog 13 #[.agg (vwA x)] w (OwnVP w x.v) := by
  have hbx := boxes_at w (.cells (vwA x) 25) (.cells #[.string ⟨#[]⟩, .int .i64 0, .slice none 0 0, .slice none 0 0, .string ⟨#[]⟩] 25)
  have hz2 : ((w.alloc (.cells (vwA x) 25)).alloc (.cells #[.string ⟨#[]⟩, .int .i64 0, .slice none 0 0, .slice none 0 0, .string ⟨#[]⟩] 25)).heap.size = w.heap.size + 1 + 1 := by simp
  unfold vwA at hbx hz2 ⊢
  have H0 := Lib.hid h
  have HB := Lib.hid (And.intro hbx.1 (And.intro hbx.2.1 (And.intro hbx.2.2 hz2)))
  clear h hbx hz2
  go_enter Try.func13, Try.ntmps13
  go_upto_region 1 with (fail)
  generalize (w.alloc (.cells #[.string ⟨x.v.name.toArray⟩, .int .i64 x.v.kind, .slice x.oA x.v.out.length x.oc, .slice x.aA x.v.atoms.length x.ac, .string ⟨x.v.label.toArray⟩] 25)).alloc (.cells #[.string ⟨#[]⟩, .int .i64 0, .slice none 0 0, .slice none 0 0, .string ⟨#[]⟩] 25) = W2 at HB ⊢
  generalize hN : w.heap.size = N at HB ⊢
  obtain ⟨A5, c5, w5, hrun5, g5, b5⟩ := copy_strs W2 (H0.out.below (by rw [hN]; exact HB.out.2.2.1)).out
  have q2 := cell_of_row _ N 2 _ _ _ (keepA (o' := .cells #[] 9) HB.out.1)
  have k5 := (b5.block N (by have := HB.out.2.2.2; omega)).trans HB.out.1
  have z5 := (b5.block (N + 1) (by have := HB.out.2.2.2; omega)).trans HB.out.2.1
  have y2 := cell_of_row w5 N 2 _ _ _ k5
  have yf2 := frozen_of_row w5 N 2 _ _ k5
  have n5 : Below N w5 (w5.setCell ⟨N, 2, none⟩ (.slice A5 x.v.out.length c5)) := (Below.refl N w5).setCell (Nat.le_refl _) _
  have f5 : Fr w5 (w5.setCell ⟨N, 2, none⟩ (.slice A5 x.v.out.length c5)) [N] := (Fr.refl w5 [N]).setCell (by simp) _
  have r6 : StrRow (N + 1 + 1) (w5.setCell ⟨N, 2, none⟩ (.slice A5 x.v.out.length c5)) (.slice A5 x.v.out.length c5) x.v.out := by
    rw [← HB.out.2.2.2]
    exact rowFrS g5 f5 (fun t ht hm => by have := own_ge g5 t ht; have h2 := HB.out.2.2.2; simp at hm; omega)
  have k6 := heap_setCell_same w5 N 2 _ _ (.slice A5 x.v.out.length c5) k5
  have z6 := (f5.block (N + 1) (by have := HB.out.2.2.2; have := b5.size; omega) (by simp)).trans z5
  have s6 : N + 1 + 1 ≤ (w5.setCell ⟨N, 2, none⟩ (.slice A5 x.v.out.length c5)).heap.size := by have := HB.out.2.2.2; have h1 := b5.size; have h2 := n5.size; omega
  have b6 : Below N w (w5.setCell ⟨N, 2, none⟩ (.slice A5 x.v.out.length c5)) := (HB.out.2.2.1.trans (lower' b5 (by have := HB.out.2.2.2; omega))).trans n5
  have H6 := Lib.hid (And.intro r6 (And.intro k6 (And.intro z6 (And.intro s6 b6))))
  clear n5 f5 r6 k6 z6 s6 b6 k5 z5 b5 g5
  go_upto_region 2 with (at_builtin; refine wpL_appK _ rfl (.tmp 3) (.tmp 5) 22 rfl rfl _ _ _ _ rfl rfl hrun5 ?_)
  clear q2 y2 yf2 hrun5
  generalize w5.setCell ⟨N, 2, none⟩ (.slice A5 x.v.out.length c5) = w6 at H6 ⊢
  obtain ⟨A7, c7, w7, hrun7, g7, b7⟩ := copy_ats w6 (H0.out.below (by rw [hN]; exact H6.out.2.2.2.2)).ats
  have k6' : w6.heap[N]? = some (.cells #[.string ⟨x.v.name.toArray⟩, .int .i64 x.v.kind, .slice A5 x.v.out.length c5, .slice x.aA x.v.atoms.length x.ac, .string ⟨x.v.label.toArray⟩] 25 (0, 0)) := H6.out.2.1
  have q3 := cell_of_row _ N 3 _ _ _ (keepA (o' := .cells #[] 69) k6')
  have k7 := (b7.block N (by have := H6.out.2.2.2.1; omega)).trans k6'
  have z7 := (b7.block (N + 1) (by have := H6.out.2.2.2.1; omega)).trans H6.out.2.2.1
  have y3 := cell_of_row w7 N 3 _ _ _ k7
  have yf3 := frozen_of_row w7 N 3 _ _ k7
  have n7 : Below N w7 (w7.setCell ⟨N, 3, none⟩ (.slice A7 x.v.atoms.length c7)) := (Below.refl N w7).setCell (Nat.le_refl _) _
  have f7 : Fr w7 (w7.setCell ⟨N, 3, none⟩ (.slice A7 x.v.atoms.length c7)) [N] := (Fr.refl w7 [N]).setCell (by simp) _
  have rs7 : StrRow (N + 1 + 1) w7 (.slice A5 x.v.out.length c5) x.v.out := H6.out.1.kept b7
  have r8 : StrRow (N + 1 + 1) (w7.setCell ⟨N, 3, none⟩ (.slice A7 x.v.atoms.length c7)) (.slice A5 x.v.out.length c5) x.v.out := rowFrS rs7 f7 (fun t ht hm => by have := own_ge rs7 t ht; simp at hm; omega)
  have ra8 : AtRow (N + 1 + 1) (w7.setCell ⟨N, 3, none⟩ (.slice A7 x.v.atoms.length c7)) (.slice A7 x.v.atoms.length c7) x.v.atoms := own_mono (rowFrS g7 f7 (fun t ht hm => by have := own_ge g7 t ht; have h2 := H6.out.2.2.2.1; simp at hm; omega)) H6.out.2.2.2.1
  have k8 := heap_setCell_same w7 N 3 _ _ (.slice A7 x.v.atoms.length c7) k7
  have z8 := (f7.block (N + 1) (by have := H6.out.2.2.2.1; have := b7.size; omega) (by simp)).trans z7
  have s8 : N + 1 + 1 ≤ (w7.setCell ⟨N, 3, none⟩ (.slice A7 x.v.atoms.length c7)).heap.size := by have h1 := b7.size; have h2 := n7.size; have := H6.out.2.2.2.1; omega
  have b8 : Below N w (w7.setCell ⟨N, 3, none⟩ (.slice A7 x.v.atoms.length c7)) := (H6.out.2.2.2.2.trans (lower' b7 (by have := H6.out.2.2.2.1; omega))).trans n7
  have H8 := Lib.hid (And.intro r8 (And.intro ra8 (And.intro k8 (And.intro z8 (And.intro s8 b8)))))
  clear n7 f7 rs7 r8 ra8 k8 z8 s8 b8 k7 z7 b7 g7 k6'
  go_upto_region 3 with (at_builtin; refine wpL_appK _ rfl (.tmp 8) (.tmp 10) 23 rfl rfl _ _ _ _ rfl rfl hrun7 ?_)
  clear q3 y3 yf3 hrun7
  generalize w7.setCell ⟨N, 3, none⟩ (.slice A7 x.v.atoms.length c7) = w8 at H8 ⊢
  have k8' : w8.heap[N]? = some (.cells #[.string ⟨x.v.name.toArray⟩, .int .i64 x.v.kind, .slice A5 x.v.out.length c5, .slice A7 x.v.atoms.length c7, .string ⟨x.v.label.toArray⟩] 25 (0, 0)) := H8.out.2.2.1
  obtain ⟨q0, q1, q2, q3, q4⟩ := box5 k8'
  obtain ⟨e0, e1, e2, e3, e4⟩ := box5 H8.out.2.2.2.1
  have f0 := frozen_of_row w8 (N + 1) 0 _ _ H8.out.2.2.2.1
  have f1 := frozen_of_row w8 (N + 1) 1 _ _ H8.out.2.2.2.1
  have f2 := frozen_of_row w8 (N + 1) 2 _ _ H8.out.2.2.2.1
  have f3 := frozen_of_row w8 (N + 1) 3 _ _ H8.out.2.2.2.1
  have f4 := frozen_of_row w8 (N + 1) 4 _ _ H8.out.2.2.2.1
  clear k8'
  go_wp2_with (fail)
  have so : x.v.out.length ≤ 100 := H0.out.out.sm
  have sa : x.v.atoms.length ≤ 100 := H0.out.ats.sm
  have F9 := fun v0 v1 v2 v3 v4 => (((((Fr.refl w8 [N + 1]).setCell (p := ⟨N + 1, 0, none⟩) (by simp) v0).setCell (p := ⟨N + 1, 1, none⟩) (by simp) v1).setCell (p := ⟨N + 1, 2, none⟩) (by simp) v2).setCell (p := ⟨N + 1, 3, none⟩) (by simp) v3).setCell (p := ⟨N + 1, 4, none⟩) (by simp) v4
  have R9 := fun v0 v1 v2 v3 v4 => rowFrS H8.out.1 (F9 v0 v1 v2 v3 v4) (fun t ht hm => by have := own_ge H8.out.1 t ht; simp at hm; omega)
  have A9 := fun v0 v1 v2 v3 v4 => rowFrS H8.out.2.1 (F9 v0 v1 v2 v3 v4) (fun t ht hm => by have := own_ge H8.out.2.1 t ht; simp at hm; omega)
  have B9 := fun v0 v1 v2 v3 v4 => H8.out.2.2.2.2.2.trans ((F9 v0 v1 v2 v3 v4).below (B := N) (by have := H8.out.2.2.2.2.1; omega) (by simp))
  refine bodyPost_ret (resOwn (put5 H8.out.2.2.2.1 _ _ _ _ _) _ rfl) rfl ?_
  refine ⟨⟨A5, c5, A7, c7, x.v⟩, rfl, rfl, ⟨StrRow.sts' (R9 _ _ _ _ _) so, AtRow.ats (A9 _ _ _ _ _) sa⟩, ?_, ?_, ?_⟩
  · rw [hN]; exact own_mono (R9 _ _ _ _ _) (by omega)
  · rw [hN]; exact own_mono (A9 _ _ _ _ _) (by omega)
  · rw [hN]; exact B9 _ _ _ _ _
end Go.Proofs.Ytgldcahhliokeaa
