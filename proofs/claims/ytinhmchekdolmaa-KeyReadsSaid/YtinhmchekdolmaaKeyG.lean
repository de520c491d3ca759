/- KeyBetween's closure and the step of KeyThree: a part appended to a copy of a key. -/
import Derived.Test.YtinhmchekdolmaaProg
import Derived.Test.YtinhmchekdolmaaKeyC
import Derived.Test.YtinhmchekdolmaaKeyP
import Derived.WalkKit
import Derived.WalkSpells
import Derived.WalkLawsBesides
import Derived.Deep.QuietTactic
import Derived.Deep.RegionHeld3
import Derived.BigQuiet
import Derived.KernelRfl
import Derived.Lib.Hide
namespace Go.Proofs.Ytinhmchekdolmaa
open Go.RowKit

/-- append of parts, at the operation, in a region that draws its order. -/
theorem step_appP {ops : Array Oper} {o : Oper} {a : Act} {K : Act → World → Prop} {Q : Exit → Act → World → Prop} {E : Prop} (w : World) (hw : Region.wanted o (yielded ops a.tmps) = true) (s x : Operand)
    (ho : o.op = .call { callee := .builtin .append, args := #[s, x], argTypes := #[22, 22] }) (base : Nat) (v : Value) (ks : List KPart) (hs : a.eval s = v) (hown : OwnP w base 38 v ks)
    (B : Nat) (A : Option Addr) (m c : Nat) (qs : List KPart) (hx : a.eval x = .slice A m c) (hm : m = qs.length) (hr : Rd w B A (pcs qs)) (hlen : ks.length + qs.length ≤ 4398046511104) (hbase : base ≤ w.heap.size)
    (h : ∀ v' w', OwnP w' base 38 v' (ks ++ qs) → Below base w w' → K (a.put o.dst v') w') :
    if Region.wanted o (yielded ops a.tmps) = true then Oper.wp Try.prog o a w K Q else E := by
  rw [if_pos hw]
  subst hm
  obtain ⟨i0, hi, hz0, hz1, hz2⟩ := info_parts infoPart
  obtain ⟨v', w', hrun, h2, h3, _⟩ := run_appR (P := Try.prog) w base 22 o.type 38 i0 _ 3 32 Try.underlying22 hi hz0 hz1 hz2 rfl (by omega) v _ _ hown B A qs.length c (pcs qs) (pcs_length qs) hr (pcs_one qs) (by omega) (by omega) hbase
  unfold Oper.wp execOp
  simp only [ho, resolve, invoke, builtin, Sem.run_bind, Sem.run_pure, Result.andThen_ok, List.map_toArray, List.map_cons, List.map_nil, hs, hx, hrun]
  refine h v' w' (by unfold OwnP; rw [List.length_append, pcs_append]; exact h2) ((Below.refl _ _).grown h3 hbase (fun k hk => (World.ownsRow.lt hown k hk).1))

theorem OwnP.shape {w : World} {base : Nat} {e : TypeId} {v : Value} {ks : List KPart} (h : OwnP w base e v ks) : ∃ A c, v = .slice A ks.length c ∧ ks.length ≤ c ∧ c ≤ maxLen ∧ Rd w w.heap.size A (pcs ks) := own_shape h
theorem OwnP.alloc {w : World} {base : Nat} {e : TypeId} {v : Value} {ks : List KPart} (h : OwnP w base e v ks) (o : Obj) : OwnP (w.alloc o) base e v ks := World.ownsRow.alloc h o
theorem OwnP.below {w w' : World} {base : Nat} {e : TypeId} {v : Value} {ks : List KPart} (h : OwnP w base e v ks) {B : Nat} (hb : Below B w w') (hB : w.heap.size ≤ B) : OwnP w' base e v ks := own_below h hb hB

theorem fits_snoc {ks : List KPart} {q : KPart} (hf : ∀ p ∈ ks, p.fits) (hq : q.fits) : ∀ p ∈ ks ++ [q], p.fits := by
  intro p hp
  rcases List.mem_append.1 hp with h | h
  · exact hf p h
  · simp at h
    subst h
    exact hq

set_option maxRecDepth 100000 in
set_option maxHeartbeats 2000000 in
theorem with_any (A : Option Addr) (ks : List KPart) (c B bf : Nat) (q : KPart) (w : World) (hfr : w.cell? ⟨bf, 0, none⟩ = some (.slice A ks.length c)) (hr : Rd w B A (pcs ks)) (hB : B ≤ w.heap.size)
    (hl : ks.length ≤ 4398046511100) (hf : ∀ p ∈ ks, p.fits) (hq : q.fits) :
    Calls Try.prog 25 #[.agg q.cells, .pointer (some ⟨bf, 0, none⟩)] w fun e w' => ∃ v, e = .returned v ∧ OwnB w' w.heap.size 5 v (encB (ks ++ [q])) ∧ Below w.heap.size w w' := by
  have lbf := World.block_lt_of_cell? w _ hfr
  simp only at lbf
  go_enter Try.func25, Try.ntmps25
  go_wp2_with fail
  obtain ⟨b, hb⟩ : ∃ b, b = w.heap.size := ⟨_, rfl⟩
  have hB1 : Below w.heap.size w (w.alloc (.cells q.cells 38)) := (Below.refl _ _).alloc (Nat.le_refl _) _
  have hs1 : w.heap.size < (w.alloc (.cells q.cells 38)).heap.size := by simp
  have c0 : (w.alloc (.cells q.cells 38)).cell? ⟨b, 0, none⟩ = some (.bool q.text) := by rw [hb]; exact cell_of_row _ w.heap.size 0 q.cells _ (0, 0) (heap_alloc_new w _)
  have c1 : (w.alloc (.cells q.cells 38)).cell? ⟨b, 1, none⟩ = some (.string q.s) := by rw [hb]; exact cell_of_row _ w.heap.size 1 q.cells _ (0, 0) (heap_alloc_new w _)
  have c2 : (w.alloc (.cells q.cells 38)).cell? ⟨b, 2, none⟩ = some (.int .i64 q.n) := by rw [hb]; exact cell_of_row _ w.heap.size 2 q.cells _ (0, 0) (heap_alloc_new w _)
  have cf := (hB1.cell (p := ⟨bf, 0, none⟩) lbf).trans hfr
  have hr1 := hr.below hB1 hB
  rw [← hb]
  have hbs : b < (w.alloc (.cells q.cells 38)).heap.size := by omega
  generalize w.alloc (.cells q.cells 38) = W at *
  have hBW : B ≤ W.heap.size := by omega
  have lbW : bf < W.heap.size := by omega
  clear hb hfr hr
  have KS : ∀ w', Below W.heap.size W w' → (Below W.heap.size W w' ∧ w'.cell? ⟨bf, 0, none⟩ = some (.slice A ks.length c) ∧ w'.cell? ⟨b, 0, none⟩ = some (.bool q.text) ∧ w'.cell? ⟨b, 1, none⟩ = some (.string q.s) ∧ w'.cell? ⟨b, 2, none⟩ = some (.int .i64 q.n)) :=
    fun w' h => ⟨h, (h.cell (p := ⟨bf, 0, none⟩) lbW).trans cf, (h.cell (p := ⟨b, 0, none⟩) hbs).trans c0, (h.cell (p := ⟨b, 1, none⟩) hbs).trans c1, (h.cell (p := ⟨b, 2, none⟩) hbs).trans c2⟩
  have HK := Lib.hid KS
  have henc : ∀ (W' : World) (A3 : Option Addr) (c3 : Nat), Rd W' W'.heap.size A3 (pcs (ks ++ [q])) → (ks ++ [q]).length ≤ c3 → c3 ≤ maxLen → Calls Try.prog 13 #[.slice A3 (ks ++ [q]).length c3] W' fun e w' => ∃ v', e = .returned (.tuple #[v', .int .i64 (encE (ks ++ [q]))]) ∧ OwnB w' W'.heap.size 5 v' (encB (ks ++ [q])) ∧ Below W'.heap.size W' w' :=
    fun W' A3 c3 h1 h2 h3 => encode_any A3 (ks ++ [q]) _ c3 W'.heap.size W' rfl h1 (Nat.le_refl _) h2 (by unfold maxLen at h3; exact h3) (fits_snoc hf hq)
  have hap : ∀ (W' : World) (base : Nat) (v : Value), OwnP W' base 38 v (ks ++ [q]) → OwnP W' base 38 v (ks ++ [q]) := fun _ _ _ h => h
  obtain ⟨x, hx⟩ : ∃ x, x = encE (ks ++ [q]) := ⟨_, rfl⟩
  obtain ⟨l, hl2⟩ : ∃ l, l = encB (ks ++ [q]) := ⟨_, rfl⟩
  rw [← hx, ← hl2] at henc
  have HLB := Lib.hid hl2
  clear hx hl2
  obtain ⟨kq, hkq⟩ : ∃ kq, kq = ks ++ [q] := ⟨_, rfl⟩
  rw [← hkq] at henc
  conv at hap => rw [← hkq]
  have hkl : kq.length ≤ 4398046511104 := by rw [hkq]; simp; omega
  have HE := Lib.hid henc
  have HQ := Lib.hid hkq
  clear KS hf henc hkq hap
  go_region_held3 (fun w' => Below W.heap.size W w' ∧ w'.cell? ⟨bf, 0, none⟩ = some (.slice A ks.length c) ∧ w'.cell? ⟨b, 0, none⟩ = some (.bool q.text) ∧ w'.cell? ⟨b, 1, none⟩ = some (.string q.s) ∧ w'.cell? ⟨b, 2, none⟩ = some (.int .i64 q.n))
    (first
      | exact HK.out _ (Below.refl _ _).drew
      | exact HK.out _ hBx4
      | exact HK.out _ hBx3
      | exact HK.out _ hBx
      | (refine HK.out _ ?_; obtain ⟨hBo, -⟩ : Below W.heap.size W _ ∧ _ := (by assumption); exact hBo.alloc hBo.size _))
    (first
      | (go_at_call 12; obtain ⟨hBo, -⟩ : Below W.heap.size W _ ∧ _ := (by assumption); refine (own_any A ks _ c B _ rfl (hr1.below hBo hBW) (Nat.le_trans hBW hBo.size) (by omega)).mono ?_; rintro e w2 ⟨v2, rfl, hown2, hb2⟩; have hBx := hBo.trans (hb2.mono hBo.size))
      | (go_at_call 13; refine (HE.out w3 A3 c3 hr3 hc3 hm3).mono ?_; rintro e w4 ⟨v4, rfl, hown4, hb4⟩; have hBx4 := hBx3.trans (hb4.mono hBx3.size))
      | (refine step_appP w2 (by rfl) (.tmp 8) (.tmp 10) rfl _ v2 ks rfl hown2 (W.heap.size + 1) (some ⟨W.heap.size, 0, none⟩) 1 1 [q] rfl rfl ((Rd.new W.drew _ _ _).below hb2 (by simp)) (by simp; omega) (by have := hb2.size; simp at this ⊢; omega) ?_; intro v3 w3 hown3 hb3; rw [← HQ.out] at hown3; have hBx3 : Below W.heap.size W w3 := hBx.trans (hb3.mono (by have := hb2.size; simp)); obtain ⟨A3, c3, rfl, hc3, hm3, hr3⟩ := hown3.shape)
      | (refine step_appP (w2.alloc _) (by rfl) (.tmp 8) (.tmp 10) rfl _ v2 ks rfl (hown2.alloc _) (w2.heap.size + 1) (some ⟨w2.heap.size, 0, none⟩) 1 1 [q] rfl rfl (Rd.new w2 _ _ _) (by simp; omega) (by have := hb2.size; simp at this ⊢; omega) ?_; intro v3 w3 hown3 hb3; rw [← HQ.out] at hown3; have hBx3 : Below W.heap.size W w3 := (hBx.alloc hBx.size _).trans (hb3.mono (by simp)); obtain ⟨A3, c3, rfl, hc3, hm3, hr3⟩ := hown3.shape))
  all_goals go_wp2
  all_goals go_ret
  all_goals exact ⟨_, rfl, by rw [← HLB.out]; exact hown4.mono (by have := hBx3.size; omega), hB1.trans (hBx4.mono (by omega))⟩
end Go.Proofs.Ytinhmchekdolmaa
