/- The document's log: Open. -/
import Derived.Test.YtdjcpjfomgfjlaaLogAC
import Derived.Deep.CutBlock
import Derived.Deep.CutRange
namespace Go.Proofs.Ytdjcpjfomgfjlaa
open Go.RowKit Go.Maps

theorem wpL_appK4 {ops : Array Oper} {rest : List Oper} {o : Oper} {a : Act} {Q : Exit → Act → World → Prop} (w : World) (hgd : o.guard = none) (s x : Operand) (t : TypeId)
    (ho : o.op = .call { callee := .builtin .append, args := #[s, x], argTypes := #[t, t] }) (hty : o.type = t) (v y v' : Value) (w' : World) (hs : a.eval s = v) (hx : a.eval x = y)
    (hrun : (Builtin.append_ #[t, t] t #[v, y]).run Try.prog w = .ok v' w') (h : wpList Try.prog ops Q rest (a.put o.dst v') w') : wpList Try.prog ops Q (o :: rest) a w := by
  refine wpList_plain hgd fun K hK => ?_
  exact step_appK' w s x t ho hty v y v' w' hs hx hrun (hK _ _ h)
/-- append of a number. -/
theorem app_int4 {w W : World} {base n c : Nat} {A : Option Addr} {L : List Nat} (hown : W.ownsRow base 3 1 (.slice A L.length c) L.length (ints L)) (x : Nat) (hB : base ≤ W.heap.size) (hn : L.length ≤ 100000) :
    ∃ A' c' w', (Builtin.append_ #[88, 88] 88 #[.slice A L.length c, .slice (some ⟨W.heap.size, 0, none⟩) 1 1]).run Try.prog (W.alloc (.cells #[.int .i64 (x : Int)] 3)) = .ok (.slice A' (L.length + 1) c') w' ∧ w'.ownsRow base 3 1 (.slice A' (L.length + 1) c') (L.length + 1) (ints (L ++ [x])) ∧ Below base W w' := by
  obtain ⟨i, hi, hz0, hz1, hz2⟩ := info_parts infoInt
  have hb : Below base W (W.alloc (.cells #[.int .i64 (x : Int)] 3)) := (Below.refl _ _).alloc hB _
  obtain ⟨v', w', hrun, h1, h2, h3⟩ := run_appR (P := Try.prog) (W.alloc (.cells #[.int .i64 (x : Int)] 3)) base 88 88 3 i _ 1 8 Try.underlying88 hi hz0 hz1 hz2 rfl (by omega) (.slice A L.length c) L.length (ints L) (World.ownsRow.alloc hown _) (W.heap.size + 1) (some ⟨W.heap.size, 0, none⟩) 1 1 [.int .i64 (x : Int)] rfl (Rd.new W #[.int .i64 (x : Int)] 3 (0, 0)) (by simp [Value.oneCell']) (by omega) (by omega) (by simp; omega)
  obtain ⟨A', c', rfl, _, _, _⟩ := own_shape h1
  refine ⟨A', c', w', hrun, ?_, hb.trans (grown_below' h2 (fun z hz => (World.ownsRow.lt hown z hz).1) (by simp; omega))⟩
  have e : ints (L ++ [x]) = ints L ++ [.int .i64 (x : Int)] := by simp [ints]
  rw [e]
  exact h1
abbrev dkZ0 : Obj := .cells #[.slice none 0 0, .slice none 0 0, .slice none 0 0, .int .i64 0, .int .i64 0] 33
abbrev lgZ0 : Obj := .cells #[.int .i64 0, .int .i64 0, .slice none 0 0, .int .i64 0] 42
/-- Where Open is: the disk's box, the results' two. -/
structure OpX (w wr : World) (X : List Nat) (M : DM) : Prop where
  box : ∃ A1 A2 A3 n1 n3 c1 c2 c3 s l, wr.heap[w.heap.size]? = some (.cells #[.slice A1 n1 c1, .slice A2 M.size c2, .slice A3 n3 c3, .int .i64 s, .int .i64 l] 33 (0, 0)) ∧ RefV wr (w.heap.size :: (w.heap.size + 1) :: (w.heap.size + 2) :: X) (refOf M) (.agg #[.slice A1 n1 c1, .slice A2 M.size c2, .slice A3 n3 c3, .int .i64 s, .int .i64 l]) ∧ Rd wr wr.heap.size A2 (strs ((List.range M.size).map M.get))
  res1 : wr.heap[w.heap.size + 1]? = some (.cells #[.slice none 0 0, .slice none 0 0, .slice none 0 0, .int .i64 0, .int .i64 0] 33 (0, 0))
  res2 : wr.heap[w.heap.size + 2]? = some (.cells #[.int .i64 0, .int .i64 0, .slice none 0 0, .int .i64 0] 42 (0, 0))
  below : Below w.heap.size w wr
  size : w.heap.size + 3 ≤ wr.heap.size
theorem refv_now {w : World} {X : List Nat} {M : DM} {A1 A2 A3 : Option Addr} {n1 n2 n3 c1 c2 c3 : Nat} {s l : Int} (hv : RefV w X (refOf M) (.agg #[.slice A1 n1 c1, .slice A2 n2 c2, .slice A3 n3 c3, .int .i64 s, .int .i64 l])) : n2 = M.size ∧ Rd w w.heap.size A2 (strs ((List.range M.size).map M.get)) := by
  obtain ⟨B1, B2, B3, d1, d2, d3, he, h1, h2, h3⟩ := hv
  simp only [Value.agg.injEq] at he
  have h9 := congrArg (fun a : Array Value => a[1]?) he
  simp at h9
  obtain ⟨rfl, rfl, rfl⟩ := h9
  exact ⟨refOf_len M, h2.1⟩
variable {w wr w' : World} {X : List Nat} {M : DM}
theorem OpX.new {A1 A2 A3 : Option Addr} {n1 n3 c1 c2 c3 : Nat} {s l : Int} (hv : RefV w X (refOf M) (.agg #[.slice A1 n1 c1, .slice A2 M.size c2, .slice A3 n3 c3, .int .i64 s, .int .i64 l])) (hp : 0 < M.size) :
    OpX w (((w.alloc (.cells #[.slice A1 n1 c1, .slice A2 M.size c2, .slice A3 n3 c3, .int .i64 s, .int .i64 l] 33)).alloc dkZ0).alloc lgZ0) X M := by
  have hs1 := alloc1_size w (.cells #[.slice A1 n1 c1, .slice A2 M.size c2, .slice A3 n3 c3, .int .i64 s, .int .i64 l] 33)
  have hs2 := alloc1_size (w.alloc (.cells #[.slice A1 n1 c1, .slice A2 M.size c2, .slice A3 n3 c3, .int .i64 s, .int .i64 l] 33)) dkZ0
  have h1 := heap_alloc_new w (.cells #[.slice A1 n1 c1, .slice A2 M.size c2, .slice A3 n3 c3, .int .i64 s, .int .i64 l] 33)
  have h2 := heap_alloc_new (w.alloc (.cells #[.slice A1 n1 c1, .slice A2 M.size c2, .slice A3 n3 c3, .int .i64 s, .int .i64 l] 33)) dkZ0
  have h3 := heap_alloc_new ((w.alloc (.cells #[.slice A1 n1 c1, .slice A2 M.size c2, .slice A3 n3 c3, .int .i64 s, .int .i64 l] 33)).alloc dkZ0) lgZ0
  rw [hs1] at h2
  rw [hs2, hs1] at h3
  have hb : Below w.heap.size w (((w.alloc (.cells #[.slice A1 n1 c1, .slice A2 M.size c2, .slice A3 n3 c3, .int .i64 s, .int .i64 l] 33)).alloc dkZ0).alloc lgZ0) := (((Below.refl _ _).alloc (Nat.le_refl _) _).alloc (by rw [hs1]; omega) _).alloc (by rw [hs2]; omega) _
  have hv2 := ((hv.ext (Y := [w.heap.size, w.heap.size + 1, w.heap.size + 2]) hp (by simp)).sub (Y := w.heap.size :: (w.heap.size + 1) :: (w.heap.size + 2) :: X) (by intro y hy; simp at hy ⊢; rcases hy with h | h | h | h <;> simp [h])).below hb
  exact ⟨⟨A1, A2, A3, n1, n3, c1, c2, c3, s, l, (Below.heap_alloc _ _ _ (by rw [hs2]; omega)).trans ((Below.heap_alloc _ _ _ (by rw [hs1]; omega)).trans h1), hv2, (refv_now hv2).2⟩, (Below.heap_alloc _ _ _ (by rw [hs2]; omega)).trans h2, h3, hb, by rw [alloc1_size, hs2, hs1]; omega⟩
theorem OpX.kept (h : OpX w wr X M) (hb : Below wr.heap.size wr w') : OpX w w' X M := by
  obtain ⟨A1, A2, A3, n1, n3, c1, c2, c3, s, l, hg, hv, hr⟩ := h.box
  have hv2 := hv.below hb
  exact ⟨⟨A1, A2, A3, n1, n3, c1, c2, c3, s, l, (hb.block _ (heap_lt hg)).trans hg, hv2, (refv_now hv2).2⟩, (hb.block _ (heap_lt h.res1)).trans h.res1, (hb.block _ (heap_lt h.res2)).trans h.res2, h.below.trans (lower' hb h.below.size), Nat.le_trans h.size hb.size⟩
theorem OpX.put (h : OpX w wr X M) (hb : Below wr.heap.size wr w') {M' : DM} {B1 B2 B3 : Option Addr} {m1 m2 m3 d1 d2 d3 : Nat} {s l : Int} (hR : RefV w' (w.heap.size :: (w.heap.size + 1) :: (w.heap.size + 2) :: X) (refOf M') (.agg #[.slice B1 m1 d1, .slice B2 m2 d2, .slice B3 m3 d3, .int .i64 s, .int .i64 l])) :
    OpX w (((((w'.setCell ⟨w.heap.size, 0, none⟩ (.slice B1 m1 d1)).setCell ⟨w.heap.size, 1, none⟩ (.slice B2 m2 d2)).setCell ⟨w.heap.size, 2, none⟩ (.slice B3 m3 d3)).setCell ⟨w.heap.size, 3, none⟩ (.int .i64 s)).setCell ⟨w.heap.size, 4, none⟩ (.int .i64 l)) X M' := by
  have h7 := h.kept hb
  obtain ⟨A1, A2, A3, n1, n3, c1, c2, c3, s', l', hg, hv, hr⟩ := h7.box
  have hf : Fr w' (((((w'.setCell ⟨w.heap.size, 0, none⟩ (.slice B1 m1 d1)).setCell ⟨w.heap.size, 1, none⟩ (.slice B2 m2 d2)).setCell ⟨w.heap.size, 2, none⟩ (.slice B3 m3 d3)).setCell ⟨w.heap.size, 3, none⟩ (.int .i64 s)).setCell ⟨w.heap.size, 4, none⟩ (.int .i64 l)) [w.heap.size] := (((((Fr.refl _ _).setCell (by simp) _).setCell (by simp) _).setCell (by simp) _).setCell (by simp) _).setCell (by simp) _
  obtain ⟨rfl, -⟩ := refv_now hR
  have hR2 := hR.fr hf (by simp)
  exact ⟨⟨_, _, _, _, _, _, _, _, _, _, set5 hg _ _ _ _ _, hR2, (refv_now hR2).2⟩, (hf.block _ (heap_lt h7.res1) (by simp)).trans h7.res1, (hf.block _ (heap_lt h7.res2) (by simp)).trans h7.res2, h7.below.trans (hf.below h7.below.size (by simp)), by have := hf.size; have := h7.size; omega⟩
abbrev set54 (wr : World) (b : Nat) (v0 v1 v2 v3 v4 u0 u1 u2 u3 : Value) : World := (((((((((wr.setCell ⟨b + 1, 0, none⟩ v0).setCell ⟨b + 1, 1, none⟩ v1).setCell ⟨b + 1, 2, none⟩ v2).setCell ⟨b + 1, 3, none⟩ v3).setCell ⟨b + 1, 4, none⟩ v4).setCell ⟨b + 2, 0, none⟩ u0).setCell ⟨b + 2, 1, none⟩ u1).setCell ⟨b + 2, 2, none⟩ u2).setCell ⟨b + 2, 3, none⟩ u3)
/-- What is handed back is stored. -/
theorem OpX.done (h : OpX w wr X M) {v : Value} (hR : RefV wr (w.heap.size :: (w.heap.size + 1) :: (w.heap.size + 2) :: X) (refOf M) v) (v0 v1 v2 v3 v4 u0 u1 u2 u3 : Value) :
    (set54 wr w.heap.size v0 v1 v2 v3 v4 u0 u1 u2 u3).heap[w.heap.size + 1]? = some (.cells #[v0, v1, v2, v3, v4] 33 (0, 0)) ∧ (set54 wr w.heap.size v0 v1 v2 v3 v4 u0 u1 u2 u3).heap[w.heap.size + 2]? = some (.cells #[u0, u1, u2, u3] 42 (0, 0)) ∧ RefV (set54 wr w.heap.size v0 v1 v2 v3 v4 u0 u1 u2 u3) X (refOf M) v ∧ Below w.heap.size w (set54 wr w.heap.size v0 v1 v2 v3 v4 u0 u1 u2 u3) ∧ Fr wr (set54 wr w.heap.size v0 v1 v2 v3 v4 u0 u1 u2 u3) [w.heap.size + 1, w.heap.size + 2] := by
  have hf1 : Fr wr (((((wr.setCell ⟨w.heap.size + 1, 0, none⟩ v0).setCell ⟨w.heap.size + 1, 1, none⟩ v1).setCell ⟨w.heap.size + 1, 2, none⟩ v2).setCell ⟨w.heap.size + 1, 3, none⟩ v3).setCell ⟨w.heap.size + 1, 4, none⟩ v4) [w.heap.size + 1] := (((((Fr.refl _ _).setCell (by simp) _).setCell (by simp) _).setCell (by simp) _).setCell (by simp) _).setCell (by simp) _
  have g1 := set5 h.res1 v0 v1 v2 v3 v4
  have g2 := (hf1.block _ (heap_lt h.res2) (by simp)).trans h.res2
  have hf2 : Fr (((((wr.setCell ⟨w.heap.size + 1, 0, none⟩ v0).setCell ⟨w.heap.size + 1, 1, none⟩ v1).setCell ⟨w.heap.size + 1, 2, none⟩ v2).setCell ⟨w.heap.size + 1, 3, none⟩ v3).setCell ⟨w.heap.size + 1, 4, none⟩ v4) (set54 wr w.heap.size v0 v1 v2 v3 v4 u0 u1 u2 u3) [w.heap.size + 2] := ((((Fr.refl _ _).setCell (by simp) _).setCell (by simp) _).setCell (by simp) _).setCell (by simp) _
  have hf : Fr wr (set54 wr w.heap.size v0 v1 v2 v3 v4 u0 u1 u2 u3) [w.heap.size + 1, w.heap.size + 2] := (hf1.mono (by simp)).trans (hf2.mono (by simp))
  refine ⟨(hf2.block _ (heap_lt g1) (by simp)).trans g1, set4 g2 u0 u1 u2 u3, (hR.fr hf (by simp)).sub (fun y hy => by simp [hy]), h.below.trans (hf.below h.below.size (by simp)), hf⟩
theorem resOpen {b c : Nat} {v0 v1 v2 v3 v4 u0 u1 u2 u3 : Value} (h : w.heap[b]? = some (.cells #[v0, v1, v2, v3, v4] 33 (0, 0))) (k : w.heap[c]? = some (.cells #[u0, u1, u2, u3] 42 (0, 0))) (tmps : Array Value) (h6 : tmps.getD 6 undef = .pointer (some ⟨b, 0, none⟩)) (h7 : tmps.getD 7 undef = .pointer (some ⟨c, 0, none⟩)) :
    (results Try.f10 tmps).run Try.prog w = .ok (.tuple #[.agg #[v0, v1, v2, v3, v4], .agg #[u0, u1, u2, u3], tmps.getD 8 undef]) w := by
  have e0 := cell_of_row w b 0 _ _ _ h; have e1 := cell_of_row w b 1 _ _ _ h; have e2 := cell_of_row w b 2 _ _ _ h; have e3 := cell_of_row w b 3 _ _ _ h; have e4 := cell_of_row w b 4 _ _ _ h
  have d0 := cell_of_row w c 0 _ _ _ k; have d1 := cell_of_row w c 1 _ _ _ k; have d2 := cell_of_row w c 2 _ _ _ k; have d3 := cell_of_row w c 3 _ _ _ k
  have h6' := h6
  have h7' := h7
  simp only [Array.getD_eq_getD_getElem?] at h6' h7'
  simp [results, Try.results10, go_sem, h6', h7', e0, e1, e2, e3, e4, d0, d1, d2, d3]
/-- What the document's Open leaves. -/
def OpenedR (w w' : World) (X : List Nat) (M' : DM) (code : Int) (first count : Nat) (rs : List Rec) (e : Ending) : Prop :=
  ∃ B1 B2 B3 m1 m2 m3 d1 d2 d3 s l l0 l1 l2 l3, e = .returned (.tuple #[.agg #[.slice B1 m1 d1, .slice B2 m2 d2, .slice B3 m3 d3, .int .i64 s, .int .i64 l], .agg #[l0, l1, l2, l3], .int .i64 code]) ∧ RefV w' X (refOf M') (.agg #[.slice B1 m1 d1, .slice B2 m2 d2, .slice B3 m3 d3, .int .i64 s, .int .i64 l]) ∧
    (code = 0 → ∃ A' c', l0 = .int .i64 (first : Int) ∧ l1 = .int .i64 (count : Int) ∧ l2 = .slice A' rs.length c' ∧ l3 = .int .i64 (nxtN rs : Int) ∧ w'.ownsRow w.heap.size 97 2 (.slice A' rs.length c') rs.length (recS rs)) ∧ (code ≠ 0 → l0 = .int .i64 0 ∧ l1 = .int .i64 0 ∧ l2 = .slice none 0 0 ∧ l3 = .int .i64 0) ∧ Below w.heap.size w w'
end Go.Proofs.Ytdjcpjfomgfjlaa
