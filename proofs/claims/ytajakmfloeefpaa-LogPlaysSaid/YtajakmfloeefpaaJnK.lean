/- Joined: LogAD LogAE LogAG. -/
import Derived.Test.YtajakmfloeefpaaJnJ
import Derived.Deep.CutBlock
import Derived.Deep.CutRange
import Derived.Test.YtajakmfloeefpaaJnG
import Derived.Test.YtajakmfloeefpaaJnH
/- The document's log: Open. -/
namespace Go.Proofs.Ytajakmfloeefpaa
open Go.RowKit Go.Maps

theorem wpL_appK4 {ops : Array Oper} {rest : List Oper} {o : Oper} {a : Act} {Q : Exit → Act → World → Prop} (w : World) (hgd : o.guard = none) (s x : Operand) (t : TypeId)
    (ho : o.op = .call { callee := .builtin .append, args := #[s, x], argTypes := #[t, t] }) (hty : o.type = t) (v y v' : Value) (w' : World) (hs : a.eval s = v) (hx : a.eval x = y)
    (hrun : (Builtin.append_ #[t, t] t #[v, y]).run Try.prog w = .ok v' w') (h : wpList Try.prog ops Q rest (a.put o.dst v') w') : wpList Try.prog ops Q (o :: rest) a w := by
  refine wpList_plain hgd fun K hK => ?_
  exact step_appK' w s x t ho hty v y v' w' hs hx hrun (hK _ _ h)
/-- append of a number. -/
theorem app_int4 {w W : World} {base n c : Nat} {A : Option Addr} {L : List Nat} (hown : W.ownsRow base 3 1 (.slice A L.length c) L.length (ints L)) (x : Nat) (hB : base ≤ W.heap.size) (hn : L.length ≤ 100000) :
    ∃ A' c' w', (Builtin.append_ #[70, 70] 70 #[.slice A L.length c, .slice (some ⟨W.heap.size, 0, none⟩) 1 1]).run Try.prog (W.alloc (.cells #[.int .i64 (x : Int)] 3)) = .ok (.slice A' (L.length + 1) c') w' ∧ w'.ownsRow base 3 1 (.slice A' (L.length + 1) c') (L.length + 1) (ints (L ++ [x])) ∧ Below base W w' := by
  obtain ⟨i, hi, hz0, hz1, hz2⟩ := info_parts infoInt
  have hb : Below base W (W.alloc (.cells #[.int .i64 (x : Int)] 3)) := (Below.refl _ _).alloc hB _
  obtain ⟨v', w', hrun, h1, h2, h3⟩ := run_appR (P := Try.prog) (W.alloc (.cells #[.int .i64 (x : Int)] 3)) base 70 70 3 i _ 1 8 Try.underlying70 hi hz0 hz1 hz2 rfl (by omega) (.slice A L.length c) L.length (ints L) (World.ownsRow.alloc hown _) (W.heap.size + 1) (some ⟨W.heap.size, 0, none⟩) 1 1 [.int .i64 (x : Int)] rfl (Rd.new W #[.int .i64 (x : Int)] 3 (0, 0)) (by simp [Value.oneCell']) (by omega) (by omega) (by simp; omega)
  obtain ⟨A', c', rfl, _, _, _⟩ := own_shape h1
  refine ⟨A', c', w', hrun, ?_, hb.trans (grown_below' h2 (fun z hz => (World.ownsRow.lt hown z hz).1) (by simp; omega))⟩
  have e : ints (L ++ [x]) = ints L ++ [.int .i64 (x : Int)] := by simp [ints]
  rw [e]
  exact h1
abbrev dkZ0 : Obj := .cells #[.slice none 0 0, .slice none 0 0, .slice none 0 0, .int .i64 0, .int .i64 0] 33
abbrev lgZ0 : Obj := .cells #[.int .i64 0, .int .i64 0, .slice none 0 0, .int .i64 0] 42
/-- Where Open is: the disk's box, the results' two. -/
structure OpX (w wr : World) (X : List Nat) (M : DM) : Prop where
  box : ∃ A1 A2 A3 n1 n3 c1 c2 c3 s l, wr.heap[w.heap.size]? = some (.cells #[.slice A1 n1 c1, .slice A2 M.size c2, .slice A3 n3 c3, .int .i64 s, .int .i64 l] 33 (0, 0)) ∧ RefV wr (w.heap.size :: (w.heap.size + 1) :: (w.heap.size + 2) :: X) (refOf M) (.agg #[.slice A1 n1 c1, .slice A2 M.size c2, .slice A3 n3 c3, .int .i64 s, .int .i64 l]) ∧ Rd wr wr.heap.size A2 (strs ((List.range M.size).map M.get))
  res1 : wr.heap[w.heap.size + 1]? = some (.cells #[.slice none 0 0, .slice none 0 0, .slice none 0 0, .int .i64 0, .int .i64 0] 33 (0, 0))
  res2 : wr.heap[w.heap.size + 2]? = some (.cells #[.int .i64 0, .int .i64 0, .slice none 0 0, .int .i64 0] 42 (0, 0))
  below : Below w.heap.size w wr
  size : w.heap.size + 3 ≤ wr.heap.size
theorem refv_now {w : World} {X : List Nat} {M : DM} {A1 A2 A3 : Option Addr} {n1 n2 n3 c1 c2 c3 : Nat} {s l : Int} (hv : RefV w X (refOf M) (.agg #[.slice A1 n1 c1, .slice A2 n2 c2, .slice A3 n3 c3, .int .i64 s, .int .i64 l])) : n2 = M.size ∧ Rd w w.heap.size A2 (strs ((List.range M.size).map M.get)) := by
  obtain ⟨B1, B2, B3, d1, d2, d3, he, h1, h2, h3⟩ := hv
  simp only [Value.agg.injEq] at he
  have h9 := congrArg (fun a : Array Value => a[1]?) he
  simp at h9
  obtain ⟨rfl, rfl, rfl⟩ := h9
  exact ⟨refOf_len M, h2.1⟩
variable {w wr w' : World} {X : List Nat} {M : DM}
theorem OpX.new {A1 A2 A3 : Option Addr} {n1 n3 c1 c2 c3 : Nat} {s l : Int} (hv : RefV w X (refOf M) (.agg #[.slice A1 n1 c1, .slice A2 M.size c2, .slice A3 n3 c3, .int .i64 s, .int .i64 l])) (hp : 0 < M.size) :
    OpX w (((w.alloc (.cells #[.slice A1 n1 c1, .slice A2 M.size c2, .slice A3 n3 c3, .int .i64 s, .int .i64 l] 33)).alloc dkZ0).alloc lgZ0) X M := by
  have hs1 := alloc1_size w (.cells #[.slice A1 n1 c1, .slice A2 M.size c2, .slice A3 n3 c3, .int .i64 s, .int .i64 l] 33)
  have hs2 := alloc1_size (w.alloc (.cells #[.slice A1 n1 c1, .slice A2 M.size c2, .slice A3 n3 c3, .int .i64 s, .int .i64 l] 33)) dkZ0
  have h1 := heap_alloc_new w (.cells #[.slice A1 n1 c1, .slice A2 M.size c2, .slice A3 n3 c3, .int .i64 s, .int .i64 l] 33)
  have h2 := heap_alloc_new (w.alloc (.cells #[.slice A1 n1 c1, .slice A2 M.size c2, .slice A3 n3 c3, .int .i64 s, .int .i64 l] 33)) dkZ0
  have h3 := heap_alloc_new ((w.alloc (.cells #[.slice A1 n1 c1, .slice A2 M.size c2, .slice A3 n3 c3, .int .i64 s, .int .i64 l] 33)).alloc dkZ0) lgZ0
  rw [hs1] at h2
  rw [hs2, hs1] at h3
  have hb : Below w.heap.size w (((w.alloc (.cells #[.slice A1 n1 c1, .slice A2 M.size c2, .slice A3 n3 c3, .int .i64 s, .int .i64 l] 33)).alloc dkZ0).alloc lgZ0) := (((Below.refl _ _).alloc (Nat.le_refl _) _).alloc (by rw [hs1]; omega) _).alloc (by rw [hs2]; omega) _
  have hv2 := ((hv.ext (Y := [w.heap.size, w.heap.size + 1, w.heap.size + 2]) hp (by simp)).sub (Y := w.heap.size :: (w.heap.size + 1) :: (w.heap.size + 2) :: X) (by intro y hy; simp at hy ⊢; rcases hy with h | h | h | h <;> simp [h])).below hb
  exact ⟨⟨A1, A2, A3, n1, n3, c1, c2, c3, s, l, (Below.heap_alloc _ _ _ (by rw [hs2]; omega)).trans ((Below.heap_alloc _ _ _ (by rw [hs1]; omega)).trans h1), hv2, (refv_now hv2).2⟩, (Below.heap_alloc _ _ _ (by rw [hs2]; omega)).trans h2, h3, hb, by rw [alloc1_size, hs2, hs1]; omega⟩
theorem OpX.kept (h : OpX w wr X M) (hb : Below wr.heap.size wr w') : OpX w w' X M := by
  obtain ⟨A1, A2, A3, n1, n3, c1, c2, c3, s, l, hg, hv, hr⟩ := h.box
  have hv2 := hv.below hb
  exact ⟨⟨A1, A2, A3, n1, n3, c1, c2, c3, s, l, (hb.block _ (heap_lt hg)).trans hg, hv2, (refv_now hv2).2⟩, (hb.block _ (heap_lt h.res1)).trans h.res1, (hb.block _ (heap_lt h.res2)).trans h.res2, h.below.trans (lower' hb h.below.size), Nat.le_trans h.size hb.size⟩
theorem OpX.put (h : OpX w wr X M) (hb : Below wr.heap.size wr w') {M' : DM} {B1 B2 B3 : Option Addr} {m1 m2 m3 d1 d2 d3 : Nat} {s l : Int} (hR : RefV w' (w.heap.size :: (w.heap.size + 1) :: (w.heap.size + 2) :: X) (refOf M') (.agg #[.slice B1 m1 d1, .slice B2 m2 d2, .slice B3 m3 d3, .int .i64 s, .int .i64 l])) :
    OpX w (((((w'.setCell ⟨w.heap.size, 0, none⟩ (.slice B1 m1 d1)).setCell ⟨w.heap.size, 1, none⟩ (.slice B2 m2 d2)).setCell ⟨w.heap.size, 2, none⟩ (.slice B3 m3 d3)).setCell ⟨w.heap.size, 3, none⟩ (.int .i64 s)).setCell ⟨w.heap.size, 4, none⟩ (.int .i64 l)) X M' := by
  have h7 := h.kept hb
  obtain ⟨A1, A2, A3, n1, n3, c1, c2, c3, s', l', hg, hv, hr⟩ := h7.box
  have hf : Fr w' (((((w'.setCell ⟨w.heap.size, 0, none⟩ (.slice B1 m1 d1)).setCell ⟨w.heap.size, 1, none⟩ (.slice B2 m2 d2)).setCell ⟨w.heap.size, 2, none⟩ (.slice B3 m3 d3)).setCell ⟨w.heap.size, 3, none⟩ (.int .i64 s)).setCell ⟨w.heap.size, 4, none⟩ (.int .i64 l)) [w.heap.size] := (((((Fr.refl _ _).setCell (by simp) _).setCell (by simp) _).setCell (by simp) _).setCell (by simp) _).setCell (by simp) _
  obtain ⟨rfl, -⟩ := refv_now hR
  have hR2 := hR.fr hf (by simp)
  exact ⟨⟨_, _, _, _, _, _, _, _, _, _, set5 hg _ _ _ _ _, hR2, (refv_now hR2).2⟩, (hf.block _ (heap_lt h7.res1) (by simp)).trans h7.res1, (hf.block _ (heap_lt h7.res2) (by simp)).trans h7.res2, h7.below.trans (hf.below h7.below.size (by simp)), by have := hf.size; have := h7.size; omega⟩
abbrev set54 (wr : World) (b : Nat) (v0 v1 v2 v3 v4 u0 u1 u2 u3 : Value) : World := (((((((((wr.setCell ⟨b + 1, 0, none⟩ v0).setCell ⟨b + 1, 1, none⟩ v1).setCell ⟨b + 1, 2, none⟩ v2).setCell ⟨b + 1, 3, none⟩ v3).setCell ⟨b + 1, 4, none⟩ v4).setCell ⟨b + 2, 0, none⟩ u0).setCell ⟨b + 2, 1, none⟩ u1).setCell ⟨b + 2, 2, none⟩ u2).setCell ⟨b + 2, 3, none⟩ u3)
/-- What is handed back is stored. -/
theorem OpX.done (h : OpX w wr X M) {v : Value} (hR : RefV wr (w.heap.size :: (w.heap.size + 1) :: (w.heap.size + 2) :: X) (refOf M) v) (v0 v1 v2 v3 v4 u0 u1 u2 u3 : Value) :
    (set54 wr w.heap.size v0 v1 v2 v3 v4 u0 u1 u2 u3).heap[w.heap.size + 1]? = some (.cells #[v0, v1, v2, v3, v4] 33 (0, 0)) ∧ (set54 wr w.heap.size v0 v1 v2 v3 v4 u0 u1 u2 u3).heap[w.heap.size + 2]? = some (.cells #[u0, u1, u2, u3] 42 (0, 0)) ∧ RefV (set54 wr w.heap.size v0 v1 v2 v3 v4 u0 u1 u2 u3) X (refOf M) v ∧ Below w.heap.size w (set54 wr w.heap.size v0 v1 v2 v3 v4 u0 u1 u2 u3) ∧ Fr wr (set54 wr w.heap.size v0 v1 v2 v3 v4 u0 u1 u2 u3) [w.heap.size + 1, w.heap.size + 2] := by
  have hf1 : Fr wr (((((wr.setCell ⟨w.heap.size + 1, 0, none⟩ v0).setCell ⟨w.heap.size + 1, 1, none⟩ v1).setCell ⟨w.heap.size + 1, 2, none⟩ v2).setCell ⟨w.heap.size + 1, 3, none⟩ v3).setCell ⟨w.heap.size + 1, 4, none⟩ v4) [w.heap.size + 1] := (((((Fr.refl _ _).setCell (by simp) _).setCell (by simp) _).setCell (by simp) _).setCell (by simp) _).setCell (by simp) _
  have g1 := set5 h.res1 v0 v1 v2 v3 v4
  have g2 := (hf1.block _ (heap_lt h.res2) (by simp)).trans h.res2
  have hf2 : Fr (((((wr.setCell ⟨w.heap.size + 1, 0, none⟩ v0).setCell ⟨w.heap.size + 1, 1, none⟩ v1).setCell ⟨w.heap.size + 1, 2, none⟩ v2).setCell ⟨w.heap.size + 1, 3, none⟩ v3).setCell ⟨w.heap.size + 1, 4, none⟩ v4) (set54 wr w.heap.size v0 v1 v2 v3 v4 u0 u1 u2 u3) [w.heap.size + 2] := ((((Fr.refl _ _).setCell (by simp) _).setCell (by simp) _).setCell (by simp) _).setCell (by simp) _
  have hf : Fr wr (set54 wr w.heap.size v0 v1 v2 v3 v4 u0 u1 u2 u3) [w.heap.size + 1, w.heap.size + 2] := (hf1.mono (by simp)).trans (hf2.mono (by simp))
  refine ⟨(hf2.block _ (heap_lt g1) (by simp)).trans g1, set4 g2 u0 u1 u2 u3, (hR.fr hf (by simp)).sub (fun y hy => by simp [hy]), h.below.trans (hf.below h.below.size (by simp)), hf⟩
theorem resOpen {b c : Nat} {v0 v1 v2 v3 v4 u0 u1 u2 u3 : Value} (h : w.heap[b]? = some (.cells #[v0, v1, v2, v3, v4] 33 (0, 0))) (k : w.heap[c]? = some (.cells #[u0, u1, u2, u3] 42 (0, 0))) (tmps : Array Value) (h6 : tmps.getD 6 undef = .pointer (some ⟨b, 0, none⟩)) (h7 : tmps.getD 7 undef = .pointer (some ⟨c, 0, none⟩)) :
    (results Try.f8 tmps).run Try.prog w = .ok (.tuple #[.agg #[v0, v1, v2, v3, v4], .agg #[u0, u1, u2, u3], tmps.getD 8 undef]) w := by
  have e0 := cell_of_row w b 0 _ _ _ h; have e1 := cell_of_row w b 1 _ _ _ h; have e2 := cell_of_row w b 2 _ _ _ h; have e3 := cell_of_row w b 3 _ _ _ h; have e4 := cell_of_row w b 4 _ _ _ h
  have d0 := cell_of_row w c 0 _ _ _ k; have d1 := cell_of_row w c 1 _ _ _ k; have d2 := cell_of_row w c 2 _ _ _ k; have d3 := cell_of_row w c 3 _ _ _ k
  have h6' := h6
  have h7' := h7
  simp only [Array.getD_eq_getD_getElem?] at h6' h7'
  simp [results, Try.results8, go_sem, h6', h7', e0, e1, e2, e3, e4, d0, d1, d2, d3]
/-- What the document's Open leaves. -/
def OpenedR (w w' : World) (X : List Nat) (M' : DM) (code : Int) (first count : Nat) (rs : List Rec) (e : Ending) : Prop :=
  ∃ B1 B2 B3 m1 m2 m3 d1 d2 d3 s l l0 l1 l2 l3, e = .returned (.tuple #[.agg #[.slice B1 m1 d1, .slice B2 m2 d2, .slice B3 m3 d3, .int .i64 s, .int .i64 l], .agg #[l0, l1, l2, l3], .int .i64 code]) ∧ RefV w' X (refOf M') (.agg #[.slice B1 m1 d1, .slice B2 m2 d2, .slice B3 m3 d3, .int .i64 s, .int .i64 l]) ∧
    (code = 0 → ∃ A' c', l0 = .int .i64 (first : Int) ∧ l1 = .int .i64 (count : Int) ∧ l2 = .slice A' rs.length c' ∧ l3 = .int .i64 (nxtN rs : Int) ∧ w'.ownsRow w.heap.size 80 2 (.slice A' rs.length c') rs.length (recS rs)) ∧ (code ≠ 0 → l0 = .int .i64 0 ∧ l1 = .int .i64 0 ∧ l2 = .slice none 0 0 ∧ l3 = .int .i64 0) ∧ Below w.heap.size w w'
end Go.Proofs.Ytajakmfloeefpaa
/- The document's log: Open, walked. -/
namespace Go.Proofs.Ytajakmfloeefpaa
open Go.RowKit Go.Maps

theorem fr5 (w : World) (b : Nat) (v0 v1 v2 v3 v4 : Value) : Fr w (((((w.setCell ⟨b, 0, none⟩ v0).setCell ⟨b, 1, none⟩ v1).setCell ⟨b, 2, none⟩ v2).setCell ⟨b, 3, none⟩ v3).setCell ⟨b, 4, none⟩ v4) [b] := (((((Fr.refl _ _).setCell (by simp) _).setCell (by simp) _).setCell (by simp) _).setCell (by simp) _).setCell (by simp) _
/-- The disk that comes back, its cells written out. -/
theorem wiped_form {w w' : World} {X : List Nat} {Mz : DM} {cz : Int} {e : Ending} (h : ∃ v', e = .returned (.tuple #[v', .int .i64 cz]) ∧ RefV w' X (refOf Mz) v' ∧ Below w.heap.size w w') : ∃ B1 B2 B3 m1 m2 m3 d1 d2 d3 s l, e = .returned (.tuple #[.agg #[.slice B1 m1 d1, .slice B2 m2 d2, .slice B3 m3 d3, .int .i64 s, .int .i64 l], .int .i64 cz]) ∧ RefV w' X (refOf Mz) (.agg #[.slice B1 m1 d1, .slice B2 m2 d2, .slice B3 m3 d3, .int .i64 s, .int .i64 l]) ∧ Below w.heap.size w w' := by
  obtain ⟨v', rfl, hR, hb⟩ := h
  have hR' := hR
  obtain ⟨A1, A2, A3, c1, c2, c3, rfl, _, _, _⟩ := hR'
  exact ⟨_, _, _, _, _, _, _, _, _, _, _, rfl, hR, hb⟩
theorem own_fr2 {w w' : World} {base size n a b : Nat} {e : TypeId} {v : Value} {xs : List Value} (h : w.ownsRow base e size v n xs) (hf : Fr w w' [a, b]) (ha : a < base) (hb : b < base) : w'.ownsRow base e size v n xs := by
  refine ⟨h.1, ?_⟩
  rcases h.2 with h2 | ⟨g, cap, cur, hv, hg, hgg, r⟩
  · exact .inl h2
  · refine .inr ⟨g, cap, cur, hv, hg, ?_, r⟩
    rw [hf.block g (Array.getElem?_eq_some_iff.1 hgg).1 (by simp; omega)]
    exact hgg
theorem done_drew {w wr W3 W9 : World} {X : List Nat} {M : DM} {v : Value} {cs ds : Array Value} {A : Option Addr} {c : Nat} {rs : List Rec} (h : W9.heap[w.heap.size + 1]? = some (.cells cs 33 (0, 0)) ∧ W9.heap[w.heap.size + 2]? = some (.cells ds 42 (0, 0)) ∧ RefV W9 X (refOf M) v ∧ Below w.heap.size w W9 ∧ Fr wr W9 [w.heap.size + 1, w.heap.size + 2]) (hz : w.heap.size + 3 ≤ W3.heap.size) (ho : wr.ownsRow W3.heap.size 80 2 (.slice A rs.length c) rs.length (recS rs)) :
    W9.drew.heap[w.heap.size + 1]? = some (.cells cs 33 (0, 0)) ∧ W9.drew.heap[w.heap.size + 2]? = some (.cells ds 42 (0, 0)) ∧ RefV W9.drew X (refOf M) v ∧ Below w.heap.size w W9.drew ∧ W9.drew.ownsRow w.heap.size 80 2 (.slice A rs.length c) rs.length (recS rs) :=
  ⟨h.1, h.2.1, h.2.2.1.below (Below.refl _ _).drew, h.2.2.2.1.drew, own_mono (own_fr2 ho h.2.2.2.2.drew (by omega) (by omega)) (by omega)⟩
theorem laid_dat {g : Nat → List UInt8} {behind : Nat} : ∀ {rs : List Rec} {a : Nat} {nx : Option Nat}, Laid g behind a nx rs → ∀ x ∈ rs, x.2.length ≤ 4000
  | [], _, _, _, x, hx => by cases hx
  | (s, d) :: r, a, nx, h, x, hx => by
    rcases List.mem_cons.1 hx with rfl | hx
    · exact (hdr_some h.1).2.2.1
    · exact laid_dat h.2.2.2.2 x hx
set_option maxRecDepth 100000 in
set_option maxHeartbeats 4000000 in
theorem ropen_bad (w : World) (X : List Nat) (M : DM) (T : Nat) (v : Value) (hv : RefV w X (refOf M) v) (hk : M.Ok T) (hp : 0 < M.size) (first count : Int) (hc : -9223372036854775808 ≤ count ∧ count ≤ 9223372036854775807) (h : openBad M.size first count) (f' c' : Nat) (rs : List Rec) :
    Calls Try.prog 8 #[v, .int .i64 first, .int .i64 count] w fun e w' => OpenedR w w' X M 1 f' c' rs e := by
  have hv' := hv
  obtain ⟨A1, A2, A3, c1, c2, c3, rfl, _, _, _⟩ := hv'
  have hn2 := (refv_now hv).1
  obtain ⟨n1, hn1⟩ : ∃ n, n = (refOf M).sure.length := ⟨_, rfl⟩
  obtain ⟨n3, hn3⟩ : ∃ n, n = (refOf M).fresh.length := ⟨_, rfl⟩
  obtain ⟨s, hsx⟩ : ∃ n, n = (refOf M).steps := ⟨_, rfl⟩
  obtain ⟨l, hlx⟩ : ∃ n, n = (refOf M).left := ⟨_, rfl⟩
  rw [hn2, ← hn1, ← hn3, ← hsx, ← hlx] at hv ⊢
  have hX3 := OpX.new hv hp
  have hsz : (M.size : Int) ≤ 4096 := by have := hk.size; omega
  have hcase : first < 0 ∨ (¬ first < 0 ∧ count < 2) ∨ (¬ first < 0 ∧ ¬ count < 2 ∧ (M.size : Int) < first) ∨ (¬ first < 0 ∧ ¬ count < 2 ∧ ¬ (M.size : Int) < first ∧ (M.size : Int) - first < count) := by unfold openBad at h; omega
  have HX3 := Lib.hid hX3
  clear hn1 hn2 hn3 hsx hlx hv hX3 h hk hp
  rcases hcase with h1 | ⟨h1, h2⟩ | ⟨h1, h2, h3⟩ | ⟨h1, h2, h3, h4⟩
  all_goals
    go_enter Try.func8, Try.ntmps8
    go_upto_region 1 with (fail)
    generalize (((w.alloc (.cells #[.slice A1 n1 c1, .slice A2 M.size c2, .slice A3 n3 c3, .int .i64 s, .int .i64 l] 33)).alloc (.cells #[.slice none 0 0, .slice none 0 0, .slice none 0 0, .int .i64 0, .int .i64 0] 33)).alloc (.cells #[.int .i64 0, .int .i64 0, .slice none 0 0, .int .i64 0] 42)) = W3 at HX3 ⊢
    obtain ⟨A1', A2', A3', n1', n3', c1', c2', c3', s', l', hg, hv, hr⟩ := HX3.out.box
    have hr1 := HX3.out.res1
    have hr2 := HX3.out.res2
    have x0 := cell_of_row W3 w.heap.size 0 _ _ _ hg; have x1 := cell_of_row W3 w.heap.size 1 _ _ _ hg; have x2 := cell_of_row W3 w.heap.size 2 _ _ _ hg; have x3 := cell_of_row W3 w.heap.size 3 _ _ _ hg; have x4 := cell_of_row W3 w.heap.size 4 _ _ _ hg
    have y0 := cell_of_row W3 (w.heap.size + 1) 0 _ _ _ hr1; have y1 := cell_of_row W3 (w.heap.size + 1) 1 _ _ _ hr1; have y2 := cell_of_row W3 (w.heap.size + 1) 2 _ _ _ hr1; have y3 := cell_of_row W3 (w.heap.size + 1) 3 _ _ _ hr1; have y4 := cell_of_row W3 (w.heap.size + 1) 4 _ _ _ hr1
    have yf0 := frozen_of_row W3 (w.heap.size + 1) 0 _ _ hr1; have yf1 := frozen_of_row W3 (w.heap.size + 1) 1 _ _ hr1; have yf2 := frozen_of_row W3 (w.heap.size + 1) 2 _ _ hr1; have yf3 := frozen_of_row W3 (w.heap.size + 1) 3 _ _ hr1; have yf4 := frozen_of_row W3 (w.heap.size + 1) 4 _ _ hr1
    have z0 := cell_of_row W3 (w.heap.size + 2) 0 _ _ _ hr2; have z1 := cell_of_row W3 (w.heap.size + 2) 1 _ _ _ hr2; have z2 := cell_of_row W3 (w.heap.size + 2) 2 _ _ _ hr2; have z3 := cell_of_row W3 (w.heap.size + 2) 3 _ _ _ hr2
    have zf0 := frozen_of_row W3 (w.heap.size + 2) 0 _ _ hr2; have zf1 := frozen_of_row W3 (w.heap.size + 2) 1 _ _ hr2; have zf2 := frozen_of_row W3 (w.heap.size + 2) 2 _ _ hr2; have zf3 := frozen_of_row W3 (w.heap.size + 2) 3 _ _ hr2
    have hd := HX3.out.done hv (.slice A1' n1' c1') (.slice A2' M.size c2') (.slice A3' n3' c3') (.int .i64 s') (.int .i64 l') (.int .i64 0) (.int .i64 0) (.slice none 0 0) (.int .i64 0)
    have HD := Lib.hid hd
    clear hg hv hr hr1 hr2 hd
    go_wp2_with (fail)
    exact bodyPost_ret (resOpen HD.out.1 HD.out.2.1 _ rfl rfl) rfl ⟨_, _, _, _, _, _, _, _, _, _, _, _, _, _, _, rfl, HD.out.2.2.1, (fun h => absurd h (by decide)), (fun _ => ⟨rfl, rfl, rfl, rfl⟩), HD.out.2.2.2.1⟩
set_option maxRecDepth 100000 in
set_option maxHeartbeats 4000000 in
theorem ropen_good (w : World) (X : List Nat) (M : DM) (T : Nat) (v : Value) (hv : RefV w X (refOf M) v) (hk : M.Ok T) (hst : M.steps + 4097 ≤ 1000000000) (hful : M.full) (hp : 0 < M.size) (hXl : ∀ x ∈ X, x < w.heap.size) (first count : Nat) (hc2 : 2 ≤ count) (hfit : first + count ≤ M.size) :
    Calls Try.prog 8 #[v, .int .i64 (first : Int), .int .i64 (count : Int)] w fun e w' => OpenedR w w' X (runOps (openOps M first (first + count)) M).2 (runOps (openOps M first (first + count)) M).1 first count (scan M.get (first + count) first none) e := by
  have hv' := hv
  obtain ⟨A1, A2, A3, c1, c2, c3, rfl, _, _, _⟩ := hv'
  have hn2 := (refv_now hv).1
  obtain ⟨n1, hn1⟩ : ∃ n, n = (refOf M).sure.length := ⟨_, rfl⟩
  obtain ⟨n3, hn3⟩ : ∃ n, n = (refOf M).fresh.length := ⟨_, rfl⟩
  obtain ⟨s, hsx⟩ : ∃ n, n = (refOf M).steps := ⟨_, rfl⟩
  obtain ⟨l, hlx⟩ : ∃ n, n = (refOf M).left := ⟨_, rfl⟩
  rw [hn2, ← hn1, ← hn3, ← hsx, ← hlx] at hv ⊢
  have hX3 := OpX.new hv hp
  have hsz : (M.size : Int) ≤ 4096 := by have := hk.size; omega
  have h1 : ¬ (first : Int) < 0 := by omega
  have h2 : ¬ (count : Int) < 2 := by omega
  have h3 : ¬ (M.size : Int) < (first : Int) := by omega
  have h4 : ¬ (M.size : Int) - (first : Int) < (count : Int) := by omega
  have hfI : (first : Int) + (count : Int) ≤ 4096 := by omega
  obtain ⟨rs, hrs⟩ : ∃ rs, rs = scan M.get (first + count) first none := ⟨_, rfl⟩
  rw [← hrs]
  have hlaid := laid_scan (g := M.get) (behind := first + count) (a := first) (nx := none) (fun i _ hi => (hful i (by omega)).2)
  rw [← hrs] at hlaid
  have hE0 := hlaid.end_le (Nat.le_add_right first count)
  have hdat : ∀ x ∈ rs, x.2.length ≤ 4000 := laid_dat hlaid
  have HX3 := Lib.hid hX3
  have HH := Lib.hid (And.intro hk (And.intro hst (And.intro hful (And.intro hp (And.intro hXl (And.intro hfit hrs))))))
  have HL := Lib.hid (And.intro hE0 hdat)
  clear hn1 hn2 hn3 hsx hlx hv hX3 hk hst hful hp hXl hfit hrs hc2 hlaid hE0 hdat
  obtain ⟨Rz, hRz⟩ : ∃ Rz, Rz = runOps (openOps M first (first + count)) M := ⟨_, rfl⟩
  rw [← hRz]
  have HRZ := Lib.hid hRz
  clear hRz
  go_enter Try.func8, Try.ntmps8
  go_upto_region 1 with (fail)
  generalize (((w.alloc (.cells #[.slice A1 n1 c1, .slice A2 M.size c2, .slice A3 n3 c3, .int .i64 s, .int .i64 l] 33)).alloc (.cells #[.slice none 0 0, .slice none 0 0, .slice none 0 0, .int .i64 0, .int .i64 0] 33)).alloc (.cells #[.int .i64 0, .int .i64 0, .slice none 0 0, .int .i64 0] 42)) = W3 at HX3 ⊢
  obtain ⟨A1', A2', A3', n1', n3', c1', c2', c3', s', l', hg, hv, hr⟩ := HX3.out.box
  have x0 := cell_of_row W3 w.heap.size 0 _ _ _ hg; have x1 := cell_of_row W3 w.heap.size 1 _ _ _ hg; have x2 := cell_of_row W3 w.heap.size 2 _ _ _ hg; have x3 := cell_of_row W3 w.heap.size 3 _ _ _ hg; have x4 := cell_of_row W3 w.heap.size 4 _ _ _ hg
  have hrd := rread_any M.get M.size first count (.slice A1' n1' c1') (.slice A3' n3' c3') s' l' A2' c2' W3.heap.size W3 hr (Nat.le_refl _) (fun i hi => (HH.out.2.2.1 i hi).2) HH.out.2.2.2.2.2.1 (by have := HH.out.1.size; omega)
  rw [← HH.out.2.2.2.2.2.2] at hrd
  have HRD := Lib.hid hrd
  clear hg hv hr hrd
  go_upto_region 4 with (go_at_call 32; (with_reducible refine HRD.out.mono ?_); rintro e w4 ⟨A4, c4, rfl, ho4, hb4⟩)
  have hbA : Below w4.heap.size w4 (w4.alloc (.cells #[.int .i64 (first : Int), .int .i64 (count : Int), .slice A4 rs.length c4, .int .i64 (nxtN rs : Int)] 42)) := (Below.refl _ _).alloc (Nat.le_refl _) _
  have hgl := heap_alloc_new w4 (.cells #[.int .i64 (first : Int), .int .i64 (count : Int), .slice A4 rs.length c4, .int .i64 (nxtN rs : Int)] 42)
  have hX5 := (HX3.out.kept hb4).kept hbA
  have ho5 := own_below ho4 hbA (Nat.le_refl _)
  have hlb : W3.heap.size ≤ w4.heap.size := hb4.size
  generalize (w4.alloc (.cells #[.int .i64 (first : Int), .int .i64 (count : Int), .slice A4 rs.length c4, .int .i64 (nxtN rs : Int)] 42)) = W5 at hbA hgl hX5 ho5 ⊢
  obtain ⟨bl, hbl⟩ : ∃ bl, bl = w4.heap.size := ⟨_, rfl⟩
  rw [← hbl] at hgl hlb ⊢
  have H5 := Lib.hid (And.intro hgl (And.intro hX5 (And.intro ho5 hlb)))
  have HO5 := Lib.hid ho5
  have l0 := cell_of_row W5 bl 0 _ _ _ hgl; have l1 := cell_of_row W5 bl 1 _ _ _ hgl; have l2 := cell_of_row W5 bl 2 _ _ _ hgl; have l3 := cell_of_row W5 bl 3 _ _ _ hgl
  have hen := rEnd_any first (count : Int) (nxtN rs : Int) rs A4 c4 W5.heap.size W5 (Rd.ofOwn ho5) (Nat.le_refl _) HL.out.2 (by have := HL.out.1; have := HH.out.2.2.2.2.2.1; have := HH.out.1.size; omega)
  obtain ⟨E, hE⟩ : ∃ E, E = endR first rs := ⟨_, rfl⟩
  rw [← hE] at hen
  obtain ⟨K, hK⟩ : ∃ K, K = first + count - E := ⟨_, rfl⟩
  have hEK : E + K = first + count := by have := HL.out.1; omega
  have HEN := Lib.hid hen
  have HE := Lib.hid (And.intro hE hEK)
  have hEKI : (E : Int) + (K : Int) = (first : Int) + (count : Int) := by omega
  clear hbA hgl hX5 ho5 hlb hbl hen hE hK hb4 ho4 x0 x1 x2 x3 x4
  go_upto_block 0 with (first
    | (go_at_call 33; (with_reducible refine HEN.out.mono ?_); rintro e w6 ⟨rfl, hb6⟩)
    | go_in)
  have hX6 := H5.out.2.1.kept hb6
  have HX6 := Lib.hid (And.intro hX6 hb6)
  clear l0 l1 l2 l3 hb6 hX6
  go_cut [10, 11] from 43 to 61 (fun u i w' => ∃ A9 c9, u = .slice A9 (dirtyL M.get E K).length c9 ∧ Hid (Below w6.heap.size w6 w' ∧ w'.ownsRow w6.heap.size 3 1 (.slice A9 (dirtyL M.get E K).length c9) (dirtyL M.get E K).length (ints (dirtyL M.get E K))))
  case first =>
    go_wp2_with (fail)
    go_loopw [10, 11] (fun u i wr => ∃ k A9 c9, k ≤ K ∧ i = .int .i64 ((E : Int) + (k : Int)) ∧ u = .slice A9 (dirtyL M.get E k).length c9 ∧ Hid (Below w6.heap.size w6 wr ∧ wr.ownsRow w6.heap.size 3 1 (.slice A9 (dirtyL M.get E k).length c9) (dirtyL M.get E k).length (ints (dirtyL M.get E k))))
      (fun _ i _ => K - (intOf i - (E : Int)).toNat)
    case atStart => exact ⟨0, none, 0, Nat.zero_le _, by simp, rfl, Lib.hid ⟨Below.refl _ _, World.ownsRow_nil w6 w6.heap.size 3 1⟩⟩
    case round =>
      obtain ⟨k, A9, c9, hk, rfl, rfl, HW⟩ := hrel
      have hX := HX6.out.1.kept HW.out.1
      obtain ⟨B1, B2, B3, m1, m3, d1, d2, d3, s9, l9, hg, hv, hr⟩ := hX.box
      by_cases hkl : k < K
      · have hkI : (E : Int) + (k : Int) < (first : Int) + (count : Int) := by omega
        have hE4 : (E : Int) + (k : Int) ≤ 4096 := by omega
        have hE0 : (0 : Int) ≤ (E : Int) + (k : Int) := by omega
        have hEN : ((E : Int) + (k : Int)).toNat = E + k := by omega
        have hEM : (E : Int) + (k : Int) < (M.size : Int) := by have := HE.out.2; have := HH.out.2.2.2.2.2.1; omega
        obtain ⟨lz, hlz⟩ : ∃ lz, lz = M.get (E + k) := ⟨_, rfl⟩
        have hsn := dirtyL_succ M.get E k
        have hln := dirtyL_len M.get E k
        rw [← hlz] at hsn
        obtain ⟨D, hD⟩ : ∃ D, D = dirtyL M.get E k := ⟨_, rfl⟩
        rw [← hD] at hsn HW hln ⊢
        obtain ⟨ab, ao, rfl, hab, hcell⟩ := hr.get (k := E + k) (by simp; have := HE.out.2; have := HH.out.2.2.2.2.2.1; omega)
        have hcl : wr.cell? ⟨ab, ao + (E + k), none⟩ = some (.string ⟨lz.toArray⟩) := by
          have h := hcell
          simp only [strs, List.getElem_map, List.getElem_range] at h
          rw [hlz]; exact h
        have hcells : ∀ w' : World, Below wr.heap.size wr w' → w'.cell? ⟨w.heap.size, 1, none⟩ = some (.slice (some ⟨ab, ao, none⟩) M.size d2) ∧ w'.cell? ⟨ab, ao + (E + k), none⟩ = some (.string ⟨lz.toArray⟩) := fun w' hb =>
          ⟨cell_of_row w' _ 1 _ _ _ ((hb.block _ (heap_lt hg)).trans hg), (hb.cell (p := ⟨ab, ao + (E + k), none⟩) hab).trans hcl⟩
        have KS := Lib.hid hcells
        obtain ⟨w5, hmk, hb5, hcv⟩ := make_zero wr.drew
        replace hcv : (convert 45 9 (.slice (some ⟨wr.heap.size, 0, none⟩) 64 64)).run Try.prog w5 = .ok (.string ⟨zero64.toArray⟩) w5 := hcv
        have hb5' : Below wr.heap.size wr w5 := ⟨hb5.os, hb5.tape, hb5.output, hb5.size, hb5.block⟩
        have HB5 := Lib.hid hb5'
        have HX := Lib.hid (And.intro hkl (And.intro hsn hln))
        clear hX hg hv hr hcell hcl hcells hb5 hb5' hlz hD hsn hln hab hkl
        by_cases hz : lz = zero64
        · subst hz
          go_upto_region 8 with (fail)
          go_cut [57] from 50 to 57 (fun b w' => b = .bool false ∧ Hid (Below wr.heap.size wr w'))
          case first =>
            have hS0 := KS.out wr.drew (Below.refl _ _).drew
            refine wp_region_M (fun j => decide (j < 7)) (fun w' => w'.cell? ⟨w.heap.size, 1, none⟩ = some (.slice (some ⟨ab, ao, none⟩) M.size d2) ∧ w'.cell? ⟨ab, ao + (E + k), none⟩ = some (.string ⟨zero64.toArray⟩)) (by kernel_rfl) ?_
            refine wpAnyM_take (i := 0) (v := ?_) rfl (by kernel_rfl) (by kernel_rfl) (by kernel_rfl) (by kernel_rfl) (fun _ _ _ h => h) (Or.inl ⟨by rfl, ?_⟩) hS0 ?_
            rotate_left
            · intro w hSw; (try dsimp only at hSw); go_simp; (try with_reducible rfl)
            simp only [Act.put, List.getElem_toArray, List.getElem_cons_zero, List.getElem_cons_succ, List.setIfInBounds_toArray, List.set_cons_zero, List.set_cons_succ]
            refine wpAnyM_take (i := 1) (v := ?_) rfl (by kernel_rfl) (by kernel_rfl) (by kernel_rfl) (by kernel_rfl) (fun _ _ _ h => h) (Or.inl ⟨by rfl, ?_⟩) hS0 ?_
            rotate_left
            · intro w hSw; (try dsimp only at hSw); go_simp; (try with_reducible rfl)
            simp only [Act.put, List.getElem_toArray, List.getElem_cons_zero, List.getElem_cons_succ, List.setIfInBounds_toArray, List.set_cons_zero, List.set_cons_succ]
            refine wpAnyM_take (i := 2) (v := ?_) rfl (by kernel_rfl) (by kernel_rfl) (by kernel_rfl) (by kernel_rfl) (fun _ _ _ h => h) (Or.inl ⟨by rfl, ?_⟩) hS0 ?_
            rotate_left
            · intro w hSw; (try dsimp only at hSw); go_simp; (try with_reducible rfl)
            simp only [Act.put, List.getElem_toArray, List.getElem_cons_zero, List.getElem_cons_succ, List.setIfInBounds_toArray, List.set_cons_zero, List.set_cons_succ]
            refine wpAnyM_take (i := 3) (v := ?_) rfl (by kernel_rfl) (by kernel_rfl) (by kernel_rfl) (by kernel_rfl) (fun _ _ _ h => h) (Or.inl ⟨by rfl, ?_⟩) hS0 ?_
            rotate_left
            · intro w hSw; (try dsimp only at hSw); go_simp; (try with_reducible rfl)
            simp only [Act.put, List.getElem_toArray, List.getElem_cons_zero, List.getElem_cons_succ, List.setIfInBounds_toArray, List.set_cons_zero, List.set_cons_succ]
            refine wpAnyM_take (i := 4) (v := ?_) rfl (by kernel_rfl) (by kernel_rfl) (by kernel_rfl) (by kernel_rfl) (fun _ _ _ h => h) (Or.inl ⟨by rfl, ?_⟩) hS0 ?_
            rotate_left
            · intro w hSw; (try dsimp only at hSw); go_simp; (try with_reducible rfl)
            simp only [Act.put, List.getElem_toArray, List.getElem_cons_zero, List.getElem_cons_succ, List.setIfInBounds_toArray, List.set_cons_zero, List.set_cons_succ]
            refine wpAnyM_one (i := 5) (by kernel_rfl) rfl (fun K hK => ?_)
            go_simp
            refine hK.out _ _ (fun _ => KS.out _ HB5.out) ?_
            clear hK K
            refine wpAnyM_one (i := 6) (by kernel_rfl) rfl (fun K hK => ?_)
            go_simp
            refine hK.out _ _ (fun _ => KS.out _ HB5.out) ?_
            clear hK K
            refine wpAnyM_value (i := 7) (v := ?_) rfl (by kernel_rfl) (by kernel_rfl) (by kernel_rfl) (by kernel_rfl) (fun _ _ _ h => h) (Or.inl ⟨by rfl, ?_⟩) ?_
            rotate_left
            · intro w hSw; go_simp; (try with_reducible rfl)
            simp only [Act.put, List.getElem_toArray, List.getElem_cons_zero, List.getElem_cons_succ, List.setIfInBounds_toArray, List.set_cons_zero, List.set_cons_succ]
            refine wpAnyM_done (by kernel_rfl) ?_ _
            go_wp2_with (fail)
            go_meet
            case rel => exact ⟨rfl, HB5⟩
          case rest =>
            obtain ⟨rfl, HB⟩ := hcut
            go_wp2_with (fail)
            exact ⟨⟨k + 1, A9, c9, HX.out.1, by simp; omega, by rw [HX.out.2.1]; simp, Lib.hid (by rw [HX.out.2.1]; simp; exact ⟨HW.out.1.trans (lower' HB.out HW.out.1.size), own_below HW.out.2 HB.out (Nat.le_refl _)⟩)⟩, by simp [intOf]; have := HX.out.1; omega⟩
        · have hbf : ¬ (⟨lz.toArray⟩ : ByteArray) = ⟨zero64.toArray⟩ := by intro e; apply hz; simpa using e
          have hzb : (lz == zero64) = false := beq_eq_false_iff_ne.2 hz
          have HZ := Lib.hid hzb
          clear hz hzb
          go_upto_region 8 with (fail)
          go_cut [57] from 50 to 57 (fun b w' => b = .bool true ∧ Hid (Below wr.heap.size wr w'))
          case first =>
            have hS0 := KS.out wr.drew (Below.refl _ _).drew
            refine wp_region_M (fun j => decide (j < 7)) (fun w' => w'.cell? ⟨w.heap.size, 1, none⟩ = some (.slice (some ⟨ab, ao, none⟩) M.size d2) ∧ w'.cell? ⟨ab, ao + (E + k), none⟩ = some (.string ⟨lz.toArray⟩)) (by kernel_rfl) ?_
            refine wpAnyM_take (i := 0) (v := ?_) rfl (by kernel_rfl) (by kernel_rfl) (by kernel_rfl) (by kernel_rfl) (fun _ _ _ h => h) (Or.inl ⟨by rfl, ?_⟩) hS0 ?_
            rotate_left
            · intro w hSw; (try dsimp only at hSw); go_simp; (try with_reducible rfl)
            simp only [Act.put, List.getElem_toArray, List.getElem_cons_zero, List.getElem_cons_succ, List.setIfInBounds_toArray, List.set_cons_zero, List.set_cons_succ]
            refine wpAnyM_take (i := 1) (v := ?_) rfl (by kernel_rfl) (by kernel_rfl) (by kernel_rfl) (by kernel_rfl) (fun _ _ _ h => h) (Or.inl ⟨by rfl, ?_⟩) hS0 ?_
            rotate_left
            · intro w hSw; (try dsimp only at hSw); go_simp; (try with_reducible rfl)
            simp only [Act.put, List.getElem_toArray, List.getElem_cons_zero, List.getElem_cons_succ, List.setIfInBounds_toArray, List.set_cons_zero, List.set_cons_succ]
            refine wpAnyM_take (i := 2) (v := ?_) rfl (by kernel_rfl) (by kernel_rfl) (by kernel_rfl) (by kernel_rfl) (fun _ _ _ h => h) (Or.inl ⟨by rfl, ?_⟩) hS0 ?_
            rotate_left
            · intro w hSw; (try dsimp only at hSw); go_simp; (try with_reducible rfl)
            simp only [Act.put, List.getElem_toArray, List.getElem_cons_zero, List.getElem_cons_succ, List.setIfInBounds_toArray, List.set_cons_zero, List.set_cons_succ]
            refine wpAnyM_take (i := 3) (v := ?_) rfl (by kernel_rfl) (by kernel_rfl) (by kernel_rfl) (by kernel_rfl) (fun _ _ _ h => h) (Or.inl ⟨by rfl, ?_⟩) hS0 ?_
            rotate_left
            · intro w hSw; (try dsimp only at hSw); go_simp; (try with_reducible rfl)
            simp only [Act.put, List.getElem_toArray, List.getElem_cons_zero, List.getElem_cons_succ, List.setIfInBounds_toArray, List.set_cons_zero, List.set_cons_succ]
            refine wpAnyM_take (i := 4) (v := ?_) rfl (by kernel_rfl) (by kernel_rfl) (by kernel_rfl) (by kernel_rfl) (fun _ _ _ h => h) (Or.inl ⟨by rfl, ?_⟩) hS0 ?_
            rotate_left
            · intro w hSw; (try dsimp only at hSw); go_simp; (try with_reducible rfl)
            simp only [Act.put, List.getElem_toArray, List.getElem_cons_zero, List.getElem_cons_succ, List.setIfInBounds_toArray, List.set_cons_zero, List.set_cons_succ]
            refine wpAnyM_one (i := 5) (by kernel_rfl) rfl (fun K hK => ?_)
            go_simp
            refine hK.out _ _ (fun _ => KS.out _ HB5.out) ?_
            clear hK K
            refine wpAnyM_one (i := 6) (by kernel_rfl) rfl (fun K hK => ?_)
            go_simp
            refine hK.out _ _ (fun _ => KS.out _ HB5.out) ?_
            clear hK K
            refine wpAnyM_value (i := 7) (v := ?_) rfl (by kernel_rfl) (by kernel_rfl) (by kernel_rfl) (by kernel_rfl) (fun _ _ _ h => h) (Or.inl ⟨by rfl, ?_⟩) ?_
            rotate_left
            · intro w hSw; go_simp; (try with_reducible rfl)
            simp only [Act.put, List.getElem_toArray, List.getElem_cons_zero, List.getElem_cons_succ, List.setIfInBounds_toArray, List.set_cons_zero, List.set_cons_succ]
            refine wpAnyM_done (by kernel_rfl) ?_ _
            go_wp2_with (fail)
            go_meet
            case rel => exact ⟨by rw [HZ.out]; rfl, HB5⟩
          case rest =>
            obtain ⟨rfl, HB⟩ := hcut
            have hcw := HW.out.1.trans (lower' HB.out HW.out.1.size)
            have how := own_below HW.out.2 HB.out (Nat.le_refl _)
            obtain ⟨A8, c8, w8, hrun, ho8, hb8⟩ := app_int4 (w := w) (n := 0) how (E + k) hcw.size (by have := HX.out.2.2; omega)
            rw [Int.natCast_add] at hrun
            have H8 := Lib.hid (And.intro ho8 (hcw.trans hb8))
            clear hcw how ho8 hb8 hbf hmk hcv
            go_wp2_with (at_builtin; refine wpL_appK4 _ rfl (.tmp 58) (.tmp 60) _ rfl rfl _ _ _ _ rfl rfl hrun ?_)
            exact ⟨⟨k + 1, A8, c8, HX.out.1, by simp; omega, by rw [HX.out.2.1, HZ.out]; simp, Lib.hid (by rw [HX.out.2.1, HZ.out]; simp; exact ⟨H8.out.2, H8.out.1⟩)⟩, by simp [intOf]; have := HX.out.1; omega⟩
      · obtain rfl : k = K := by omega
        have hkI : ¬ (E : Int) + (k : Int) < (first : Int) + (count : Int) := by omega
        clear hX hg hv hr
        go_wp2_with (fail)
        go_meet
        case rel => exact ⟨A9, c9, rfl, HW⟩
  case rest =>
    obtain ⟨A9, c9, rfl, HW⟩ := hcut
    have hX := HX6.out.1.kept HW.out.1
    have hgl := (HW.out.1.block _ (Nat.lt_of_lt_of_le (heap_lt H5.out.1) HX6.out.2.size)).trans ((HX6.out.2.block _ (heap_lt H5.out.1)).trans H5.out.1)
    have hb5c := HX6.out.2.trans (lower' HW.out.1 HX6.out.2.size)
    have ho5 := own_below H5.out.2.2.1 hb5c (Nat.le_refl _)
    obtain ⟨D, hD⟩ : ∃ D, D = dirtyL M.get E K := ⟨_, rfl⟩
    have hDd : (LG.of first (first + count) rs).dirty M = D := by
      rw [hD, show K = first + count - E by have := HE.out.2; omega, HE.out.1]; rfl
    have hop : openOps M first (first + count) = if D = [] then [] else wipeOps D := by unfold openOps; rw [← HH.out.2.2.2.2.2.2, hDd]
    have hDm : ∀ i ∈ D, i < M.size := fun i hi => by rw [hD] at hi; have := (dirtyL_mem hi).2; have := HE.out.2; have := HH.out.2.2.2.2.2.1; omega
    have hDl : D.length ≤ 4096 := by rw [hD]; have := dirtyL_len M.get E K; have := HE.out.2; have := HH.out.2.2.2.2.2.1; have := HH.out.1.size; omega
    have ho9 := HW.out.2
    rw [← hD] at ho9 ⊢
    have HC := Lib.hid (And.intro hX (And.intro hgl (And.intro ho5 (And.intro ho9 (And.intro hop (And.intro hDm hDl))))))
    clear hX hgl hb5c ho5 ho9 hop hDm hDl hD hDd
    have hfin : ∀ (wx : World) (Mx : DM) (ax : World → Prop), True := fun _ _ _ => trivial
    clear hfin
    go_upto_if 64 with (fail)
    go_cut [12] from 62 to 70 (fun cd w' => cd = .int .i64 Rz.1 ∧ Hid (OpX w w' X Rz.2 ∧ w'.heap[bl]? = some (.cells #[.int .i64 (first : Int), .int .i64 (count : Int), .slice A4 rs.length c4, .int .i64 (nxtN rs : Int)] 42 (0, 0)) ∧ w'.ownsRow W3.heap.size 80 2 (.slice A4 rs.length c4) rs.length (recS rs)))
    case first =>
      by_cases h0 : D = []
      · have hz : Rz = (0, M) := by rw [HRZ.out, HC.out.2.2.2.2.1, if_pos h0]; rfl
        have HZ := Lib.hid hz
        have hl0 : decide (0 < D.length) = false := by rw [h0]; rfl
        have hl1 : ¬ (0 : Int) < (D.length : Int) := by rw [h0]; simp
        clear hz h0
        go_wp2_with (fail)
        go_meet
        case rel => rw [HZ.out]; exact ⟨rfl, Lib.hid ⟨HC.out.1, HC.out.2.1, HC.out.2.2.1⟩⟩
      · have hz : Rz = runOps (wipeOps D) M := by rw [HRZ.out, HC.out.2.2.2.2.1, if_neg h0]
        have HZ := Lib.hid hz
        have hlp : 0 < D.length := List.length_pos_iff.2 h0
        have hl0 : decide (0 < D.length) = true := decide_eq_true hlp
        have hl1 : (0 : Int) < (D.length : Int) := by omega
        obtain ⟨B1, B2, B3, m1, m3, e1, e2, e3, s9, l9, hg, hv, hr⟩ := HC.out.1.box
        have x0 := cell_of_row wc w.heap.size 0 _ _ _ hg; have x1 := cell_of_row wc w.heap.size 1 _ _ _ hg; have x2 := cell_of_row wc w.heap.size 2 _ _ _ hg; have x3 := cell_of_row wc w.heap.size 3 _ _ _ hg; have x4 := cell_of_row wc w.heap.size 4 _ _ _ hg
        have hlt : ∀ x ∈ w.heap.size :: (w.heap.size + 1) :: (w.heap.size + 2) :: X, x < wc.heap.size := by
          intro x hx
          have h3 := HC.out.1.size
          simp only [List.mem_cons] at hx
          rcases hx with rfl | rfl | rfl | hx
          · omega
          · omega
          · omega
          · have := HH.out.2.2.2.2.1 x hx; omega
        have hwp := rwipe_any wc (w.heap.size :: (w.heap.size + 1) :: (w.heap.size + 2) :: X) M T _ hv HH.out.1 HH.out.2.2.2.1 hlt A9 c9 wc.heap.size D (by have := HH.out.2.1; have := HC.out.2.2.2.2.2.2; omega) (Rd.ofOwn HC.out.2.2.2.1) (Nat.le_refl _) HC.out.2.2.2.2.2.1 HC.out.2.2.2.2.2.2
        rw [← hz] at hwp
        have HWP := Lib.hid (hwp.mono fun e w' h => wiped_form h)
        have HG := Lib.hid hg
        clear hz h0 hlp hg hv hr hlt hwp
        go_wp2_with (go_at_call 34; (with_reducible refine HWP.out.mono ?_); rintro e w9 ⟨C1, C2, C3, r1, r2, r3, g1, g2, g3, s8, l8, rfl, hR9, hb9⟩; have hg9 := (hb9.block _ (heap_lt HG.out)).trans HG.out; have u0 := cell_of_row w9 (w.heap.size) 0 _ _ _ hg9; have u1 := cell_of_row w9 (w.heap.size) 1 _ _ _ hg9; have u2 := cell_of_row w9 (w.heap.size) 2 _ _ _ hg9; have u3 := cell_of_row w9 (w.heap.size) 3 _ _ _ hg9; have u4 := cell_of_row w9 (w.heap.size) 4 _ _ _ hg9; have t0 := frozen_of_row w9 (w.heap.size) 0 _ _ hg9; have t1 := frozen_of_row w9 (w.heap.size) 1 _ _ hg9; have t2 := frozen_of_row w9 (w.heap.size) 2 _ _ hg9; have t3 := frozen_of_row w9 (w.heap.size) 3 _ _ hg9; have t4 := frozen_of_row w9 (w.heap.size) 4 _ _ hg9)
        have hX9 := HC.out.1.put hb9 hR9
        have hf9 := fr5 w9 w.heap.size (.slice C1 r1 g1) (.slice C2 r2 g2) (.slice C3 r3 g3) (.int .i64 s8) (.int .i64 l8)
        have hlg9 := (hf9.block bl (heap_lt ((hb9.block _ (heap_lt HC.out.2.1)).trans HC.out.2.1)) (by have := H5.out.2.2.2; have := HX3.out.size; simp; omega)).trans ((hb9.block _ (heap_lt HC.out.2.1)).trans HC.out.2.1)
        have ho9 := own_keptBy (g := w.heap.size) (own_below HC.out.2.2.1 hb9 (Nat.le_refl _)) (grown_of_fr hf9) (by have := HX3.out.size; omega)
        go_meet
        case rel => exact ⟨rfl, Lib.hid ⟨hX9, hlg9, ho9⟩⟩
    case rest =>
      obtain ⟨rfl, HF⟩ := hcut
      obtain ⟨B1, B2, B3, m1, m3, e1, e2, e3, s9, l9, hg, hv, hr⟩ := HF.out.1.box
      have hsize : Rz.2.size = M.size := by rw [HRZ.out]; exact (runOps_facts _ M).1
      have hcode : Rz.1 = 0 ∨ Rz.1 = 30 := by rw [HRZ.out]; exact (runOps_facts _ M).2.2.2
      obtain ⟨cz, Mz⟩ := Rz
      dsimp only at HF hg hv hr hsize hcode ⊢
      have hr1 := HF.out.1.res1
      have hr2 := HF.out.1.res2
      have x0 := cell_of_row wc w.heap.size 0 _ _ _ hg; have x1 := cell_of_row wc w.heap.size 1 _ _ _ hg; have x2 := cell_of_row wc w.heap.size 2 _ _ _ hg; have x3 := cell_of_row wc w.heap.size 3 _ _ _ hg; have x4 := cell_of_row wc w.heap.size 4 _ _ _ hg
      have y0 := cell_of_row wc (w.heap.size + 1) 0 _ _ _ hr1; have y1 := cell_of_row wc (w.heap.size + 1) 1 _ _ _ hr1; have y2 := cell_of_row wc (w.heap.size + 1) 2 _ _ _ hr1; have y3 := cell_of_row wc (w.heap.size + 1) 3 _ _ _ hr1; have y4 := cell_of_row wc (w.heap.size + 1) 4 _ _ _ hr1
      have yf0 := frozen_of_row wc (w.heap.size + 1) 0 _ _ hr1; have yf1 := frozen_of_row wc (w.heap.size + 1) 1 _ _ hr1; have yf2 := frozen_of_row wc (w.heap.size + 1) 2 _ _ hr1; have yf3 := frozen_of_row wc (w.heap.size + 1) 3 _ _ hr1; have yf4 := frozen_of_row wc (w.heap.size + 1) 4 _ _ hr1
      have z0 := cell_of_row wc (w.heap.size + 2) 0 _ _ _ hr2; have z1 := cell_of_row wc (w.heap.size + 2) 1 _ _ _ hr2; have z2 := cell_of_row wc (w.heap.size + 2) 2 _ _ _ hr2; have z3 := cell_of_row wc (w.heap.size + 2) 3 _ _ _ hr2
      have zf0 := frozen_of_row wc (w.heap.size + 2) 0 _ _ hr2; have zf1 := frozen_of_row wc (w.heap.size + 2) 1 _ _ hr2; have zf2 := frozen_of_row wc (w.heap.size + 2) 2 _ _ hr2; have zf3 := frozen_of_row wc (w.heap.size + 2) 3 _ _ hr2
      rcases hcode with rfl | rfl
      · have hlg := HF.out.2.1
        have hS9 : (wc.cell? ⟨w.heap.size, 0, none⟩ = some (.slice B1 m1 e1) ∧ wc.cell? ⟨w.heap.size, 1, none⟩ = some (.slice B2 Mz.size e2) ∧ wc.cell? ⟨w.heap.size, 2, none⟩ = some (.slice B3 m3 e3) ∧ wc.cell? ⟨w.heap.size, 3, none⟩ = some (.int .i64 s9) ∧ wc.cell? ⟨w.heap.size, 4, none⟩ = some (.int .i64 l9)) ∧ wc.cell? ⟨bl, 0, none⟩ = some (.int .i64 (first : Int)) ∧ wc.cell? ⟨bl, 1, none⟩ = some (.int .i64 (count : Int)) ∧ wc.cell? ⟨bl, 2, none⟩ = some (.slice A4 rs.length c4) ∧ wc.cell? ⟨bl, 3, none⟩ = some (.int .i64 (nxtN rs : Int)) := ⟨⟨x0, x1, x2, x3, x4⟩, cell_of_row wc bl 0 _ _ _ hlg, cell_of_row wc bl 1 _ _ _ hlg, cell_of_row wc bl 2 _ _ _ hlg, cell_of_row wc bl 3 _ _ _ hlg⟩
        have hdn := HF.out.1.done hv (.slice B1 m1 e1) (.slice B2 Mz.size e2) (.slice B3 m3 e3) (.int .i64 s9) (.int .i64 l9) (.int .i64 (first : Int)) (.int .i64 (count : Int)) (.slice A4 rs.length c4) (.int .i64 (nxtN rs : Int))
        have HDN := Lib.hid hdn
        have HDD := Lib.hid (done_drew (W3 := W3) hdn (by have := HX3.out.size; omega) HF.out.2.2)
        have HS9 := Lib.hid hS9
        have HGX := Lib.hid (And.intro hg hlg)
        clear hdn hg hv hr hr1 hr2 hsize hlg hS9
        go_upto_region 15 with (fail)
        have hf5 := (fr5 wc (w.heap.size + 1) (.slice B1 m1 e1) (.slice B2 Mz.size e2) (.slice B3 m3 e3) (.int .i64 s9) (.int .i64 l9)).drew
        have hx5 := (hf5.block _ (heap_lt HGX.out.1) (by simp)).trans HGX.out.1
        have hl5 := (hf5.block _ (heap_lt HGX.out.2) (by have := H5.out.2.2.2; have := HX3.out.size; simp; omega)).trans HGX.out.2
        have HS5 := Lib.hid (And.intro (And.intro (cell_of_row _ _ 0 _ _ _ hx5) (And.intro (cell_of_row _ _ 1 _ _ _ hx5) (And.intro (cell_of_row _ _ 2 _ _ _ hx5) (And.intro (cell_of_row _ _ 3 _ _ _ hx5) (cell_of_row _ _ 4 _ _ _ hx5))))) (And.intro (cell_of_row _ bl 0 _ _ _ hl5) (And.intro (cell_of_row _ bl 1 _ _ _ hl5) (And.intro (cell_of_row _ bl 2 _ _ _ hl5) (cell_of_row _ bl 3 _ _ _ hl5)))))
        clear hf5 hx5 hl5
        refine wp_region_M (fun j => decide (j < 3)) (fun w' => (w'.cell? ⟨w.heap.size, 0, none⟩ = some (.slice B1 m1 e1) ∧ w'.cell? ⟨w.heap.size, 1, none⟩ = some (.slice B2 Mz.size e2) ∧ w'.cell? ⟨w.heap.size, 2, none⟩ = some (.slice B3 m3 e3) ∧ w'.cell? ⟨w.heap.size, 3, none⟩ = some (.int .i64 s9) ∧ w'.cell? ⟨w.heap.size, 4, none⟩ = some (.int .i64 l9)) ∧ w'.cell? ⟨bl, 0, none⟩ = some (.int .i64 (first : Int)) ∧ w'.cell? ⟨bl, 1, none⟩ = some (.int .i64 (count : Int)) ∧ w'.cell? ⟨bl, 2, none⟩ = some (.slice A4 rs.length c4) ∧ w'.cell? ⟨bl, 3, none⟩ = some (.int .i64 (nxtN rs : Int))) (by kernel_rfl) ?_
        refine wpAnyM_take (i := 0) (v := ?_) rfl (by kernel_rfl) (by kernel_rfl) (by kernel_rfl) (by kernel_rfl) (fun _ _ _ h => h) (Or.inl ⟨by rfl, ?_⟩) HS9.out ?_
        rotate_left
        · intro w hSw; (try dsimp only at hSw); go_simp; (try with_reducible rfl)
        simp only [Act.put, List.getElem_toArray, List.getElem_cons_zero, List.getElem_cons_succ, List.setIfInBounds_toArray, List.set_cons_zero, List.set_cons_succ]
        refine wpAnyM_take (i := 1) (v := ?_) rfl (by kernel_rfl) (by kernel_rfl) (by kernel_rfl) (by kernel_rfl) (fun _ _ _ h => h) (Or.inl ⟨by rfl, ?_⟩) HS9.out ?_
        rotate_left
        · intro w hSw; (try dsimp only at hSw); go_simp; (try with_reducible rfl)
        simp only [Act.put, List.getElem_toArray, List.getElem_cons_zero, List.getElem_cons_succ, List.setIfInBounds_toArray, List.set_cons_zero, List.set_cons_succ]
        refine wpAnyM_one (i := 2) (by kernel_rfl) rfl (fun K hK => ?_)
        go_simp
        refine hK.out _ _ (fun _ => HS5.out) ?_
        clear hK K
        refine wpAnyM_one (i := 3) (by kernel_rfl) rfl (fun K hK => ?_)
        go_simp
        refine hK.out _ _ (fun h => absurd h (by decide)) ?_
        clear hK K
        refine wpAnyM_value (i := 4) (v := ?_) rfl (by kernel_rfl) (by kernel_rfl) (by kernel_rfl) (by kernel_rfl) (fun _ _ _ h => h) (Or.inl ⟨by rfl, ?_⟩) ?_
        rotate_left
        · intro w hSw; go_simp; (try with_reducible rfl)
        simp only [Act.put, List.getElem_toArray, List.getElem_cons_zero, List.getElem_cons_succ, List.setIfInBounds_toArray, List.set_cons_zero, List.set_cons_succ]
        refine wpAnyM_done (by kernel_rfl) ?_ _
        go_wp2_with (fail)
        exact bodyPost_ret (resOpen HDD.out.1 HDD.out.2.1 _ rfl rfl) rfl ⟨_, _, _, _, _, _, _, _, _, _, _, _, _, _, _, rfl, HDD.out.2.2.1, (fun _ => ⟨A4, c4, rfl, rfl, rfl, rfl, HDD.out.2.2.2.2⟩), (fun h => absurd rfl h), HDD.out.2.2.2.1⟩
      · have hdn := HF.out.1.done hv (.slice B1 m1 e1) (.slice B2 Mz.size e2) (.slice B3 m3 e3) (.int .i64 s9) (.int .i64 l9) (.int .i64 0) (.int .i64 0) (.slice none 0 0) (.int .i64 0)
        have HDN := Lib.hid hdn
        clear hdn hg hv hr hr1 hr2 hsize
        go_wp2_with (fail)
        exact bodyPost_ret (resOpen HDN.out.1 HDN.out.2.1 _ rfl rfl) rfl ⟨_, _, _, _, _, _, _, _, _, _, _, _, _, _, _, rfl, HDN.out.2.2.1, (fun h => absurd h (by decide)), (fun _ => ⟨rfl, rfl, rfl, rfl⟩), HDN.out.2.2.2.1⟩
end Go.Proofs.Ytajakmfloeefpaa
/- The document's log: Append, its boxes, and where it is refused. -/
namespace Go.Proofs.Ytajakmfloeefpaa
open Go.RowKit Go.Maps

set_option maxRecDepth 100000 in
theorem rsecs_big (n : Nat) (w : World) (hn : n ≤ 140737488351232) :
    Calls Try.prog 37 #[.int .i64 (n : Int)] w fun e w' => e = .returned (.int .i64 (secs n : Int)) ∧ w = w' := by
  have hss : secs n ≤ 2199023255552 := by unfold secs; omega
  have hnI : (n : Int) ≤ 140737488351232 := by omega
  have HN := Lib.hid hn
  clear hn
  go_enter Try.func37, Try.ntmps37
  go_wp2
  go_loop [3] (fun u => ∃ k : Nat, k ≤ secs n ∧ u = .int .i64 (k : Int)) (fun u => secs n - (intOf u).toNat)
  case atStart => exact ⟨0, by omega, rfl⟩
  case round =>
    obtain ⟨k, hk, rfl⟩ := hrel
    have hkI : (k : Int) ≤ 2199023255552 := by omega
    by_cases hkl : k < secs n
    · have h1 : (k : Int) * 64 < (n : Int) := by unfold secs at hkl; omega
      go_wp2
      go_round
      case rel => exact ⟨k + 1, by omega, by simp⟩
      case measure => simp [intOf]; omega
    · obtain rfl : k = secs n := by omega
      have h1 : ¬ (secs n : Int) * 64 < (n : Int) := by unfold secs; omega
      go_wp2
      go_ret
      exact ⟨rfl, rfl⟩
/-- Where Append is: the disk's box, the log's, the results' two. -/
structure ApX (w wr : World) (X : List Nat) (M : DM) (lo : Nat) (A : Option Addr) (c : Nat) (rs : List Rec) (first count next : Int) : Prop where
  box : ∃ A1 A2 A3 n1 n2 n3 c1 c2 c3 s l, wr.heap[w.heap.size]? = some (.cells #[.slice A1 n1 c1, .slice A2 n2 c2, .slice A3 n3 c3, .int .i64 s, .int .i64 l] 33 (0, 0)) ∧ RefV wr (w.heap.size :: (w.heap.size + 1) :: (w.heap.size + 2) :: (w.heap.size + 3) :: X) (refOf M) (.agg #[.slice A1 n1 c1, .slice A2 n2 c2, .slice A3 n3 c3, .int .i64 s, .int .i64 l])
  log : wr.heap[w.heap.size + 1]? = some (.cells #[.int .i64 first, .int .i64 count, .slice A rs.length c, .int .i64 next] 42 (0, 0))
  recs : wr.ownsRow lo 80 2 (.slice A rs.length c) rs.length (recS rs)
  res1 : wr.heap[w.heap.size + 2]? = some (.cells #[.slice none 0 0, .slice none 0 0, .slice none 0 0, .int .i64 0, .int .i64 0] 33 (0, 0))
  res2 : wr.heap[w.heap.size + 3]? = some (.cells #[.int .i64 0, .int .i64 0, .slice none 0 0, .int .i64 0] 42 (0, 0))
  below : Below w.heap.size w wr
  size : w.heap.size + 4 ≤ wr.heap.size
abbrev lgV (first count : Int) (A : Option Addr) (n c : Nat) (next : Int) : Obj := .cells #[.int .i64 first, .int .i64 count, .slice A n c, .int .i64 next] 42
variable {w wr w' : World} {X : List Nat} {M : DM} {lo c : Nat} {A : Option Addr} {rs : List Rec} {first count next : Int}
theorem ApX.new {A1 A2 A3 : Option Addr} {n1 n2 n3 c1 c2 c3 : Nat} {s l : Int} (hv : RefV w X (refOf M) (.agg #[.slice A1 n1 c1, .slice A2 n2 c2, .slice A3 n3 c3, .int .i64 s, .int .i64 l])) (hp : 0 < M.size) (ho : w.ownsRow lo 80 2 (.slice A rs.length c) rs.length (recS rs)) :
    ApX w ((((w.alloc (.cells #[.slice A1 n1 c1, .slice A2 n2 c2, .slice A3 n3 c3, .int .i64 s, .int .i64 l] 33)).alloc (lgV first count A rs.length c next)).alloc dkZ0).alloc lgZ0) X M lo A c rs first count next := by
  obtain ⟨O1, hO1⟩ : ∃ o, o = (.cells #[.slice A1 n1 c1, .slice A2 n2 c2, .slice A3 n3 c3, .int .i64 s, .int .i64 l] 33 : Obj) := ⟨_, rfl⟩
  obtain ⟨O2, hO2⟩ : ∃ o, o = lgV first count A rs.length c next := ⟨_, rfl⟩
  obtain ⟨O3, hO3⟩ : ∃ o, o = dkZ0 := ⟨_, rfl⟩
  obtain ⟨O4, hO4⟩ : ∃ o, o = lgZ0 := ⟨_, rfl⟩
  rw [← hO1, ← hO2, ← hO3, ← hO4]
  have hs1 := alloc1_size w O1
  have hs2 := alloc1_size (w.alloc O1) O2
  have hs3 := alloc1_size ((w.alloc O1).alloc O2) O3
  have hs4 := alloc1_size (((w.alloc O1).alloc O2).alloc O3) O4
  have hb1 : Below w.heap.size w (w.alloc O1) := (Below.refl _ _).alloc (Nat.le_refl _) _
  have hb2 : Below (w.alloc O1).heap.size (w.alloc O1) ((w.alloc O1).alloc O2) := (Below.refl _ _).alloc (Nat.le_refl _) _
  have hb3 : Below ((w.alloc O1).alloc O2).heap.size ((w.alloc O1).alloc O2) (((w.alloc O1).alloc O2).alloc O3) := (Below.refl _ _).alloc (Nat.le_refl _) _
  have hb4 : Below (((w.alloc O1).alloc O2).alloc O3).heap.size (((w.alloc O1).alloc O2).alloc O3) ((((w.alloc O1).alloc O2).alloc O3).alloc O4) := (Below.refl _ _).alloc (Nat.le_refl _) _
  have hb24 := hb2.trans (lower' (hb3.trans (lower' hb4 hb3.size)) hb2.size)
  have hb34 := hb3.trans (lower' hb4 hb3.size)
  have hb := hb1.trans (lower' hb24 hb1.size)
  have h1 := heap_alloc_new w O1
  have h2 := heap_alloc_new (w.alloc O1) O2
  have h3 := heap_alloc_new ((w.alloc O1).alloc O2) O3
  have h4 := heap_alloc_new (((w.alloc O1).alloc O2).alloc O3) O4
  have hv2 := ((hv.ext (Y := [w.heap.size, w.heap.size + 1, w.heap.size + 2, w.heap.size + 3]) hp (by simp)).sub (Y := w.heap.size :: (w.heap.size + 1) :: (w.heap.size + 2) :: (w.heap.size + 3) :: X) (by intro y hy; simp at hy ⊢; rcases hy with h | h | h | h | h <;> simp [h])).below hb
  have g1 := (hb24.block w.heap.size (by omega)).trans h1
  have g2 := (hb34.block (w.alloc O1).heap.size (by omega)).trans h2
  have g3 := (hb4.block ((w.alloc O1).alloc O2).heap.size (by omega)).trans h3
  rw [hs1] at g2
  rw [hs2, hs1] at g3
  rw [hs3, hs2, hs1] at h4
  subst hO1 hO2 hO3 hO4
  exact ⟨⟨A1, A2, A3, n1, n2, n3, c1, c2, c3, s, l, g1, hv2⟩, g2, own_below ho hb (Nat.le_refl _), g3, h4, hb, by rw [hs4, hs3, hs2, hs1]; omega⟩
theorem ApX.kept (h : ApX w wr X M lo A c rs first count next) (hb : Below wr.heap.size wr w') : ApX w w' X M lo A c rs first count next := by
  obtain ⟨A1, A2, A3, n1, n2, n3, c1, c2, c3, s, l, hg, hv⟩ := h.box
  exact ⟨⟨A1, A2, A3, n1, n2, n3, c1, c2, c3, s, l, (hb.block _ (heap_lt hg)).trans hg, hv.below hb⟩, (hb.block _ (heap_lt h.log)).trans h.log, own_below h.recs hb (Nat.le_refl _), (hb.block _ (heap_lt h.res1)).trans h.res1, (hb.block _ (heap_lt h.res2)).trans h.res2, h.below.trans (lower' hb h.below.size), Nat.le_trans h.size hb.size⟩
abbrev set54a (wr : World) (b : Nat) (v0 v1 v2 v3 v4 u0 u1 u2 u3 : Value) : World := (((((((((wr.setCell ⟨b + 2, 0, none⟩ v0).setCell ⟨b + 2, 1, none⟩ v1).setCell ⟨b + 2, 2, none⟩ v2).setCell ⟨b + 2, 3, none⟩ v3).setCell ⟨b + 2, 4, none⟩ v4).setCell ⟨b + 3, 0, none⟩ u0).setCell ⟨b + 3, 1, none⟩ u1).setCell ⟨b + 3, 2, none⟩ u2).setCell ⟨b + 3, 3, none⟩ u3)
/-- What is handed back is stored. -/
theorem ApX.done (h : ApX w wr X M lo A c rs first count next) {v : Value} (hR : RefV wr (w.heap.size :: (w.heap.size + 1) :: (w.heap.size + 2) :: (w.heap.size + 3) :: X) (refOf M) v) (v0 v1 v2 v3 v4 u0 u1 u2 u3 : Value) :
    (set54a wr w.heap.size v0 v1 v2 v3 v4 u0 u1 u2 u3).heap[w.heap.size + 2]? = some (.cells #[v0, v1, v2, v3, v4] 33 (0, 0)) ∧ (set54a wr w.heap.size v0 v1 v2 v3 v4 u0 u1 u2 u3).heap[w.heap.size + 3]? = some (.cells #[u0, u1, u2, u3] 42 (0, 0)) ∧ RefV (set54a wr w.heap.size v0 v1 v2 v3 v4 u0 u1 u2 u3) X (refOf M) v ∧ Below w.heap.size w (set54a wr w.heap.size v0 v1 v2 v3 v4 u0 u1 u2 u3) ∧ Fr wr (set54a wr w.heap.size v0 v1 v2 v3 v4 u0 u1 u2 u3) [w.heap.size + 2, w.heap.size + 3] := by
  have hf1 : Fr wr (((((wr.setCell ⟨w.heap.size + 2, 0, none⟩ v0).setCell ⟨w.heap.size + 2, 1, none⟩ v1).setCell ⟨w.heap.size + 2, 2, none⟩ v2).setCell ⟨w.heap.size + 2, 3, none⟩ v3).setCell ⟨w.heap.size + 2, 4, none⟩ v4) [w.heap.size + 2] := (((((Fr.refl _ _).setCell (by simp) _).setCell (by simp) _).setCell (by simp) _).setCell (by simp) _).setCell (by simp) _
  have g1 := set5 h.res1 v0 v1 v2 v3 v4
  have g2 := (hf1.block _ (heap_lt h.res2) (by simp)).trans h.res2
  have hf2 : Fr (((((wr.setCell ⟨w.heap.size + 2, 0, none⟩ v0).setCell ⟨w.heap.size + 2, 1, none⟩ v1).setCell ⟨w.heap.size + 2, 2, none⟩ v2).setCell ⟨w.heap.size + 2, 3, none⟩ v3).setCell ⟨w.heap.size + 2, 4, none⟩ v4) (set54a wr w.heap.size v0 v1 v2 v3 v4 u0 u1 u2 u3) [w.heap.size + 3] := ((((Fr.refl _ _).setCell (by simp) _).setCell (by simp) _).setCell (by simp) _).setCell (by simp) _
  have hf : Fr wr (set54a wr w.heap.size v0 v1 v2 v3 v4 u0 u1 u2 u3) [w.heap.size + 2, w.heap.size + 3] := (hf1.mono (by simp)).trans (hf2.mono (by simp))
  refine ⟨(hf2.block _ (heap_lt g1) (by simp)).trans g1, set4 g2 u0 u1 u2 u3, (hR.fr hf (by simp)).sub (fun y hy => by simp [hy]), h.below.trans (hf.below h.below.size (by simp)), hf⟩
theorem resAppend {b c : Nat} {v0 v1 v2 v3 v4 u0 u1 u2 u3 : Value} (h : w.heap[b]? = some (.cells #[v0, v1, v2, v3, v4] 33 (0, 0))) (k : w.heap[c]? = some (.cells #[u0, u1, u2, u3] 42 (0, 0))) (tmps : Array Value) (h6 : tmps.getD 6 undef = .pointer (some ⟨b, 0, none⟩)) (h7 : tmps.getD 7 undef = .pointer (some ⟨c, 0, none⟩)) :
    (results Try.f10 tmps).run Try.prog w = .ok (.tuple #[.agg #[v0, v1, v2, v3, v4], .agg #[u0, u1, u2, u3], tmps.getD 8 undef]) w := by
  have e0 := cell_of_row w b 0 _ _ _ h; have e1 := cell_of_row w b 1 _ _ _ h; have e2 := cell_of_row w b 2 _ _ _ h; have e3 := cell_of_row w b 3 _ _ _ h; have e4 := cell_of_row w b 4 _ _ _ h
  have d0 := cell_of_row w c 0 _ _ _ k; have d1 := cell_of_row w c 1 _ _ _ k; have d2 := cell_of_row w c 2 _ _ _ k; have d3 := cell_of_row w c 3 _ _ _ k
  have h6' := h6
  have h7' := h7
  simp only [Array.getD_eq_getD_getElem?] at h6' h7'
  simp [results, Try.results10, go_sem, h6', h7', e0, e1, e2, e3, e4, d0, d1, d2, d3]
/-- What the document's Append or Reset leaves. -/
def TurnedR (w w' : World) (X : List Nat) (M' : DM) (code : Int) (lo : Nat) (first count next : Int) (rs : List Rec) (e : Ending) : Prop :=
  ∃ B1 B2 B3 m1 m2 m3 d1 d2 d3 s l A' c', e = .returned (.tuple #[.agg #[.slice B1 m1 d1, .slice B2 m2 d2, .slice B3 m3 d3, .int .i64 s, .int .i64 l], .agg #[.int .i64 first, .int .i64 count, .slice A' rs.length c', .int .i64 next], .int .i64 code]) ∧ RefV w' X (refOf M') (.agg #[.slice B1 m1 d1, .slice B2 m2 d2, .slice B3 m3 d3, .int .i64 s, .int .i64 l]) ∧ w'.ownsRow lo 80 2 (.slice A' rs.length c') rs.length (recS rs) ∧ Below w.heap.size w w'
/-- A record more. -/
theorem ApX.add (h : ApX w wr X M lo A c rs first count next) (hb : Below wr.heap.size wr w') (hlo : lo ≤ wr.heap.size) {A' : Option Addr} {c' : Nat} {x : Rec} (ho : w'.ownsRow wr.heap.size 80 2 (.slice A' (rs.length + 1) c') (rs.length + 1) (recS (rs ++ [x]))) (next' : Int) :
    ApX w ((w'.setCell ⟨w.heap.size + 1, 2, none⟩ (.slice A' (rs.length + 1) c')).setCell ⟨w.heap.size + 1, 3, none⟩ (.int .i64 next')) X M lo A' c' (rs ++ [x]) first count next' := by
  have h7 := h.kept hb
  have hz := h.size
  obtain ⟨A1, A2, A3, n1, n2, n3, c1, c2, c3, s', l', hg, hv⟩ := h7.box
  have hf : Fr w' ((w'.setCell ⟨w.heap.size + 1, 2, none⟩ (.slice A' (rs.length + 1) c')).setCell ⟨w.heap.size + 1, 3, none⟩ (.int .i64 next')) [w.heap.size + 1] := ((Fr.refl _ _).setCell (by simp) _).setCell (by simp) _
  have hl := heap_setCell_same _ (w.heap.size + 1) 3 _ _ (.int .i64 next') (heap_setCell_same w' (w.heap.size + 1) 2 _ _ (.slice A' (rs.length + 1) c') h7.log)
  have hown := rowFrS ho hf (fun s hs hm => by have := own_ge ho s hs; simp at hm; omega)
  refine ⟨⟨A1, A2, A3, n1, n2, n3, c1, c2, c3, s', l', (hf.block _ (heap_lt hg) (by simp)).trans hg, hv.fr hf (by simp)⟩, ?_, ?_, (hf.block _ (heap_lt h7.res1) (by simp)).trans h7.res1, (hf.block _ (heap_lt h7.res2) (by simp)).trans h7.res2, h7.below.trans (hf.below h7.below.size (by simp)), by have := hf.size; have := h7.size; omega⟩
  · rw [List.length_append]
    exact hl
  · rw [List.length_append]
    exact own_mono hown hlo
end Go.Proofs.Ytajakmfloeefpaa
