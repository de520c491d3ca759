/- The law's Play: calls that are no writes. -/
import Derived.Test.YtdiafgjlbbkhkaaRefI
import Derived.Test.YtdiafgjlbbkhkaaDskX
namespace Go.Proofs.Ytdiafgjlbbkhkaa
open Go.RowKit Go.Maps

/-- A call of the script. -/
structure OpR where
  kind : Int
  n : Int
  cut : Int
  b : RowB
  raw : Bool
  KA : Option Addr
  keep : List Bool
  kc : Nat
def OpR.v (o : OpR) : Value := .agg #[.int .i64 o.kind, .int .i64 o.n, .int .i64 o.cut, .slice o.b.A o.b.l.length o.b.c, .bool o.raw, .slice o.KA o.keep.length o.kc]
structure OpR.ok (o : OpR) (w : World) (B : Nat) : Prop where
  n : -9223372036854775808 ≤ o.n ∧ o.n ≤ 9223372036854775807
  b : o.b.ok w B
  keep : Rd w B o.KA (o.keep.map Value.bool)
  kc : o.keep.length ≤ 140737488351232
theorem OpR.ok.below {o : OpR} {w w' : World} {B C : Nat} (h : o.ok w B) (hb : Below C w w') (hB : B ≤ C) : o.ok w' B := ⟨h.n, h.b.below hb hB, h.keep.below hb hB, h.kc⟩
/-- A disk, and the document's of the same, above the block B. -/
structure Pair (w : World) (B T : Nat) (p bs bw : Nat) (M : DM) (v : Value) : Prop where
  both : Both w p bs bw T M v
  p : B ≤ p
  bs : B ≤ bs
  bw : B ≤ bw
  steps : M.steps ≤ T
  pos : 0 < M.size
/-- What a call of the script leaves. -/
def Played (w w' : World) (B T p0 bs0 bw0 : Nat) (M : DM) (e : Ending) : Prop :=
  ∃ p bs bw M' v, e = .returned (.tuple #[.pointer (some ⟨p, 0, none⟩), v, .bool true]) ∧ Pair w' B (T + 1) p bs bw M' v ∧ M'.size = M.size ∧ Below B w w' ∧ Fr w w' [p0, bs0, bw0]

theorem Pair.next {w w' : World} {B T p bs bw : Nat} {M : DM} {v : Value} (h : Pair w B T p bs bw M v) (hb : Below w.heap.size w w') (hT : T ≤ 1000) : Pair w' B (T + 1) p bs bw M v :=
  ⟨⟨(h.both.disk.kept hb).mono (by omega), h.both.ref.below hb, ⟨h.both.ok.size, h.both.ok.steps, h.both.ok.left, by omega⟩⟩, h.p, h.bs, h.bw, by have := h.steps; omega, h.pos⟩
theorem resPlay {w : World} {b : Nat} {v0 v1 v2 v3 v4 : Value} (h : w.heap[b]? = some (.cells #[v0, v1, v2, v3, v4] 31 (0, 0))) (tmps : Array Value) (h2 : tmps.getD 7 undef = .pointer (some ⟨b, 0, none⟩)) :
    (results Try.f19 tmps).run Try.prog w = .ok (.tuple #[tmps.getD 6 undef, .agg #[v0, v1, v2, v3, v4], tmps.getD 8 undef]) w := by
  have e0 : w.cell? ⟨b, 0, none⟩ = some v0 := cell_of_row w b 0 _ _ _ h
  have e1 : w.cell? ⟨b, 1, none⟩ = some v1 := cell_of_row w b 1 _ _ _ h
  have e2 : w.cell? ⟨b, 2, none⟩ = some v2 := cell_of_row w b 2 _ _ _ h
  have e3 : w.cell? ⟨b, 3, none⟩ = some v3 := cell_of_row w b 3 _ _ _ h
  have e4 : w.cell? ⟨b, 4, none⟩ = some v4 := cell_of_row w b 4 _ _ _ h
  have h2' := h2
  simp only [Array.getD_eq_getD_getElem?] at h2'
  simp [results, Try.results19, go_sem, h2', e0, e1, e2, e3, e4]
theorem Sl.ext {w : World} {X Y : List Nat} {A : Option Addr} {xs : List Value} (h : Sl w X A xs) (hn : xs ≠ []) (hY : ∀ y ∈ Y, w.heap.size ≤ y) : Sl w (X ++ Y) A xs := by
  obtain ⟨b, o, e, hlt, hc⟩ := h.1 hn
  refine ⟨h.1, fun a ha hx => ?_⟩
  rcases List.mem_append.1 hx with hx | hx
  · exact h.2 a ha hx
  · rw [e] at ha; cases ha
    exact absurd (hY _ hx) (by show ¬ (w.heap.size ≤ b); omega)
theorem RefV.ext {w : World} {X Y : List Nat} {M : DM} {v : Value} (h : RefV w X (refOf M) v) (hp : 0 < M.size) (hY : ∀ y ∈ Y, w.heap.size ≤ y) : RefV w (X ++ Y) (refOf M) v := by
  obtain ⟨A1, A2, A3, c1, c2, c3, rfl, h1, h2, h3⟩ := h
  have ne : ∀ {α : Type} (f : Nat → α), (List.range M.size).map f ≠ [] := fun f e => by have := congrArg List.length e; simp at this; omega
  exact ⟨A1, A2, A3, c1, c2, c3, rfl, h1.ext (by simp only [strs, refOf, List.map_map]; exact ne _) hY, h2.ext (by simp only [strs, refOf, List.map_map]; exact ne _) hY, h3.ext (by simp only [bools, refOf, List.map_map]; exact ne _) hY⟩
theorem RefV.sub {w : World} {X Y : List Nat} {R : RD} {v : Value} (h : RefV w X R v) (hY : ∀ y ∈ Y, y ∈ X) : RefV w Y R v := by
  obtain ⟨A1, A2, A3, c1, c2, c3, rfl, h1, h2, h3⟩ := h
  exact ⟨A1, A2, A3, c1, c2, c3, rfl, h1.sub hY, h2.sub hY, h3.sub hY⟩
theorem nextOk {M M' : DM} {T : Nat} (h : M.Ok T) (hs : M.steps ≤ T) (hT : T ≤ 1000) (e1 : M'.size = M.size) (e2 : M'.steps ≤ M.steps + 1) (e3 : M'.left ≤ 9223372036854775807) : M'.Ok (T + 1) ∧ M'.steps ≤ T + 1 :=
  ⟨⟨by rw [e1]; exact h.size, by omega, e3, by omega⟩, by omega⟩
theorem flush_facts (M : DM) : M.flushM.size = M.size ∧ M.flushM.steps ≤ M.steps + 1 ∧ M.flushM.left ≤ M.left := by
  unfold DM.flushM
  split
  · exact ⟨rfl, by omega, Nat.le_refl _⟩
  · exact ⟨rfl, Nat.le_refl _, by show (if M.armed then M.left - 1 else M.left) ≤ M.left; split <;> omega⟩
theorem arm_facts (M : DM) (n : Int) (hn : n ≤ 9223372036854775807) (hl : M.left ≤ 9223372036854775807) : (M.armM n).size = M.size ∧ (M.armM n).steps ≤ M.steps + 1 ∧ (M.armM n).left ≤ 9223372036854775807 := by
  unfold DM.armM
  split
  · exact ⟨rfl, by omega, hl⟩
  · split
    · exact ⟨rfl, by omega, hl⟩
    · exact ⟨rfl, by show M.steps ≤ _; omega, by show n.toNat ≤ _; omega⟩
theorem write_facts (M : DM) (i : Int) (l : List UInt8) : (M.writeM i l).size = M.size ∧ (M.writeM i l).steps ≤ M.steps + 1 ∧ (M.writeM i l).left ≤ M.left := by
  unfold DM.writeM
  split
  · exact ⟨rfl, by omega, Nat.le_refl _⟩
  · split
    · exact ⟨rfl, by omega, Nat.le_refl _⟩
    · exact ⟨rfl, Nat.le_refl _, by show (if M.armed then M.left - 1 else M.left) ≤ M.left; split <;> omega⟩
theorem three_new (w : World) (o o' o'' : Obj) : (((w.alloc o).alloc o').alloc o'').heap[w.heap.size]? = some o ∧ (((w.alloc o).alloc o').alloc o'').heap[w.heap.size + 1]? = some o' ∧ (((w.alloc o).alloc o').alloc o'').heap[w.heap.size + 1 + 1]? = some o'' := by
  obtain ⟨g0, g1⟩ := two_new w o o'
  refine ⟨(Below.heap_alloc _ _ _ (by simp only [alloc1_size]; omega)).trans g0, (Below.heap_alloc _ _ _ (by simp only [alloc1_size]; omega)).trans g1, ?_⟩
  have := heap_alloc_new ((w.alloc o).alloc o') o''
  simp only [alloc1_size] at this
  exact this
set_option maxRecDepth 100000 in
set_option maxHeartbeats 4000000 in
theorem play_none (w : World) (B T p bs bw : Nat) (M : DM) (v : Value) (o : OpR) (h : Pair w B T p bs bw M v) (ho : o.ok w B) (hB : B ≤ w.heap.size) (hT : T ≤ 1000) (hk1 : ¬ o.kind = 1) (hk2 : ¬ o.kind = 2) (hk3 : ¬ o.kind = 3) (hk4 : ¬ o.kind = 4) :
    Calls Try.prog 19 #[.pointer (some ⟨p, 0, none⟩), v, o.v] w fun e w' => Played w w' B T p bs bw M e := by
  have hh := h
  obtain ⟨⟨hD, ⟨A1, A2, A3, c1, c2, c3, rfl, h1, h2, h3⟩, hk⟩, hp, hbs, hbw, hst, hpos⟩ := h
  obtain ⟨d0, d1, d2⟩ := three_new w (.cells #[.slice A1 (refOf M).sure.length c1, .slice A2 (refOf M).now.length c2, .slice A3 (refOf M).fresh.length c3, .int .i64 (refOf M).steps, .int .i64 (refOf M).left] 31) (.cells #[.int .i64 o.kind, .int .i64 o.n, .int .i64 o.cut, .slice o.b.A o.b.l.length o.b.c, .bool o.raw, .slice o.KA o.keep.length o.kc] 38) (.cells #[.slice none 0 0, .slice none 0 0, .slice none 0 0, .int .i64 0, .int .i64 0] 31)
  have hb0 : Below w.heap.size w (((w.alloc (.cells #[.slice A1 (refOf M).sure.length c1, .slice A2 (refOf M).now.length c2, .slice A3 (refOf M).fresh.length c3, .int .i64 (refOf M).steps, .int .i64 (refOf M).left] 31)).alloc (.cells #[.int .i64 o.kind, .int .i64 o.n, .int .i64 o.cut, .slice o.b.A o.b.l.length o.b.c, .bool o.raw, .slice o.KA o.keep.length o.kc] 38)).alloc (.cells #[.slice none 0 0, .slice none 0 0, .slice none 0 0, .int .i64 0, .int .i64 0] 31)) := (((Below.refl _ _).alloc (Nat.le_refl _) _).alloc (by simp) _).alloc (by simp; omega) _
  have hs0 : (((w.alloc (.cells #[.slice A1 (refOf M).sure.length c1, .slice A2 (refOf M).now.length c2, .slice A3 (refOf M).fresh.length c3, .int .i64 (refOf M).steps, .int .i64 (refOf M).left] 31)).alloc (.cells #[.int .i64 o.kind, .int .i64 o.n, .int .i64 o.cut, .slice o.b.A o.b.l.length o.b.c, .bool o.raw, .slice o.KA o.keep.length o.kc] 38)).alloc (.cells #[.slice none 0 0, .slice none 0 0, .slice none 0 0, .int .i64 0, .int .i64 0] 31)).heap.size = w.heap.size + 3 := by simp
  have HZ := Lib.hid (And.intro hb0 (And.intro hs0 (And.intro d0 (And.intro d1 d2))))
  have HH := Lib.hid (And.intro hh (And.intro ho (And.intro hB hT)))
  unfold OpR.v
  clear hb0 hs0 d0 d1 d2 hD h1 h2 h3 hk hp hbs hbw hst hpos hh ho hB hT
  go_enter Try.func19, Try.ntmps19
  go_upto_region 2 with go_in
  generalize (((w.alloc (.cells #[.slice A1 (refOf M).sure.length c1, .slice A2 (refOf M).now.length c2, .slice A3 (refOf M).fresh.length c3, .int .i64 (refOf M).steps, .int .i64 (refOf M).left] 31)).alloc (.cells #[.int .i64 o.kind, .int .i64 o.n, .int .i64 o.cut, .slice o.b.A o.b.l.length o.b.c, .bool o.raw, .slice o.KA o.keep.length o.kc] 38)).alloc (.cells #[.slice none 0 0, .slice none 0 0, .slice none 0 0, .int .i64 0, .int .i64 0] 31)) = W at HZ ⊢
  have x0 := cell_of_row W (w.heap.size) 0 _ _ _ HZ.out.2.2.1
  have x1 := cell_of_row W (w.heap.size) 1 _ _ _ HZ.out.2.2.1
  have x2 := cell_of_row W (w.heap.size) 2 _ _ _ HZ.out.2.2.1
  have x3 := cell_of_row W (w.heap.size) 3 _ _ _ HZ.out.2.2.1
  have x4 := cell_of_row W (w.heap.size) 4 _ _ _ HZ.out.2.2.1
  have y0 := cell_of_row W (w.heap.size + 1) 0 _ _ _ HZ.out.2.2.2.1
  have z0 := cell_of_row W (w.heap.size + 1 + 1) 0 _ _ _ HZ.out.2.2.2.2
  have z1 := cell_of_row W (w.heap.size + 1 + 1) 1 _ _ _ HZ.out.2.2.2.2
  have z2 := cell_of_row W (w.heap.size + 1 + 1) 2 _ _ _ HZ.out.2.2.2.2
  have z3 := cell_of_row W (w.heap.size + 1 + 1) 3 _ _ _ HZ.out.2.2.2.2
  have z4 := cell_of_row W (w.heap.size + 1 + 1) 4 _ _ _ HZ.out.2.2.2.2
  have zf0 := frozen_of_row W (w.heap.size + 1 + 1) 0 _ _ HZ.out.2.2.2.2
  have zf1 := frozen_of_row W (w.heap.size + 1 + 1) 1 _ _ HZ.out.2.2.2.2
  have zf2 := frozen_of_row W (w.heap.size + 1 + 1) 2 _ _ HZ.out.2.2.2.2
  have zf3 := frozen_of_row W (w.heap.size + 1 + 1) 3 _ _ HZ.out.2.2.2.2
  have zf4 := frozen_of_row W (w.heap.size + 1 + 1) 4 _ _ HZ.out.2.2.2.2
  go_upto_region 29 with go_in
  go_region
  all_goals
    go_wp2_with go_in
    have hbF : Below w.heap.size w ((((((W.setCell ⟨w.heap.size + 1 + 1, 0, none⟩ (.slice A1 (refOf M).sure.length c1)).setCell ⟨w.heap.size + 1 + 1, 1, none⟩ (.slice A2 (refOf M).now.length c2)).setCell ⟨w.heap.size + 1 + 1, 2, none⟩ (.slice A3 (refOf M).fresh.length c3)).setCell ⟨w.heap.size + 1 + 1, 3, none⟩ (.int .i64 (refOf M).steps)).setCell ⟨w.heap.size + 1 + 1, 4, none⟩ (.int .i64 (refOf M).left))).drew := ((((((HZ.out.1.setCell (by show w.heap.size ≤ w.heap.size + 1 + 1; omega) _).setCell (by show w.heap.size ≤ w.heap.size + 1 + 1; omega) _).setCell (by show w.heap.size ≤ w.heap.size + 1 + 1; omega) _).setCell (by show w.heap.size ≤ w.heap.size + 1 + 1; omega) _).setCell (by show w.heap.size ≤ w.heap.size + 1 + 1; omega) _)).drew
    have hF : ((((((W.setCell ⟨w.heap.size + 1 + 1, 0, none⟩ (.slice A1 (refOf M).sure.length c1)).setCell ⟨w.heap.size + 1 + 1, 1, none⟩ (.slice A2 (refOf M).now.length c2)).setCell ⟨w.heap.size + 1 + 1, 2, none⟩ (.slice A3 (refOf M).fresh.length c3)).setCell ⟨w.heap.size + 1 + 1, 3, none⟩ (.int .i64 (refOf M).steps)).setCell ⟨w.heap.size + 1 + 1, 4, none⟩ (.int .i64 (refOf M).left))).drew.heap[w.heap.size + 1 + 1]? = some (.cells #[.slice A1 (refOf M).sure.length c1, .slice A2 (refOf M).now.length c2, .slice A3 (refOf M).fresh.length c3, .int .i64 (refOf M).steps, .int .i64 (refOf M).left] 31 (0, 0)) := set5 HZ.out.2.2.2.2 _ _ _ _ _
    refine bodyPost_ret (resPlay hF _ rfl) rfl ?_
    exact ⟨p, bs, bw, M, _, rfl, HH.out.1.next hbF HH.out.2.2.2, rfl, lower' hbF HH.out.2.2.1, Fr.of_below hbF _⟩
end Go.Proofs.Ytdiafgjlbbkhkaa
