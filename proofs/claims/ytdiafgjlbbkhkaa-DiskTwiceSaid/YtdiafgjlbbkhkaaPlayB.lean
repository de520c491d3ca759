/- The law's Play: Flush. -/
import Derived.Test.YtdiafgjlbbkhkaaPlayA
namespace Go.Proofs.Ytdiafgjlbbkhkaa
open Go.RowKit Go.Maps

set_option maxRecDepth 100000 in
set_option maxHeartbeats 4000000 in
theorem play_flush (w : World) (B T p bs bw : Nat) (M : DM) (v : Value) (o : OpR) (h : Pair w B T p bs bw M v) (ho : o.ok w B) (hB : B ≤ w.heap.size) (hT : T ≤ 1000) (hk : o.kind = 2) :
    Calls Try.prog 19 #[.pointer (some ⟨p, 0, none⟩), v, o.v] w fun e w' => Played w w' B T p bs bw M e := by
  have hh := h
  obtain ⟨⟨hD, ⟨A1, A2, A3, c1, c2, c3, rfl, h1, h2, h3⟩, hk⟩, hp, hbs, hbw, hst, hpos⟩ := h
  obtain ⟨d0, d1, d2⟩ := three_new w (.cells #[.slice A1 (refOf M).sure.length c1, .slice A2 (refOf M).now.length c2, .slice A3 (refOf M).fresh.length c3, .int .i64 (refOf M).steps, .int .i64 (refOf M).left] 31) (.cells #[.int .i64 o.kind, .int .i64 o.n, .int .i64 o.cut, .slice o.b.A o.b.l.length o.b.c, .bool o.raw, .slice o.KA o.keep.length o.kc] 38) (.cells #[.slice none 0 0, .slice none 0 0, .slice none 0 0, .int .i64 0, .int .i64 0] 31)
  have hb0 : Below w.heap.size w (((w.alloc (.cells #[.slice A1 (refOf M).sure.length c1, .slice A2 (refOf M).now.length c2, .slice A3 (refOf M).fresh.length c3, .int .i64 (refOf M).steps, .int .i64 (refOf M).left] 31)).alloc (.cells #[.int .i64 o.kind, .int .i64 o.n, .int .i64 o.cut, .slice o.b.A o.b.l.length o.b.c, .bool o.raw, .slice o.KA o.keep.length o.kc] 38)).alloc (.cells #[.slice none 0 0, .slice none 0 0, .slice none 0 0, .int .i64 0, .int .i64 0] 31)) := (((Below.refl _ _).alloc (Nat.le_refl _) _).alloc (by simp) _).alloc (by simp; omega) _
  have hs0 : (((w.alloc (.cells #[.slice A1 (refOf M).sure.length c1, .slice A2 (refOf M).now.length c2, .slice A3 (refOf M).fresh.length c3, .int .i64 (refOf M).steps, .int .i64 (refOf M).left] 31)).alloc (.cells #[.int .i64 o.kind, .int .i64 o.n, .int .i64 o.cut, .slice o.b.A o.b.l.length o.b.c, .bool o.raw, .slice o.KA o.keep.length o.kc] 38)).alloc (.cells #[.slice none 0 0, .slice none 0 0, .slice none 0 0, .int .i64 0, .int .i64 0] 31)).heap.size = w.heap.size + 3 := by simp
  have HZ := Lib.hid (And.intro hb0 (And.intro hs0 (And.intro d0 (And.intro d1 d2))))
  have HH := Lib.hid (And.intro hh (And.intro ho (And.intro hB hT)))
  unfold OpR.v
  clear hb0 hs0 d0 d1 d2 hD h1 h2 h3 hk hp hbs hbw hst hpos hh ho hB hT
  rw [hk] at HZ ⊢
  have hD := HH.out.1.both.disk.kept HZ.out.1
  have hk0 := HH.out.1.both.ok
  have hlt := HH.out.1.both.disk.lt
  have hcall := flushM hD ⟨hk0.size, hk0.steps, hk0.left, by have := HH.out.2.2.2; omega⟩
  have HC := Lib.hid hcall
  have HLT := Lib.hid hlt
  have hrf := fun (W1 : World) (hf : Fr (((w.alloc (.cells #[.slice A1 (refOf M).sure.length c1, .slice A2 (refOf M).now.length c2, .slice A3 (refOf M).fresh.length c3, .int .i64 (refOf M).steps, .int .i64 (refOf M).left] 31)).alloc (.cells #[.int .i64 2, .int .i64 o.n, .int .i64 o.cut, .slice o.b.A o.b.l.length o.b.c, .bool o.raw, .slice o.KA o.keep.length o.kc] 38)).alloc (.cells #[.slice none 0 0, .slice none 0 0, .slice none 0 0, .int .i64 0, .int .i64 0] 31)) W1 [p, bs, bw]) (hs : w.heap.size + 3 ≤ W1.heap.size) => rflush_any W1 ([p, bs, bw] ++ [w.heap.size, w.heap.size + 1 + 1]) (refOf M) _ (((HH.out.1.both.ref.ext (Y := [w.heap.size, w.heap.size + 1 + 1]) HH.out.1.pos (by simp; omega)).below HZ.out.1).fr hf (by simp)) (refOf_ok HH.out.1.both.ok) (by have := HLT.out; intro x hx; simp at hx; omega)
  have HRF := Lib.hid hrf
  clear hD hk0 hlt hcall hrf
  go_enter Try.func19, Try.ntmps19
  go_upto_region 2 with go_in
  generalize (((w.alloc (.cells #[.slice A1 (refOf M).sure.length c1, .slice A2 (refOf M).now.length c2, .slice A3 (refOf M).fresh.length c3, .int .i64 (refOf M).steps, .int .i64 (refOf M).left] 31)).alloc (.cells #[.int .i64 2, .int .i64 o.n, .int .i64 o.cut, .slice o.b.A o.b.l.length o.b.c, .bool o.raw, .slice o.KA o.keep.length o.kc] 38)).alloc (.cells #[.slice none 0 0, .slice none 0 0, .slice none 0 0, .int .i64 0, .int .i64 0] 31)) = W at HZ HC HRF ⊢
  have y0 := cell_of_row W (w.heap.size + 1) 0 _ _ _ HZ.out.2.2.2.1
  have y1 := cell_of_row W (w.heap.size + 1) 1 _ _ _ HZ.out.2.2.2.1
  go_upto_region 29 with (first
    | (go_at_call 51; (with_reducible refine HC.out.mono ?_); rintro e w1 ⟨rfl, hD1, hF1⟩; have hs1 := hF1.size; rw [HZ.out.2.1] at hs1; have q0 := (hF1.block w.heap.size (by have := HZ.out.2.1; omega) (by have := HLT.out; simp; omega)).trans HZ.out.2.2.1; have q1 := (hF1.block (w.heap.size + 1) (by have := HZ.out.2.1; omega) (by have := HLT.out; simp; omega)).trans HZ.out.2.2.2.1; have q2 := (hF1.block (w.heap.size + 1 + 1) (by have := HZ.out.2.1; omega) (by have := HLT.out; simp; omega)).trans HZ.out.2.2.2.2; have x0 := cell_of_row w1 (w.heap.size) 0 _ _ _ q0; have x1 := cell_of_row w1 (w.heap.size) 1 _ _ _ q0; have x2 := cell_of_row w1 (w.heap.size) 2 _ _ _ q0; have x3 := cell_of_row w1 (w.heap.size) 3 _ _ _ q0; have x4 := cell_of_row w1 (w.heap.size) 4 _ _ _ q0; have yy0 := cell_of_row w1 (w.heap.size + 1) 0 _ _ _ q1; have yy1 := cell_of_row w1 (w.heap.size + 1) 1 _ _ _ q1)
    | (go_at_call 52; (refine (HRF.out w1 hF1 hs1).mono ?_); rintro e w2 ⟨v2, rfl, hR2, hb2⟩; rw [(refOf_flush M).1]; rw [(refOf_flush M).2] at hR2; have hR2' := hR2; obtain ⟨a1, a2, a3, d1, d2, d3, rfl, _, _, _⟩ := hR2; have n0 := (hb2.block w.heap.size (by omega)).trans q0; have n2 := (hb2.block (w.heap.size + 1 + 1) (by omega)).trans q2; have u0 := cell_of_row w2 (w.heap.size) 0 _ _ _ n0; have u1 := cell_of_row w2 (w.heap.size) 1 _ _ _ n0; have u2 := cell_of_row w2 (w.heap.size) 2 _ _ _ n0; have u3 := cell_of_row w2 (w.heap.size) 3 _ _ _ n0; have u4 := cell_of_row w2 (w.heap.size) 4 _ _ _ n0; have uf0 := frozen_of_row w2 (w.heap.size) 0 _ _ n0; have uf1 := frozen_of_row w2 (w.heap.size) 1 _ _ n0; have uf2 := frozen_of_row w2 (w.heap.size) 2 _ _ n0; have uf3 := frozen_of_row w2 (w.heap.size) 3 _ _ n0; have uf4 := frozen_of_row w2 (w.heap.size) 4 _ _ n0)
    | go_in)
  obtain ⟨m1, hm1⟩ : ∃ m, m = (refOf M.flushM).sure.length := ⟨_, rfl⟩
  obtain ⟨m2, hm2⟩ : ∃ m, m = (refOf M.flushM).now.length := ⟨_, rfl⟩
  obtain ⟨m3, hm3⟩ : ∃ m, m = (refOf M.flushM).fresh.length := ⟨_, rfl⟩
  obtain ⟨s3, hs3⟩ : ∃ m, m = (refOf M.flushM).steps := ⟨_, rfl⟩
  obtain ⟨l3, hl3⟩ : ∃ m, m = (refOf M.flushM).left := ⟨_, rfl⟩
  rw [← hm1, ← hm2, ← hm3, ← hs3, ← hl3] at hR2' ⊢
  clear hm1 hm2 hm3 hs3 hl3
  have g0 := set5 n0 (.slice a1 m1 d1) (.slice a2 m2 d2) (.slice a3 m3 d3) (.int .i64 s3) (.int .i64 l3)
  have g2 := (other_put w2 w.heap.size (w.heap.size + 1 + 1) (by omega) (.slice a1 m1 d1) (.slice a2 m2 d2) (.slice a3 m3 d3) (.int .i64 s3) (.int .i64 l3)).trans n2
  have f3 : Fr w2 (((((w2.setCell ⟨w.heap.size, 0, none⟩ (.slice a1 m1 d1)).setCell ⟨w.heap.size, 1, none⟩ (.slice a2 m2 d2)).setCell ⟨w.heap.size, 2, none⟩ (.slice a3 m3 d3)).setCell ⟨w.heap.size, 3, none⟩ (.int .i64 s3)).setCell ⟨w.heap.size, 4, none⟩ (.int .i64 l3)) [w.heap.size] := (((((Fr.refl _ _).setCell (by simp) _).setCell (by simp) _).setCell (by simp) _).setCell (by simp) _).setCell (by simp) _
  have z2 := hb2.size
  generalize ((((w2.setCell ⟨w.heap.size, 0, none⟩ (.slice a1 m1 d1)).setCell ⟨w.heap.size, 1, none⟩ (.slice a2 m2 d2)).setCell ⟨w.heap.size, 2, none⟩ (.slice a3 m3 d3)).setCell ⟨w.heap.size, 3, none⟩ (.int .i64 s3)).setCell ⟨w.heap.size, 4, none⟩ (.int .i64 l3) = w3 at g0 g2 f3 ⊢
  have r0 := cell_of_row w3 (w.heap.size) 0 _ _ _ g0
  have r1 := cell_of_row w3 (w.heap.size) 1 _ _ _ g0
  have r2 := cell_of_row w3 (w.heap.size) 2 _ _ _ g0
  have r3 := cell_of_row w3 (w.heap.size) 3 _ _ _ g0
  have r4 := cell_of_row w3 (w.heap.size) 4 _ _ _ g0
  have t0 := cell_of_row w3 (w.heap.size + 1 + 1) 0 _ _ _ g2
  have t1 := cell_of_row w3 (w.heap.size + 1 + 1) 1 _ _ _ g2
  have t2 := cell_of_row w3 (w.heap.size + 1 + 1) 2 _ _ _ g2
  have t3 := cell_of_row w3 (w.heap.size + 1 + 1) 3 _ _ _ g2
  have t4 := cell_of_row w3 (w.heap.size + 1 + 1) 4 _ _ _ g2
  have tf0 := frozen_of_row w3 (w.heap.size + 1 + 1) 0 _ _ g2
  have tf1 := frozen_of_row w3 (w.heap.size + 1 + 1) 1 _ _ g2
  have tf2 := frozen_of_row w3 (w.heap.size + 1 + 1) 2 _ _ g2
  have tf3 := frozen_of_row w3 (w.heap.size + 1 + 1) 3 _ _ g2
  have tf4 := frozen_of_row w3 (w.heap.size + 1 + 1) 4 _ _ g2
  have HE := Lib.hid (And.intro hD1 (And.intro hF1 (And.intro hR2' (And.intro hb2 (And.intro g2 (And.intro f3 (And.intro hs1 z2)))))))
  clear hD1 hF1 hR2' hb2 g0 g2 f3 q0 q1 q2 n0 n2 hs1 z2 HC HRF y0 y1
  go_region
  all_goals
    go_wp2_with go_in
    have f4 : Fr w3 (((((w3.setCell ⟨w.heap.size + 1 + 1, 0, none⟩ (.slice a1 m1 d1)).setCell ⟨w.heap.size + 1 + 1, 1, none⟩ (.slice a2 m2 d2)).setCell ⟨w.heap.size + 1 + 1, 2, none⟩ (.slice a3 m3 d3)).setCell ⟨w.heap.size + 1 + 1, 3, none⟩ (.int .i64 s3)).setCell ⟨w.heap.size + 1 + 1, 4, none⟩ (.int .i64 l3)).drew [w.heap.size + 1 + 1] := ((((((Fr.refl _ _).setCell (by simp) _).setCell (by simp) _).setCell (by simp) _).setCell (by simp) _).setCell (by simp) _).drew
    have hF : (((((w3.setCell ⟨w.heap.size + 1 + 1, 0, none⟩ (.slice a1 m1 d1)).setCell ⟨w.heap.size + 1 + 1, 1, none⟩ (.slice a2 m2 d2)).setCell ⟨w.heap.size + 1 + 1, 2, none⟩ (.slice a3 m3 d3)).setCell ⟨w.heap.size + 1 + 1, 3, none⟩ (.int .i64 s3)).setCell ⟨w.heap.size + 1 + 1, 4, none⟩ (.int .i64 l3)).drew.heap[w.heap.size + 1 + 1]? = some (.cells #[(.slice a1 m1 d1), (.slice a2 m2 d2), (.slice a3 m3 d3), (.int .i64 s3), (.int .i64 l3)] 31 (0, 0)) := set5 HE.out.2.2.2.2.1 _ _ _ _ _
    have hlt := HLT.out
    have zs := HE.out.2.2.2.2.2.2
    have z3 := HE.out.2.2.2.2.2.1.size
    have F2 : Fr w2 (((((w3.setCell ⟨w.heap.size + 1 + 1, 0, none⟩ (.slice a1 m1 d1)).setCell ⟨w.heap.size + 1 + 1, 1, none⟩ (.slice a2 m2 d2)).setCell ⟨w.heap.size + 1 + 1, 2, none⟩ (.slice a3 m3 d3)).setCell ⟨w.heap.size + 1 + 1, 3, none⟩ (.int .i64 s3)).setCell ⟨w.heap.size + 1 + 1, 4, none⟩ (.int .i64 l3)).drew [w.heap.size, w.heap.size + 1 + 1] := (HE.out.2.2.2.2.2.1.mono (by simp)).trans (f4.mono (by simp))
    have hDf := ((HE.out.1.kept HE.out.2.2.2.1).fr F2 (by simp; omega) (by simp; omega) (by simp; omega)).mono (Nat.le_succ T)
    have hRf : RefV (((((w3.setCell ⟨w.heap.size + 1 + 1, 0, none⟩ (.slice a1 m1 d1)).setCell ⟨w.heap.size + 1 + 1, 1, none⟩ (.slice a2 m2 d2)).setCell ⟨w.heap.size + 1 + 1, 2, none⟩ (.slice a3 m3 d3)).setCell ⟨w.heap.size + 1 + 1, 3, none⟩ (.int .i64 s3)).setCell ⟨w.heap.size + 1 + 1, 4, none⟩ (.int .i64 l3)).drew [p, bs, bw] (refOf M.flushM) (.agg #[(.slice a1 m1 d1), (.slice a2 m2 d2), (.slice a3 m3 d3), (.int .i64 s3), (.int .i64 l3)]) := (HE.out.2.2.1.fr F2 (by simp)).sub (by simp)
    have hpp := HH.out.1
    have hbF : Below B w (((((w3.setCell ⟨w.heap.size + 1 + 1, 0, none⟩ (.slice a1 m1 d1)).setCell ⟨w.heap.size + 1 + 1, 1, none⟩ (.slice a2 m2 d2)).setCell ⟨w.heap.size + 1 + 1, 2, none⟩ (.slice a3 m3 d3)).setCell ⟨w.heap.size + 1 + 1, 3, none⟩ (.int .i64 s3)).setCell ⟨w.heap.size + 1 + 1, 4, none⟩ (.int .i64 l3)).drew := (lower' HZ.out.1 HH.out.2.2.1).trans ((HE.out.2.1.below (by have := HZ.out.2.1; have := HH.out.2.2.1; omega) (by have := hpp.p; have := hpp.bs; have := hpp.bw; simp; omega)).trans ((lower' HE.out.2.2.2.1 (by have := HH.out.2.2.1; omega)).trans (F2.below (by have := HH.out.2.2.1; omega) (by have := HH.out.2.2.1; simp; omega))))
    have hfx := flush_facts M
    have hnx := nextOk hpp.both.ok hpp.steps HH.out.2.2.2 hfx.1 hfx.2.1 (Nat.le_trans hfx.2.2 hpp.both.ok.left)
    refine bodyPost_ret (resPlay hF _ rfl) rfl ?_
    refine ⟨p, bs, bw, M.flushM, _, rfl, ⟨⟨hDf, hRf, hnx.1⟩, hpp.p, hpp.bs, hpp.bw, hnx.2, by rw [hfx.1]; exact hpp.pos⟩, hfx.1, hbF, ((((Fr.of_below HZ.out.1 [p, bs, bw]).more HE.out.2.1 (by intro s hs; simp at hs ⊢; omega)).more (Fr.of_below HE.out.2.2.2.1 []) (by simp)).more F2 (by intro s hs; simp at hs ⊢; omega))⟩
set_option maxRecDepth 100000 in
set_option maxHeartbeats 4000000 in
theorem play_arm (w : World) (B T p bs bw : Nat) (M : DM) (v : Value) (o : OpR) (h : Pair w B T p bs bw M v) (ho : o.ok w B) (hB : B ≤ w.heap.size) (hT : T ≤ 1000) (hk : o.kind = 3) :
    Calls Try.prog 19 #[.pointer (some ⟨p, 0, none⟩), v, o.v] w fun e w' => Played w w' B T p bs bw M e := by
  have hh := h
  obtain ⟨⟨hD, ⟨A1, A2, A3, c1, c2, c3, rfl, h1, h2, h3⟩, hk⟩, hp, hbs, hbw, hst, hpos⟩ := h
  obtain ⟨d0, d1, d2⟩ := three_new w (.cells #[.slice A1 (refOf M).sure.length c1, .slice A2 (refOf M).now.length c2, .slice A3 (refOf M).fresh.length c3, .int .i64 (refOf M).steps, .int .i64 (refOf M).left] 31) (.cells #[.int .i64 o.kind, .int .i64 o.n, .int .i64 o.cut, .slice o.b.A o.b.l.length o.b.c, .bool o.raw, .slice o.KA o.keep.length o.kc] 38) (.cells #[.slice none 0 0, .slice none 0 0, .slice none 0 0, .int .i64 0, .int .i64 0] 31)
  have hb0 : Below w.heap.size w (((w.alloc (.cells #[.slice A1 (refOf M).sure.length c1, .slice A2 (refOf M).now.length c2, .slice A3 (refOf M).fresh.length c3, .int .i64 (refOf M).steps, .int .i64 (refOf M).left] 31)).alloc (.cells #[.int .i64 o.kind, .int .i64 o.n, .int .i64 o.cut, .slice o.b.A o.b.l.length o.b.c, .bool o.raw, .slice o.KA o.keep.length o.kc] 38)).alloc (.cells #[.slice none 0 0, .slice none 0 0, .slice none 0 0, .int .i64 0, .int .i64 0] 31)) := (((Below.refl _ _).alloc (Nat.le_refl _) _).alloc (by simp) _).alloc (by simp; omega) _
  have hs0 : (((w.alloc (.cells #[.slice A1 (refOf M).sure.length c1, .slice A2 (refOf M).now.length c2, .slice A3 (refOf M).fresh.length c3, .int .i64 (refOf M).steps, .int .i64 (refOf M).left] 31)).alloc (.cells #[.int .i64 o.kind, .int .i64 o.n, .int .i64 o.cut, .slice o.b.A o.b.l.length o.b.c, .bool o.raw, .slice o.KA o.keep.length o.kc] 38)).alloc (.cells #[.slice none 0 0, .slice none 0 0, .slice none 0 0, .int .i64 0, .int .i64 0] 31)).heap.size = w.heap.size + 3 := by simp
  have HZ := Lib.hid (And.intro hb0 (And.intro hs0 (And.intro d0 (And.intro d1 d2))))
  have HH := Lib.hid (And.intro hh (And.intro ho (And.intro hB hT)))
  unfold OpR.v
  clear hb0 hs0 d0 d1 d2 hD h1 h2 h3 hk hp hbs hbw hst hpos hh ho hB hT
  rw [hk] at HZ ⊢
  have hD := HH.out.1.both.disk.kept HZ.out.1
  have hk0 := HH.out.1.both.ok
  have hlt := HH.out.1.both.disk.lt
  have hcall := armM hD o.n
  have HC := Lib.hid hcall
  have HLT := Lib.hid hlt
  have hrf := fun (W1 : World) (hf : Fr (((w.alloc (.cells #[.slice A1 (refOf M).sure.length c1, .slice A2 (refOf M).now.length c2, .slice A3 (refOf M).fresh.length c3, .int .i64 (refOf M).steps, .int .i64 (refOf M).left] 31)).alloc (.cells #[.int .i64 3, .int .i64 o.n, .int .i64 o.cut, .slice o.b.A o.b.l.length o.b.c, .bool o.raw, .slice o.KA o.keep.length o.kc] 38)).alloc (.cells #[.slice none 0 0, .slice none 0 0, .slice none 0 0, .int .i64 0, .int .i64 0] 31)) W1 [p]) (hs : w.heap.size + 3 ≤ W1.heap.size) => rarm_any W1 ([p, bs, bw] ++ [w.heap.size, w.heap.size + 1 + 1]) (refOf M) _ (((HH.out.1.both.ref.ext (Y := [w.heap.size, w.heap.size + 1 + 1]) HH.out.1.pos (by simp; omega)).below HZ.out.1).fr hf (by simp)) o.n
  have HRF := Lib.hid hrf
  clear hD hk0 hlt hcall hrf
  go_enter Try.func19, Try.ntmps19
  go_upto_region 2 with go_in
  generalize (((w.alloc (.cells #[.slice A1 (refOf M).sure.length c1, .slice A2 (refOf M).now.length c2, .slice A3 (refOf M).fresh.length c3, .int .i64 (refOf M).steps, .int .i64 (refOf M).left] 31)).alloc (.cells #[.int .i64 3, .int .i64 o.n, .int .i64 o.cut, .slice o.b.A o.b.l.length o.b.c, .bool o.raw, .slice o.KA o.keep.length o.kc] 38)).alloc (.cells #[.slice none 0 0, .slice none 0 0, .slice none 0 0, .int .i64 0, .int .i64 0] 31)) = W at HZ HC HRF ⊢
  have y0 := cell_of_row W (w.heap.size + 1) 0 _ _ _ HZ.out.2.2.2.1
  have y1 := cell_of_row W (w.heap.size + 1) 1 _ _ _ HZ.out.2.2.2.1
  go_upto_region 29 with (first
    | (go_at_call 22; (with_reducible refine HC.out.mono ?_); rintro e w1 ⟨rfl, hD1, hF1⟩; have hs1 := hF1.size; rw [HZ.out.2.1] at hs1; have q0 := (hF1.block w.heap.size (by have := HZ.out.2.1; omega) (by have := HLT.out; simp; omega)).trans HZ.out.2.2.1; have q1 := (hF1.block (w.heap.size + 1) (by have := HZ.out.2.1; omega) (by have := HLT.out; simp; omega)).trans HZ.out.2.2.2.1; have q2 := (hF1.block (w.heap.size + 1 + 1) (by have := HZ.out.2.1; omega) (by have := HLT.out; simp; omega)).trans HZ.out.2.2.2.2; have x0 := cell_of_row w1 (w.heap.size) 0 _ _ _ q0; have x1 := cell_of_row w1 (w.heap.size) 1 _ _ _ q0; have x2 := cell_of_row w1 (w.heap.size) 2 _ _ _ q0; have x3 := cell_of_row w1 (w.heap.size) 3 _ _ _ q0; have x4 := cell_of_row w1 (w.heap.size) 4 _ _ _ q0; have yy0 := cell_of_row w1 (w.heap.size + 1) 0 _ _ _ q1; have yy1 := cell_of_row w1 (w.heap.size + 1) 1 _ _ _ q1)
    | (go_at_call 33; (refine (HRF.out w1 hF1 hs1).mono ?_); rintro e w2 ⟨v2, rfl, hR2, hb2⟩; rw [(refOf_arm M o.n).1]; rw [(refOf_arm M o.n).2] at hR2; have hR2' := hR2; obtain ⟨a1, a2, a3, d1, d2, d3, rfl, _, _, _⟩ := hR2; have n0 := (hb2.block w.heap.size (by omega)).trans q0; have n2 := (hb2.block (w.heap.size + 1 + 1) (by omega)).trans q2; have u0 := cell_of_row w2 (w.heap.size) 0 _ _ _ n0; have u1 := cell_of_row w2 (w.heap.size) 1 _ _ _ n0; have u2 := cell_of_row w2 (w.heap.size) 2 _ _ _ n0; have u3 := cell_of_row w2 (w.heap.size) 3 _ _ _ n0; have u4 := cell_of_row w2 (w.heap.size) 4 _ _ _ n0; have uf0 := frozen_of_row w2 (w.heap.size) 0 _ _ n0; have uf1 := frozen_of_row w2 (w.heap.size) 1 _ _ n0; have uf2 := frozen_of_row w2 (w.heap.size) 2 _ _ n0; have uf3 := frozen_of_row w2 (w.heap.size) 3 _ _ n0; have uf4 := frozen_of_row w2 (w.heap.size) 4 _ _ n0)
    | go_in)
  obtain ⟨m1, hm1⟩ : ∃ m, m = (refOf (M.armM o.n)).sure.length := ⟨_, rfl⟩
  obtain ⟨m2, hm2⟩ : ∃ m, m = (refOf (M.armM o.n)).now.length := ⟨_, rfl⟩
  obtain ⟨m3, hm3⟩ : ∃ m, m = (refOf (M.armM o.n)).fresh.length := ⟨_, rfl⟩
  obtain ⟨s3, hs3⟩ : ∃ m, m = (refOf (M.armM o.n)).steps := ⟨_, rfl⟩
  obtain ⟨l3, hl3⟩ : ∃ m, m = (refOf (M.armM o.n)).left := ⟨_, rfl⟩
  rw [← hm1, ← hm2, ← hm3, ← hs3, ← hl3] at hR2' ⊢
  clear hm1 hm2 hm3 hs3 hl3
  have g0 := set5 n0 (.slice a1 m1 d1) (.slice a2 m2 d2) (.slice a3 m3 d3) (.int .i64 s3) (.int .i64 l3)
  have g2 := (other_put w2 w.heap.size (w.heap.size + 1 + 1) (by omega) (.slice a1 m1 d1) (.slice a2 m2 d2) (.slice a3 m3 d3) (.int .i64 s3) (.int .i64 l3)).trans n2
  have f3 : Fr w2 (((((w2.setCell ⟨w.heap.size, 0, none⟩ (.slice a1 m1 d1)).setCell ⟨w.heap.size, 1, none⟩ (.slice a2 m2 d2)).setCell ⟨w.heap.size, 2, none⟩ (.slice a3 m3 d3)).setCell ⟨w.heap.size, 3, none⟩ (.int .i64 s3)).setCell ⟨w.heap.size, 4, none⟩ (.int .i64 l3)) [w.heap.size] := (((((Fr.refl _ _).setCell (by simp) _).setCell (by simp) _).setCell (by simp) _).setCell (by simp) _).setCell (by simp) _
  have z2 := hb2.size
  generalize ((((w2.setCell ⟨w.heap.size, 0, none⟩ (.slice a1 m1 d1)).setCell ⟨w.heap.size, 1, none⟩ (.slice a2 m2 d2)).setCell ⟨w.heap.size, 2, none⟩ (.slice a3 m3 d3)).setCell ⟨w.heap.size, 3, none⟩ (.int .i64 s3)).setCell ⟨w.heap.size, 4, none⟩ (.int .i64 l3) = w3 at g0 g2 f3 ⊢
  have r0 := cell_of_row w3 (w.heap.size) 0 _ _ _ g0
  have r1 := cell_of_row w3 (w.heap.size) 1 _ _ _ g0
  have r2 := cell_of_row w3 (w.heap.size) 2 _ _ _ g0
  have r3 := cell_of_row w3 (w.heap.size) 3 _ _ _ g0
  have r4 := cell_of_row w3 (w.heap.size) 4 _ _ _ g0
  have t0 := cell_of_row w3 (w.heap.size + 1 + 1) 0 _ _ _ g2
  have t1 := cell_of_row w3 (w.heap.size + 1 + 1) 1 _ _ _ g2
  have t2 := cell_of_row w3 (w.heap.size + 1 + 1) 2 _ _ _ g2
  have t3 := cell_of_row w3 (w.heap.size + 1 + 1) 3 _ _ _ g2
  have t4 := cell_of_row w3 (w.heap.size + 1 + 1) 4 _ _ _ g2
  have tf0 := frozen_of_row w3 (w.heap.size + 1 + 1) 0 _ _ g2
  have tf1 := frozen_of_row w3 (w.heap.size + 1 + 1) 1 _ _ g2
  have tf2 := frozen_of_row w3 (w.heap.size + 1 + 1) 2 _ _ g2
  have tf3 := frozen_of_row w3 (w.heap.size + 1 + 1) 3 _ _ g2
  have tf4 := frozen_of_row w3 (w.heap.size + 1 + 1) 4 _ _ g2
  have HE := Lib.hid (And.intro hD1 (And.intro hF1 (And.intro hR2' (And.intro hb2 (And.intro g2 (And.intro f3 (And.intro hs1 z2)))))))
  clear hD1 hF1 hR2' hb2 g0 g2 f3 q0 q1 q2 n0 n2 hs1 z2 HC HRF y0 y1
  go_region
  all_goals
    go_wp2_with go_in
    have f4 : Fr w3 (((((w3.setCell ⟨w.heap.size + 1 + 1, 0, none⟩ (.slice a1 m1 d1)).setCell ⟨w.heap.size + 1 + 1, 1, none⟩ (.slice a2 m2 d2)).setCell ⟨w.heap.size + 1 + 1, 2, none⟩ (.slice a3 m3 d3)).setCell ⟨w.heap.size + 1 + 1, 3, none⟩ (.int .i64 s3)).setCell ⟨w.heap.size + 1 + 1, 4, none⟩ (.int .i64 l3)).drew [w.heap.size + 1 + 1] := ((((((Fr.refl _ _).setCell (by simp) _).setCell (by simp) _).setCell (by simp) _).setCell (by simp) _).setCell (by simp) _).drew
    have hF : (((((w3.setCell ⟨w.heap.size + 1 + 1, 0, none⟩ (.slice a1 m1 d1)).setCell ⟨w.heap.size + 1 + 1, 1, none⟩ (.slice a2 m2 d2)).setCell ⟨w.heap.size + 1 + 1, 2, none⟩ (.slice a3 m3 d3)).setCell ⟨w.heap.size + 1 + 1, 3, none⟩ (.int .i64 s3)).setCell ⟨w.heap.size + 1 + 1, 4, none⟩ (.int .i64 l3)).drew.heap[w.heap.size + 1 + 1]? = some (.cells #[(.slice a1 m1 d1), (.slice a2 m2 d2), (.slice a3 m3 d3), (.int .i64 s3), (.int .i64 l3)] 31 (0, 0)) := set5 HE.out.2.2.2.2.1 _ _ _ _ _
    have hlt := HLT.out
    have zs := HE.out.2.2.2.2.2.2
    have z3 := HE.out.2.2.2.2.2.1.size
    have F2 : Fr w2 (((((w3.setCell ⟨w.heap.size + 1 + 1, 0, none⟩ (.slice a1 m1 d1)).setCell ⟨w.heap.size + 1 + 1, 1, none⟩ (.slice a2 m2 d2)).setCell ⟨w.heap.size + 1 + 1, 2, none⟩ (.slice a3 m3 d3)).setCell ⟨w.heap.size + 1 + 1, 3, none⟩ (.int .i64 s3)).setCell ⟨w.heap.size + 1 + 1, 4, none⟩ (.int .i64 l3)).drew [w.heap.size, w.heap.size + 1 + 1] := (HE.out.2.2.2.2.2.1.mono (by simp)).trans (f4.mono (by simp))
    have hDf := ((HE.out.1.kept HE.out.2.2.2.1).fr F2 (by simp; omega) (by simp; omega) (by simp; omega)).mono (Nat.le_succ T)
    have hRf : RefV (((((w3.setCell ⟨w.heap.size + 1 + 1, 0, none⟩ (.slice a1 m1 d1)).setCell ⟨w.heap.size + 1 + 1, 1, none⟩ (.slice a2 m2 d2)).setCell ⟨w.heap.size + 1 + 1, 2, none⟩ (.slice a3 m3 d3)).setCell ⟨w.heap.size + 1 + 1, 3, none⟩ (.int .i64 s3)).setCell ⟨w.heap.size + 1 + 1, 4, none⟩ (.int .i64 l3)).drew [p, bs, bw] (refOf (M.armM o.n)) (.agg #[(.slice a1 m1 d1), (.slice a2 m2 d2), (.slice a3 m3 d3), (.int .i64 s3), (.int .i64 l3)]) := (HE.out.2.2.1.fr F2 (by simp)).sub (by simp)
    have hpp := HH.out.1
    have hbF : Below B w (((((w3.setCell ⟨w.heap.size + 1 + 1, 0, none⟩ (.slice a1 m1 d1)).setCell ⟨w.heap.size + 1 + 1, 1, none⟩ (.slice a2 m2 d2)).setCell ⟨w.heap.size + 1 + 1, 2, none⟩ (.slice a3 m3 d3)).setCell ⟨w.heap.size + 1 + 1, 3, none⟩ (.int .i64 s3)).setCell ⟨w.heap.size + 1 + 1, 4, none⟩ (.int .i64 l3)).drew := (lower' HZ.out.1 HH.out.2.2.1).trans ((HE.out.2.1.below (by have := HZ.out.2.1; have := HH.out.2.2.1; omega) (by have := hpp.p; have := hpp.bs; have := hpp.bw; simp; omega)).trans ((lower' HE.out.2.2.2.1 (by have := HH.out.2.2.1; omega)).trans (F2.below (by have := HH.out.2.2.1; omega) (by have := HH.out.2.2.1; simp; omega))))
    have hfx := arm_facts M o.n HH.out.2.1.n.2 hpp.both.ok.left
    have hnx := nextOk hpp.both.ok hpp.steps HH.out.2.2.2 hfx.1 hfx.2.1 hfx.2.2
    refine bodyPost_ret (resPlay hF _ rfl) rfl ?_
    refine ⟨p, bs, bw, (M.armM o.n), _, rfl, ⟨⟨hDf, hRf, hnx.1⟩, hpp.p, hpp.bs, hpp.bw, hnx.2, by rw [hfx.1]; exact hpp.pos⟩, hfx.1, hbF, ((((Fr.of_below HZ.out.1 [p, bs, bw]).more HE.out.2.1 (by intro s hs; simp at hs ⊢; omega)).more (Fr.of_below HE.out.2.2.2.1 []) (by simp)).more F2 (by intro s hs; simp at hs ⊢; omega))⟩
end Go.Proofs.Ytdiafgjlbbkhkaa
