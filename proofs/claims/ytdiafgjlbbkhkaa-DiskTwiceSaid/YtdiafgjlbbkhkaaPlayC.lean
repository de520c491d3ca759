/- The law's Play: Crash. -/
import Derived.Test.YtdiafgjlbbkhkaaPlayB
namespace Go.Proofs.Ytdiafgjlbbkhkaa
open Go.RowKit Go.Maps

set_option maxRecDepth 100000 in
set_option maxHeartbeats 4000000 in
theorem play_crash (w : World) (B T p bs bw : Nat) (M : DM) (v : Value) (o : OpR) (h : Pair w B T p bs bw M v) (ho : o.ok w B) (hB : B ≤ w.heap.size) (hT : T ≤ 1000) (hk : o.kind = 4) :
    Calls Try.prog 19 #[.pointer (some ⟨p, 0, none⟩), v, o.v] w fun e w' => Played w w' B T p bs bw M e := by
  have hh := h
  obtain ⟨⟨hD, ⟨A1, A2, A3, c1, c2, c3, rfl, h1, h2, h3⟩, hk⟩, hp, hbs, hbw, hst, hpos⟩ := h
  obtain ⟨d0, d1, d2⟩ := three_new w (.cells #[.slice A1 (refOf M).sure.length c1, .slice A2 (refOf M).now.length c2, .slice A3 (refOf M).fresh.length c3, .int .i64 (refOf M).steps, .int .i64 (refOf M).left] 31) (.cells #[.int .i64 o.kind, .int .i64 o.n, .int .i64 o.cut, .slice o.b.A o.b.l.length o.b.c, .bool o.raw, .slice o.KA o.keep.length o.kc] 38) (.cells #[.slice none 0 0, .slice none 0 0, .slice none 0 0, .int .i64 0, .int .i64 0] 31)
  have hb0 : Below w.heap.size w (((w.alloc (.cells #[.slice A1 (refOf M).sure.length c1, .slice A2 (refOf M).now.length c2, .slice A3 (refOf M).fresh.length c3, .int .i64 (refOf M).steps, .int .i64 (refOf M).left] 31)).alloc (.cells #[.int .i64 o.kind, .int .i64 o.n, .int .i64 o.cut, .slice o.b.A o.b.l.length o.b.c, .bool o.raw, .slice o.KA o.keep.length o.kc] 38)).alloc (.cells #[.slice none 0 0, .slice none 0 0, .slice none 0 0, .int .i64 0, .int .i64 0] 31)) := (((Below.refl _ _).alloc (Nat.le_refl _) _).alloc (by simp) _).alloc (by simp; omega) _
  have hs0 : (((w.alloc (.cells #[.slice A1 (refOf M).sure.length c1, .slice A2 (refOf M).now.length c2, .slice A3 (refOf M).fresh.length c3, .int .i64 (refOf M).steps, .int .i64 (refOf M).left] 31)).alloc (.cells #[.int .i64 o.kind, .int .i64 o.n, .int .i64 o.cut, .slice o.b.A o.b.l.length o.b.c, .bool o.raw, .slice o.KA o.keep.length o.kc] 38)).alloc (.cells #[.slice none 0 0, .slice none 0 0, .slice none 0 0, .int .i64 0, .int .i64 0] 31)).heap.size = w.heap.size + 3 := by simp
  have HZ := Lib.hid (And.intro hb0 (And.intro hs0 (And.intro d0 (And.intro d1 d2))))
  have HH := Lib.hid (And.intro hh (And.intro ho (And.intro hB hT)))
  unfold OpR.v
  clear hb0 hs0 d0 d1 d2 hD h1 h2 h3 hk hp hbs hbw hst hpos hh ho hB hT
  rw [hk] at HZ ⊢
  have hlt := HH.out.1.both.disk.lt
  obtain ⟨i0, hi, hz0, hz1, hz2⟩ := info_parts infoBool
  have HLT := Lib.hid hlt
  clear hlt
  go_enter Try.func19, Try.ntmps19
  go_upto_region 2 with go_in
  generalize (((w.alloc (.cells #[.slice A1 (refOf M).sure.length c1, .slice A2 (refOf M).now.length c2, .slice A3 (refOf M).fresh.length c3, .int .i64 (refOf M).steps, .int .i64 (refOf M).left] 31)).alloc (.cells #[.int .i64 4, .int .i64 o.n, .int .i64 o.cut, .slice o.b.A o.b.l.length o.b.c, .bool o.raw, .slice o.KA o.keep.length o.kc] 38)).alloc (.cells #[.slice none 0 0, .slice none 0 0, .slice none 0 0, .int .i64 0, .int .i64 0] 31)) = W at HZ ⊢
  have hKS : ∀ w' : World, Below W.heap.size W w' → w'.heap[w.heap.size]? = some (.cells #[.slice A1 (refOf M).sure.length c1, .slice A2 (refOf M).now.length c2, .slice A3 (refOf M).fresh.length c3, .int .i64 (refOf M).steps, .int .i64 (refOf M).left] 31) ∧ w'.heap[w.heap.size + 1]? = some (.cells #[.int .i64 4, .int .i64 o.n, .int .i64 o.cut, .slice o.b.A o.b.l.length o.b.c, .bool o.raw, .slice o.KA o.keep.length o.kc] 38) ∧ w'.heap[w.heap.size + 1 + 1]? = some (.cells #[.slice none 0 0, .slice none 0 0, .slice none 0 0, .int .i64 0, .int .i64 0] 31) := fun w' h =>
    ⟨(h.block w.heap.size (by have := HZ.out.2.1; omega)).trans HZ.out.2.2.1, (h.block (w.heap.size + 1) (by have := HZ.out.2.1; omega)).trans HZ.out.2.2.2.1, (h.block (w.heap.size + 1 + 1) (by have := HZ.out.2.1; omega)).trans HZ.out.2.2.2.2⟩
  have bA : Below W.heap.size W (W.alloc (.cells #[] 4)) := (Below.refl _ _).alloc (Nat.le_refl _) _
  obtain ⟨v5, w5, hrun5, hown5, hg5, _⟩ := run_appR (P := Try.prog) ((W.alloc (.cells #[] 4)).drew) W.heap.size 29 29 4 i0 _ 1 1 Try.underlying29 hi hz0 hz1 hz2 rfl (by omega) (.slice (some ⟨W.heap.size, 0, none⟩) 0 0) 0 [] (own_lit0 W (Nat.le_refl _)) B o.KA o.keep.length o.kc (o.keep.map Value.bool) (by simp) ((HH.out.2.1.keep.below (lower' HZ.out.1 HH.out.2.2.1) (Nat.le_refl _)).below (lower' bA (by have := HZ.out.2.1; have := HH.out.2.2.1; omega)) (Nat.le_refl _) |>.drew) (by intro u hu; obtain ⟨b, _, rfl⟩ := List.mem_map.1 hu; rfl) (by have := HH.out.2.1.kc; omega) (by omega) (by simp)
  rw [Nat.zero_add, List.nil_append] at hown5
  have hB5 : Below W.heap.size W w5 := append0_below (e := 4) ⟨hg5.os, hg5.tape, hg5.output, hg5.size, hg5.block⟩
  obtain ⟨A5, c5, rfl, _, _, hr5⟩ := own_shape hown5
  have y0 := cell_of_row W (w.heap.size + 1) 0 _ _ _ HZ.out.2.2.2.1
  have hKY : ∀ w' : World, Below W.heap.size W w' → (w'.cell? ⟨w.heap.size + 1, 1, none⟩ = some (.int .i64 o.n) ∧ w'.cell? ⟨w.heap.size + 1, 2, none⟩ = some (.int .i64 o.cut) ∧ w'.cell? ⟨w.heap.size + 1, 5, none⟩ = some (.slice o.KA o.keep.length o.kc)) := fun w' h =>
    have hg := (hKS w' h).2.1
    ⟨cell_of_row w' (w.heap.size + 1) 1 _ _ _ hg, cell_of_row w' (w.heap.size + 1) 2 _ _ _ hg, cell_of_row w' (w.heap.size + 1) 5 _ _ _ hg⟩
  have KY := Lib.hid hKY
  have HBA := Lib.hid bA
  have hcr := crashM (HH.out.1.both.disk.kept (HZ.out.1.trans (lower' hB5 HZ.out.1.size))) (by have := HH.out.2.2.2; omega) A5 c5 o.keep o.n o.cut hr5
  have HCR := Lib.hid hcr
  have HB5 := Lib.hid (And.intro hB5 hKS)
  clear hown5 hg5 hB5 hr5 hKS hKY bA hcr
  go_wp2_with go_in
  go_region_held3 (fun w' => (w'.cell? ⟨w.heap.size + 1, 1, none⟩ = some (.int .i64 o.n) ∧ w'.cell? ⟨w.heap.size + 1, 2, none⟩ = some (.int .i64 o.cut) ∧ w'.cell? ⟨w.heap.size + 1, 5, none⟩ = some (.slice o.KA o.keep.length o.kc)))
    (first
      | exact KY.out _ (Below.refl _ _).drew
      | exact KY.out _ HBA.out.drew
      | exact KY.out _ hB6
      | exact KY.out _ HB5.out.1
      | assumption)
    (first
      | (go_at_call 21; (refine HCR.out.mono ?_); rintro e w6 ⟨p', bs', bw', rfl, hp', hbs', hbw', hD6, hb6⟩; have hB6 : Below W.heap.size W w6 := HB5.out.1.trans (lower' hb6 HB5.out.1.size))
      | (refine step_appK _ (by rfl) (.tmp 92) (.tmp 94) 29 rfl rfl _ _ _ _ rfl rfl hrun5 ?_))
  have hBw6 : Below w.heap.size w w6 := HZ.out.1.trans (lower' hB6 HZ.out.1.size)
  have k6 := HB5.out.2 w6 hB6
  have x0 := cell_of_row w6 (w.heap.size) 0 _ _ _ k6.1
  have x1 := cell_of_row w6 (w.heap.size) 1 _ _ _ k6.1
  have x2 := cell_of_row w6 (w.heap.size) 2 _ _ _ k6.1
  have x3 := cell_of_row w6 (w.heap.size) 3 _ _ _ k6.1
  have x4 := cell_of_row w6 (w.heap.size) 4 _ _ _ k6.1
  have HTL := Lib.hid (tells_any w6 p bs bw T M _ (HH.out.1.both.below hBw6))
  have HD6 := Lib.hid (And.intro hD6 (And.intro hB6 (And.intro hBw6 (And.intro hb6 (And.intro hp' (And.intro hbs' hbw'))))))
  clear k6 hD6 hB6 hBw6 hb6 hp' hbs' hbw'
  go_upto_region 29 with (first
    | (go_at_call 20; (with_reducible refine HTL.out.mono ?_); rintro e w7 ⟨rfl, hb7⟩)
    | (go_at_call 24; (refine (bytes_one 77 w7).mono ?_); rintro e w8 ⟨g8, rfl, hg81, hg82, hr8, hb8⟩; have b68 : Below w6.heap.size w6 w8 := hb7.trans (lower' hb8 hb7.size); have bw8 : Below w.heap.size w w8 := HD6.out.2.2.1.trans (lower' b68 HD6.out.2.2.1.size); have bW8 : Below W.heap.size W w8 := HD6.out.2.1.trans (lower' b68 HD6.out.2.1.size))
    | (go_at_call 23; (refine (writeC (HH.out.1.both.disk.kept bw8) HH.out.1.both.ok 0 g8 (bytesL [77]) (bytesL_len _) _ hr8 (by have := HLT.out; have := HD6.out.2.2.1.size; have := hb7.size; omega)).mono ?_); rintro e w9 ⟨rfl, _, hF9⟩; have z9 := hF9.size; have y8 := bW8.size; have g9 := (hF9.block w.heap.size (by have := HZ.out.2.1; omega) (by have := HLT.out; simp; omega)).trans (HB5.out.2 w8 bW8).1; have g9' := (hF9.block (w.heap.size + 1) (by have := HZ.out.2.1; omega) (by have := HLT.out; simp; omega)).trans (HB5.out.2 w8 bW8).2.1; have g9'' := (hF9.block (w.heap.size + 1 + 1) (by have := HZ.out.2.1; omega) (by have := HLT.out; simp; omega)).trans (HB5.out.2 w8 bW8).2.2; have r0 := cell_of_row w9 (w.heap.size) 0 _ _ _ g9; have r1 := cell_of_row w9 (w.heap.size) 1 _ _ _ g9; have r2 := cell_of_row w9 (w.heap.size) 2 _ _ _ g9; have r3 := cell_of_row w9 (w.heap.size) 3 _ _ _ g9; have r4 := cell_of_row w9 (w.heap.size) 4 _ _ _ g9; have ss0 := cell_of_row w9 (w.heap.size + 1) 0 _ _ _ g9'; have ss1 := cell_of_row w9 (w.heap.size + 1) 1 _ _ _ g9'; have ss2 := cell_of_row w9 (w.heap.size + 1) 2 _ _ _ g9'; have ss3 := cell_of_row w9 (w.heap.size + 1) 3 _ _ _ g9'; have ss4 := cell_of_row w9 (w.heap.size + 1) 4 _ _ _ g9'; have ss5 := cell_of_row w9 (w.heap.size + 1) 5 _ _ _ g9'; have hcp := HD6.out.1.lt; have hR9 : RefV w9 [p', bs', bw', w.heap.size, w.heap.size + 1 + 1] (refOf M) _ := ((((HH.out.1.both.ref.ext (Y := [p', bs', bw', w.heap.size, w.heap.size + 1 + 1]) HH.out.1.pos (by have := HZ.out.1.size; have := HB5.out.1.size; have := HD6.out.2.2.2.2; intro y hy; simp at hy; omega)).below bw8).fr hF9 (by simp)).sub (by simp)); have bB9 : Below B w w9 := (lower' bw8 HH.out.2.2.1).trans (hF9.below (by have := bw8.size; have := HH.out.2.2.1; omega) (by have := HH.out.1.p; have := HH.out.1.bw; simp; omega)))
    | (go_at_call 35; (refine (rcrash_any w9 _ (refOf M) _ hR9 (refOf_ok HH.out.1.both.ok) (by have := b68.size; intro x hx; simp at hx; have := HZ.out.2.1; omega) (refOf_full HH.out.1.both.disk.full).1 (refOf_full HH.out.1.both.disk.full).2 o.KA o.keep o.kc ((HH.out.2.1.keep.below bB9 (Nat.le_refl _)).more (by have := HH.out.2.2.1; have := bw8.size; omega)) o.n o.cut).mono ?_); rintro e w10 ⟨v2, rfl, hR2, hb2⟩; rw [refOf_crashed] at hR2; have hR2' := hR2; obtain ⟨a1, a2, a3, d1, d2, d3, rfl, _, _, _⟩ := hR2; have n0 := (hb2.block w.heap.size (by have := HZ.out.2.1; omega)).trans g9; have n2 := (hb2.block (w.heap.size + 1 + 1) (by have := HZ.out.2.1; omega)).trans g9''; have u0 := cell_of_row w10 (w.heap.size) 0 _ _ _ n0; have u1 := cell_of_row w10 (w.heap.size) 1 _ _ _ n0; have u2 := cell_of_row w10 (w.heap.size) 2 _ _ _ n0; have u3 := cell_of_row w10 (w.heap.size) 3 _ _ _ n0; have u4 := cell_of_row w10 (w.heap.size) 4 _ _ _ n0; have uf0 := frozen_of_row w10 (w.heap.size) 0 _ _ n0; have uf1 := frozen_of_row w10 (w.heap.size) 1 _ _ n0; have uf2 := frozen_of_row w10 (w.heap.size) 2 _ _ n0; have uf3 := frozen_of_row w10 (w.heap.size) 3 _ _ n0; have uf4 := frozen_of_row w10 (w.heap.size) 4 _ _ n0)
    | go_in)
  obtain ⟨m1, hm1⟩ : ∃ m, m = (refOf (M.crashed o.keep o.n o.cut)).sure.length := ⟨_, rfl⟩
  obtain ⟨m2, hm2⟩ : ∃ m, m = (refOf (M.crashed o.keep o.n o.cut)).now.length := ⟨_, rfl⟩
  obtain ⟨m3, hm3⟩ : ∃ m, m = (refOf (M.crashed o.keep o.n o.cut)).fresh.length := ⟨_, rfl⟩
  obtain ⟨s3, hs3⟩ : ∃ m, m = (refOf (M.crashed o.keep o.n o.cut)).steps := ⟨_, rfl⟩
  obtain ⟨l3, hl3⟩ : ∃ m, m = (refOf (M.crashed o.keep o.n o.cut)).left := ⟨_, rfl⟩
  rw [← hm1, ← hm2, ← hm3, ← hs3, ← hl3] at hR2' ⊢
  clear hm1 hm2 hm3 hs3 hl3
  have g0 := set5 n0 (.slice a1 m1 d1) (.slice a2 m2 d2) (.slice a3 m3 d3) (.int .i64 s3) (.int .i64 l3)
  have g2 := (other_put w10 w.heap.size (w.heap.size + 1 + 1) (by omega) (.slice a1 m1 d1) (.slice a2 m2 d2) (.slice a3 m3 d3) (.int .i64 s3) (.int .i64 l3)).trans n2
  have f3 : Fr w10 (((((w10.setCell ⟨w.heap.size, 0, none⟩ (.slice a1 m1 d1)).setCell ⟨w.heap.size, 1, none⟩ (.slice a2 m2 d2)).setCell ⟨w.heap.size, 2, none⟩ (.slice a3 m3 d3)).setCell ⟨w.heap.size, 3, none⟩ (.int .i64 s3)).setCell ⟨w.heap.size, 4, none⟩ (.int .i64 l3)) [w.heap.size] := (((((Fr.refl _ _).setCell (by simp) _).setCell (by simp) _).setCell (by simp) _).setCell (by simp) _).setCell (by simp) _
  have zA := hb2.size
  have zB := b68.size
  generalize ((((w10.setCell ⟨w.heap.size, 0, none⟩ (.slice a1 m1 d1)).setCell ⟨w.heap.size, 1, none⟩ (.slice a2 m2 d2)).setCell ⟨w.heap.size, 2, none⟩ (.slice a3 m3 d3)).setCell ⟨w.heap.size, 3, none⟩ (.int .i64 s3)).setCell ⟨w.heap.size, 4, none⟩ (.int .i64 l3) = w3 at g0 g2 f3 ⊢
  have rr0 := cell_of_row w3 (w.heap.size) 0 _ _ _ g0
  have rr1 := cell_of_row w3 (w.heap.size) 1 _ _ _ g0
  have rr2 := cell_of_row w3 (w.heap.size) 2 _ _ _ g0
  have rr3 := cell_of_row w3 (w.heap.size) 3 _ _ _ g0
  have rr4 := cell_of_row w3 (w.heap.size) 4 _ _ _ g0
  have t0 := cell_of_row w3 (w.heap.size + 1 + 1) 0 _ _ _ g2
  have t1 := cell_of_row w3 (w.heap.size + 1 + 1) 1 _ _ _ g2
  have t2 := cell_of_row w3 (w.heap.size + 1 + 1) 2 _ _ _ g2
  have t3 := cell_of_row w3 (w.heap.size + 1 + 1) 3 _ _ _ g2
  have t4 := cell_of_row w3 (w.heap.size + 1 + 1) 4 _ _ _ g2
  have tf0 := frozen_of_row w3 (w.heap.size + 1 + 1) 0 _ _ g2
  have tf1 := frozen_of_row w3 (w.heap.size + 1 + 1) 1 _ _ g2
  have tf2 := frozen_of_row w3 (w.heap.size + 1 + 1) 2 _ _ g2
  have tf3 := frozen_of_row w3 (w.heap.size + 1 + 1) 3 _ _ g2
  have tf4 := frozen_of_row w3 (w.heap.size + 1 + 1) 4 _ _ g2
  have hD10 : DiskM w10 p' bs' bw' (M.crashed o.keep o.n o.cut) T := (((HD6.out.1.kept b68).fr hF9 (by have := HLT.out; have := HD6.out.2.2.2.2; have := HB5.out.1.size; have := HZ.out.2.1; simp; omega) (by have := HLT.out; have := HD6.out.2.2.2.2; have := HB5.out.1.size; have := HZ.out.2.1; simp; omega) (by have := HLT.out; have := HD6.out.2.2.2.2; have := HB5.out.1.size; have := HZ.out.2.1; simp; omega))).kept hb2
  have HE := Lib.hid (And.intro hD10 (And.intro hR2' (And.intro g2 (And.intro f3 (And.intro (bB9.trans (lower' hb2 (by have := HH.out.2.2.1; have := bw8.size; omega))) (show w.heap.size + 3 ≤ w10.heap.size by have := HZ.out.2.1; omega))))))
  have HFR := Lib.hid (((Fr.of_below bw8 [p, bs, bw]).more hF9 (by intro s hs; simp at hs ⊢; omega)).more (Fr.of_below hb2 []) (by simp))
  clear hD10 hR2' hb2 g0 g2 f3 n0 n2 zA zB hF9 g9 g9' g9'' hR9 bB9 b68 bw8 bW8 hr8 hb8 hb7 HTL r0 r1 r2 r3 r4 ss0 ss1 ss2 ss3 ss4 ss5
  go_region
  all_goals
    go_wp2_with go_in
    have f4 : Fr w3 (((((w3.setCell ⟨w.heap.size + 1 + 1, 0, none⟩ (.slice a1 m1 d1)).setCell ⟨w.heap.size + 1 + 1, 1, none⟩ (.slice a2 m2 d2)).setCell ⟨w.heap.size + 1 + 1, 2, none⟩ (.slice a3 m3 d3)).setCell ⟨w.heap.size + 1 + 1, 3, none⟩ (.int .i64 s3)).setCell ⟨w.heap.size + 1 + 1, 4, none⟩ (.int .i64 l3)).drew [w.heap.size + 1 + 1] := ((((((Fr.refl _ _).setCell (by simp) _).setCell (by simp) _).setCell (by simp) _).setCell (by simp) _).setCell (by simp) _).drew
    have hF : (((((w3.setCell ⟨w.heap.size + 1 + 1, 0, none⟩ (.slice a1 m1 d1)).setCell ⟨w.heap.size + 1 + 1, 1, none⟩ (.slice a2 m2 d2)).setCell ⟨w.heap.size + 1 + 1, 2, none⟩ (.slice a3 m3 d3)).setCell ⟨w.heap.size + 1 + 1, 3, none⟩ (.int .i64 s3)).setCell ⟨w.heap.size + 1 + 1, 4, none⟩ (.int .i64 l3)).drew.heap[w.heap.size + 1 + 1]? = some (.cells #[(.slice a1 m1 d1), (.slice a2 m2 d2), (.slice a3 m3 d3), (.int .i64 s3), (.int .i64 l3)] 31 (0, 0)) := set5 HE.out.2.2.1 _ _ _ _ _
    have F2 : Fr w10 (((((w3.setCell ⟨w.heap.size + 1 + 1, 0, none⟩ (.slice a1 m1 d1)).setCell ⟨w.heap.size + 1 + 1, 1, none⟩ (.slice a2 m2 d2)).setCell ⟨w.heap.size + 1 + 1, 2, none⟩ (.slice a3 m3 d3)).setCell ⟨w.heap.size + 1 + 1, 3, none⟩ (.int .i64 s3)).setCell ⟨w.heap.size + 1 + 1, 4, none⟩ (.int .i64 l3)).drew [w.heap.size, w.heap.size + 1 + 1] := (HE.out.2.2.2.1.mono (by simp)).trans (f4.mono (by simp))
    have h6 := HD6.out.2.2.2.2
    have h5 := HB5.out.1.size
    have h4 := HZ.out.2.1
    have hB := HH.out.2.2.1
    have hDf := (HE.out.1.fr F2 (by simp; omega) (by simp; omega) (by simp; omega)).mono (Nat.le_succ T)
    have hRf : RefV (((((w3.setCell ⟨w.heap.size + 1 + 1, 0, none⟩ (.slice a1 m1 d1)).setCell ⟨w.heap.size + 1 + 1, 1, none⟩ (.slice a2 m2 d2)).setCell ⟨w.heap.size + 1 + 1, 2, none⟩ (.slice a3 m3 d3)).setCell ⟨w.heap.size + 1 + 1, 3, none⟩ (.int .i64 s3)).setCell ⟨w.heap.size + 1 + 1, 4, none⟩ (.int .i64 l3)).drew [p', bs', bw'] (refOf (M.crashed o.keep o.n o.cut)) (.agg #[(.slice a1 m1 d1), (.slice a2 m2 d2), (.slice a3 m3 d3), (.int .i64 s3), (.int .i64 l3)]) := (HE.out.2.1.fr F2 (by simp)).sub (by simp)
    have hpp := HH.out.1
    have hbF : Below B w (((((w3.setCell ⟨w.heap.size + 1 + 1, 0, none⟩ (.slice a1 m1 d1)).setCell ⟨w.heap.size + 1 + 1, 1, none⟩ (.slice a2 m2 d2)).setCell ⟨w.heap.size + 1 + 1, 2, none⟩ (.slice a3 m3 d3)).setCell ⟨w.heap.size + 1 + 1, 3, none⟩ (.int .i64 s3)).setCell ⟨w.heap.size + 1 + 1, 4, none⟩ (.int .i64 l3)).drew := HE.out.2.2.2.2.1.trans (F2.below (by have := HE.out.2.2.2.2.2; omega) (by simp; omega))
    have hok : ((M.crashed o.keep o.n o.cut)).Ok (T + 1) := ⟨hpp.both.ok.size, Nat.zero_le _, Nat.zero_le _, by have := HH.out.2.2.2; omega⟩
    refine bodyPost_ret (resPlay hF _ rfl) rfl ?_
    refine ⟨p', bs', bw', (M.crashed o.keep o.n o.cut), _, rfl, ⟨⟨hDf, hRf, hok⟩, by omega, by omega, by omega, Nat.zero_le _, hpp.pos⟩, rfl, hbF, HFR.out.more F2 (by intro s hs; simp at hs ⊢; omega)⟩
end Go.Proofs.Ytdiafgjlbbkhkaa
