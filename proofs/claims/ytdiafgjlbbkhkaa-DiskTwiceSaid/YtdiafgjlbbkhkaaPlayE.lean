/- The law's Play: Write of a sector's bytes by going round; any call. -/
import Derived.Test.YtdiafgjlbbkhkaaPlayD
namespace Go.Proofs.Ytdiafgjlbbkhkaa
open Go.RowKit Go.Maps

theorem bytesY (A : Option Addr) (b : List UInt8) (c B : Nat) (w : World) (hr : Rd w B A (u8s b)) (hB : B ≤ w.heap.size) (hb : b.length ≤ 4611686018427387904) :
    Calls Try.prog 24 #[.slice A b.length c] w fun e w' => ∃ g l, e = .returned (.slice (some ⟨g, 0, none⟩) l.length l.length) ∧ w.heap.size ≤ g ∧ g < w'.heap.size ∧ Rd w' w'.heap.size (some ⟨g, 0, none⟩) (u8s l) ∧ Hid (l = bytesL b) ∧ Below w.heap.size w w' := by
  refine (bytesC A b c B w hr hB hb).mono ?_
  rintro e w' ⟨g, rfl, h1, h2, h3, h4⟩
  exact ⟨g, bytesL b, by rw [bytesL_len], h1, h2, h3, Lib.hid rfl, h4⟩
set_option maxRecDepth 100000 in
set_option maxHeartbeats 4000000 in
theorem play_write_cut (w : World) (B T p bs bw : Nat) (M : DM) (v : Value) (o : OpR) (h : Pair w B T p bs bw M v) (ho : o.ok w B) (hB : B ≤ w.heap.size) (hT : T ≤ 1000) (hk : o.kind = 1) (hw : o.raw = false) :
    Calls Try.prog 19 #[.pointer (some ⟨p, 0, none⟩), v, o.v] w fun e w' => Played w w' B T p bs bw M e := by
  have hh := h
  obtain ⟨⟨hD, ⟨A1, A2, A3, c1, c2, c3, rfl, h1, h2, h3⟩, hk⟩, hp, hbs, hbw, hst, hpos⟩ := h
  obtain ⟨d0, d1, d2⟩ := three_new w (.cells #[.slice A1 (refOf M).sure.length c1, .slice A2 (refOf M).now.length c2, .slice A3 (refOf M).fresh.length c3, .int .i64 (refOf M).steps, .int .i64 (refOf M).left] 31) (.cells #[.int .i64 o.kind, .int .i64 o.n, .int .i64 o.cut, .slice o.b.A o.b.l.length o.b.c, .bool o.raw, .slice o.KA o.keep.length o.kc] 38) (.cells #[.slice none 0 0, .slice none 0 0, .slice none 0 0, .int .i64 0, .int .i64 0] 31)
  have hb0 : Below w.heap.size w (((w.alloc (.cells #[.slice A1 (refOf M).sure.length c1, .slice A2 (refOf M).now.length c2, .slice A3 (refOf M).fresh.length c3, .int .i64 (refOf M).steps, .int .i64 (refOf M).left] 31)).alloc (.cells #[.int .i64 o.kind, .int .i64 o.n, .int .i64 o.cut, .slice o.b.A o.b.l.length o.b.c, .bool o.raw, .slice o.KA o.keep.length o.kc] 38)).alloc (.cells #[.slice none 0 0, .slice none 0 0, .slice none 0 0, .int .i64 0, .int .i64 0] 31)) := (((Below.refl _ _).alloc (Nat.le_refl _) _).alloc (by simp) _).alloc (by simp; omega) _
  have hs0 : (((w.alloc (.cells #[.slice A1 (refOf M).sure.length c1, .slice A2 (refOf M).now.length c2, .slice A3 (refOf M).fresh.length c3, .int .i64 (refOf M).steps, .int .i64 (refOf M).left] 31)).alloc (.cells #[.int .i64 o.kind, .int .i64 o.n, .int .i64 o.cut, .slice o.b.A o.b.l.length o.b.c, .bool o.raw, .slice o.KA o.keep.length o.kc] 38)).alloc (.cells #[.slice none 0 0, .slice none 0 0, .slice none 0 0, .int .i64 0, .int .i64 0] 31)).heap.size = w.heap.size + 3 := by simp
  have HZ := Lib.hid (And.intro hb0 (And.intro hs0 (And.intro d0 (And.intro d1 d2))))
  have HH := Lib.hid (And.intro hh (And.intro ho (And.intro hB hT)))
  unfold OpR.v
  clear hb0 hs0 d0 d1 d2 hD h1 h2 h3 hk hp hbs hbw hst hpos hh ho hB hT
  rw [hk, hw] at HZ ⊢
  have hlt := HH.out.1.both.disk.lt
  obtain ⟨i0, hi, hz0, hz1, hz2⟩ := info_parts infoU8
  have HLT := Lib.hid hlt
  clear hlt
  go_enter Try.func19, Try.ntmps19
  go_upto_region 2 with go_in
  generalize (((w.alloc (.cells #[.slice A1 (refOf M).sure.length c1, .slice A2 (refOf M).now.length c2, .slice A3 (refOf M).fresh.length c3, .int .i64 (refOf M).steps, .int .i64 (refOf M).left] 31)).alloc (.cells #[.int .i64 1, .int .i64 o.n, .int .i64 o.cut, .slice o.b.A o.b.l.length o.b.c, .bool false, .slice o.KA o.keep.length o.kc] 38)).alloc (.cells #[.slice none 0 0, .slice none 0 0, .slice none 0 0, .int .i64 0, .int .i64 0] 31)) = W at HZ ⊢
  have y0 := cell_of_row W (w.heap.size + 1) 0 _ _ _ HZ.out.2.2.2.1
  have y1 := cell_of_row W (w.heap.size + 1) 1 _ _ _ HZ.out.2.2.2.1
  have y2 := cell_of_row W (w.heap.size + 1) 2 _ _ _ HZ.out.2.2.2.1
  have y3 := cell_of_row W (w.heap.size + 1) 3 _ _ _ HZ.out.2.2.2.1
  have y4 := cell_of_row W (w.heap.size + 1) 4 _ _ _ HZ.out.2.2.2.1
  have HBY := Lib.hid (bytesY o.b.A o.b.l o.b.c _ W (HH.out.2.1.b.1.below (lower' HZ.out.1 HH.out.2.2.1) (Nat.le_refl _)) (by have := HZ.out.2.1; have := HH.out.2.2.1; omega) (by have := HH.out.2.1.b.2.1; have := HH.out.2.1.b.2.2; omega))
  go_upto_region 7 with (first
    | (go_at_call 24; (with_reducible refine (HBY.out).mono ?_); rintro e wy ⟨gy, Ly, rfl, hy1, hy2, hy3, hy4, hy5⟩)
    | go_in)
  have HLY := hy4
  have HZY : Hid (Below w.heap.size w wy ∧ w.heap.size + 3 ≤ wy.heap.size ∧ wy.heap[w.heap.size]? = _ ∧ wy.heap[w.heap.size + 1]? = _ ∧ wy.heap[w.heap.size + 1 + 1]? = _) := Lib.hid (And.intro (HZ.out.1.trans (lower' hy5 HZ.out.1.size)) (And.intro (by have := hy5.size; have := HZ.out.2.1; omega) (And.intro ((hy5.block _ (by have := HZ.out.2.1; omega)).trans HZ.out.2.2.1) (And.intro ((hy5.block _ (by have := HZ.out.2.1; omega)).trans HZ.out.2.2.2.1) ((hy5.block _ (by have := HZ.out.2.1; omega)).trans HZ.out.2.2.2.2)))))
  have hgw : w.heap.size + 3 ≤ gy := by have := HZ.out.2.1; omega
  have HGY := Lib.hid (And.intro hgw (And.intro hy2 hy3))
  have HBR : Hid (∀ (w' : World) (S : List Nat), Fr wy w' S → (∀ s ∈ S, (s < w.heap.size + 3) ∨ wy.heap.size ≤ s) → Rd w' w'.heap.size (some ⟨gy, 0, none⟩) (u8s Ly)) := Lib.hid fun w' S hf hS hn => by
    obtain ⟨b', o', e, hlt, hc⟩ := HGY.out.2.2 hn
    cases e
    have hns : gy ∉ S := fun hb => by have := HGY.out.1; have := HGY.out.2.1; rcases hS gy hb with h | h <;> omega
    exact ⟨gy, 0, rfl, by have := hf.size; have := HGY.out.2.1; omega, fun j u hu => by rw [← hc j u hu]; exact World.cell?_of_block (hf.block gy HGY.out.2.1 hns)⟩
  have HN := Lib.hid (And.intro (rfl : Ly.length = Ly.length) (And.intro (show Ly.length ≤ 140737488351232 by rw [HLY.out, bytesL_len]; omega) (And.intro HZY.out.1 (Below.refl wy.heap.size wy))))
  clear hy1 hy2 hy3 hy4 hy5 hgw y0 y1 y2 y3 y4
  have hN := HN.out
  have ydrop := 0
  clear ydrop
  have hbA : Below wy.heap.size wy (wy.alloc (.cells #[] 5)) := (Below.refl _ _).alloc (Nat.le_refl _) _
  have hrA : Rd (wy.alloc (.cells #[] 5)) (wy.heap.size + 1) (some ⟨gy, 0, none⟩) (u8s Ly) := by
    have := HBR.out _ [] (Fr.of_below hbA []) (by simp)
    rw [alloc1_size] at this
    exact this
  have HRA := Lib.hid hrA
  clear hbA hrA hN
  go_upto_region 10 with (first
    | (at_builtin; refine wpList_appB _ rfl (.tmp 27) (.tmp 28) _ rfl wy.heap.size 5 i0 _ Try.underlying36 hi hz0 hz1 hz2 rfl (.slice (some ⟨wy.heap.size, 0, none⟩) 0 0) [] rfl (OwnB.lit0 wy (Nat.le_refl _)) (wy.heap.size + 1) (some ⟨gy, 0, none⟩) Ly.length Ly.length Ly rfl HN.out.1 HRA.out (by have := HN.out.2.1; simp; omega) (by simp) ?_; intro v5 w5 hown5 hg5 hat5; rw [List.nil_append] at hown5; have hB5 := append0_below hg5; obtain ⟨A5, c5, rfl, _, _, hr5, hge5⟩ := hown5.shape; clear hg5 hat5; have bw5 := HN.out.2.2.1.trans (lower' hB5 HN.out.2.2.1.size); have bW5 := HN.out.2.2.2.trans (lower' hB5 HN.out.2.2.2.size); have q1 := (bW5.block (w.heap.size + 1) (by have := HZY.out.2.1; omega)).trans HZY.out.2.2.2.1; have yy0 := cell_of_row w5 (w.heap.size + 1) 0 _ _ _ q1; have yy1 := cell_of_row w5 (w.heap.size + 1) 1 _ _ _ q1)
    | (go_at_call 23; (refine (writeM (HH.out.1.both.disk.kept bw5) HH.out.1.both.ok o.n A5 Ly c5 _ hr5 (fun a ha => by have := hge5 a ha; have := HLT.out; have := HN.out.2.2.1.size; omega)).mono ?_); rintro e w6 ⟨rfl, hD6, hF6⟩; have z6 := hF6.size; have g6 := (hF6.block w.heap.size (by have := bW5.size; have := HZY.out.2.1; omega) (by have := HLT.out; simp; omega)).trans ((bW5.block w.heap.size (by have := HZY.out.2.1; omega)).trans HZY.out.2.2.1); have g6' := (hF6.block (w.heap.size + 1) (by have := bW5.size; have := HZY.out.2.1; omega) (by have := HLT.out; simp; omega)).trans q1; have x0 := cell_of_row w6 (w.heap.size) 0 _ _ _ g6; have x1 := cell_of_row w6 (w.heap.size) 1 _ _ _ g6; have x2 := cell_of_row w6 (w.heap.size) 2 _ _ _ g6; have x3 := cell_of_row w6 (w.heap.size) 3 _ _ _ g6; have x4 := cell_of_row w6 (w.heap.size) 4 _ _ _ g6; have ss0 := cell_of_row w6 (w.heap.size + 1) 0 _ _ _ g6'; have ss1 := cell_of_row w6 (w.heap.size + 1) 1 _ _ _ g6'; have qs := strAt (n := Ly.length) (c := Ly.length) (HBR.out w6 [p, bw] ((Fr.of_below hB5 _).trans hF6) (by have := HLT.out; have := HH.out.1.p; have := HH.out.1.bw; simp; omega)) HN.out.1)
    | (go_at_call 34; have hR6 : RefV w6 ([p, bs, bw] ++ (w.heap.size :: (w.heap.size + 1 + 1) :: (A5.map (·.block)).toList)) (refOf M) _ := (((HH.out.1.both.ref.ext (Y := w.heap.size :: (w.heap.size + 1 + 1) :: (A5.map (·.block)).toList) HH.out.1.pos (gl_ge hge5 (by have := HN.out.2.2.1.size; omega))).below bw5).fr hF6 (by simp)); (refine (rwrite_any w6 _ (refOf M) _ hR6 (refOf_ok HH.out.1.both.ok) (gl_lt hr5 hown5 z6 (by have := HLT.out; have := bW5.size; have := HZY.out.2.1; omega)) o.n Ly).mono ?_); rintro e w7 ⟨v2, rfl, hR2, hb2⟩; rw [(refOf_write M o.n Ly).1]; rw [(refOf_write M o.n Ly).2] at hR2; have hR2' := hR2; obtain ⟨a1, a2, a3, d1, d2, d3, rfl, _, _, _⟩ := hR2; have n0 := (hb2.block w.heap.size (by have := bW5.size; have := HZY.out.2.1; omega)).trans g6; have n2 := (hb2.block (w.heap.size + 1 + 1) (by have := bW5.size; have := HZY.out.2.1; omega)).trans ((hF6.block (w.heap.size + 1 + 1) (by have := bW5.size; have := HZY.out.2.1; omega) (by have := HLT.out; simp; omega)).trans ((bW5.block (w.heap.size + 1 + 1) (by have := HZY.out.2.1; omega)).trans HZY.out.2.2.2.2)); have u0 := cell_of_row w7 (w.heap.size) 0 _ _ _ n0; have u1 := cell_of_row w7 (w.heap.size) 1 _ _ _ n0; have u2 := cell_of_row w7 (w.heap.size) 2 _ _ _ n0; have u3 := cell_of_row w7 (w.heap.size) 3 _ _ _ n0; have u4 := cell_of_row w7 (w.heap.size) 4 _ _ _ n0; have uf0 := frozen_of_row w7 (w.heap.size) 0 _ _ n0; have uf1 := frozen_of_row w7 (w.heap.size) 1 _ _ n0; have uf2 := frozen_of_row w7 (w.heap.size) 2 _ _ n0; have uf3 := frozen_of_row w7 (w.heap.size) 3 _ _ n0; have uf4 := frozen_of_row w7 (w.heap.size) 4 _ _ n0)
    | go_in)
  obtain ⟨m1, hm1⟩ : ∃ m, m = (refOf (M.writeM o.n Ly)).sure.length := ⟨_, rfl⟩
  obtain ⟨m2, hm2⟩ : ∃ m, m = (refOf (M.writeM o.n Ly)).now.length := ⟨_, rfl⟩
  obtain ⟨m3, hm3⟩ : ∃ m, m = (refOf (M.writeM o.n Ly)).fresh.length := ⟨_, rfl⟩
  obtain ⟨s3, hs3⟩ : ∃ m, m = (refOf (M.writeM o.n Ly)).steps := ⟨_, rfl⟩
  obtain ⟨l3, hl3⟩ : ∃ m, m = (refOf (M.writeM o.n Ly)).left := ⟨_, rfl⟩
  rw [← hm1, ← hm2, ← hm3, ← hs3, ← hl3] at hR2' ⊢
  clear hm1 hm2 hm3 hs3 hl3
  have g0 := set5 n0 (.slice a1 m1 d1) (.slice a2 m2 d2) (.slice a3 m3 d3) (.int .i64 s3) (.int .i64 l3)
  have g2 := (other_put w7 w.heap.size (w.heap.size + 1 + 1) (by omega) (.slice a1 m1 d1) (.slice a2 m2 d2) (.slice a3 m3 d3) (.int .i64 s3) (.int .i64 l3)).trans n2
  have f3 : Fr w7 (((((w7.setCell ⟨w.heap.size, 0, none⟩ (.slice a1 m1 d1)).setCell ⟨w.heap.size, 1, none⟩ (.slice a2 m2 d2)).setCell ⟨w.heap.size, 2, none⟩ (.slice a3 m3 d3)).setCell ⟨w.heap.size, 3, none⟩ (.int .i64 s3)).setCell ⟨w.heap.size, 4, none⟩ (.int .i64 l3)) [w.heap.size] := (((((Fr.refl _ _).setCell (by simp) _).setCell (by simp) _).setCell (by simp) _).setCell (by simp) _).setCell (by simp) _
  generalize ((((w7.setCell ⟨w.heap.size, 0, none⟩ (.slice a1 m1 d1)).setCell ⟨w.heap.size, 1, none⟩ (.slice a2 m2 d2)).setCell ⟨w.heap.size, 2, none⟩ (.slice a3 m3 d3)).setCell ⟨w.heap.size, 3, none⟩ (.int .i64 s3)).setCell ⟨w.heap.size, 4, none⟩ (.int .i64 l3) = w8 at g0 g2 f3 ⊢
  have hD7 : DiskM w7 p bs bw (M.writeM o.n Ly) (T + 1) := hD6.kept hb2
  have ho7 : OwnB w7 wy.heap.size 5 (.slice A5 Ly.length c5) Ly := (own_fr hown5 hF6 (by have := HLT.out; have := HN.out.2.2.1.size; simp; omega)).below hb2 (Nat.le_refl _)
  have ho8 : OwnB w8 wy.heap.size 5 (.slice A5 Ly.length c5) Ly := own_fr ho7 f3 (by have := HN.out.2.2.1.size; have := HN.out.2.2.2.size; have := HZY.out.2.1; simp; omega)
  have fb7 : Fr wy w7 [p, bw] := fr_three hB5 hF6 hb2
  have hR8 : RefV w8 ([p, bs, bw] ++ (w.heap.size :: (w.heap.size + 1 + 1) :: (A5.map (·.block)).toList)) (refOf (M.writeM o.n Ly)) (.agg #[(.slice a1 m1 d1), (.slice a2 m2 d2), (.slice a3 m3 d3), (.int .i64 s3), (.int .i64 l3)]) := (hR2'.below (Below.refl _ _)).fr f3 (by simp)
  have hD8 : DiskM w8 p bs bw (M.writeM o.n Ly) (T + 1) := hD7.fr f3 (by have := HLT.out; simp; omega) (by have := HLT.out; simp; omega) (by have := HLT.out; simp; omega)
  have hf8 : Fr wy w8 [p, bw, w.heap.size] := (fb7.mono (by simp)).trans (f3.mono (by simp))
  have hb8 : Below B w w8 := (lower' HN.out.2.2.1 HH.out.2.2.1).trans (hf8.below (by have := HN.out.2.2.1.size; have := HH.out.2.2.1; omega) (by have := HH.out.1.p; have := HH.out.1.bw; have := HH.out.2.2.1; simp; omega))
  have hz8 : w.heap.size + 3 ≤ w8.heap.size := by have := hf8.size; have := HN.out.2.2.2.size; have := HZY.out.2.1; omega
  have HE := Lib.hid (And.intro hR8 (And.intro hD8 (And.intro hf8 (And.intro hb8 (And.intro g0 (And.intro g2 (And.intro ho8 (And.intro hge5 hz8))))))))
  have HFR := Lib.hid ((Fr.of_below HN.out.2.2.1 [p, bs, bw]).more hf8 (by intro s hs; simp at hs ⊢; omega))
  clear hR8 hD8 hf8 hb8 g0 g2 ho8 hge5 hz8 ho7 hD7 fb7 hR2' hb2 n0 n2 f3 hD6 hF6 z6 g6 g6' qs hown5 hB5 hr5 bw5 bW5 q1 hR6 HRA
  go_wp2_with go_in
  go_loopw [13, 46] (fun _ i wr => ∃ (k : Nat) (L5 : List UInt8), k ≤ Ly.length ∧ i = .int .i64 (k : Int) ∧ Fr w8 wr (A5.map (·.block)).toList ∧ wr.ownsRow wy.heap.size 5 1 (.slice A5 Ly.length c5) Ly.length (u8s L5) ∧ L5.length = Ly.length ∧ ∀ j, k ≤ j → L5[j]? = Ly[j]?)
    (fun _ i _ => Ly.length - (intOf i).toNat)
  case atStart => exact ⟨0, Ly, by omega, rfl, Fr.refl _ _, HE.out.2.2.2.2.2.2.1, rfl, fun _ _ => rfl⟩
  case round =>
    obtain ⟨k, L5, hk', rfl, hfr, hrow, hl5, hsame⟩ := hrel
    by_cases hkl : k < Ly.length
    · have hkI : (k : Int) < (Ly.length : Int) := by omega
      obtain ⟨g5, c6, he, hg5, hg52, _, _⟩ := own_form hrow (by omega)
      cases he
      obtain ⟨x, hx⟩ : ∃ x, Ly[k]? = some x := ⟨_, List.getElem?_eq_getElem hkl⟩
      have hx5 := (hsame k (Nat.le_refl _)).trans hx
      have ca : wr.cell? ⟨g5, k, none⟩ = some (.int .u8 (x.toNat : Int)) := by
        rw [World.ownsRow.cellAt hrow k (by omega)]
        simp [u8s, hx5]
      have fz := World.ownsRow.frozenAt hrow k
      have hfw : Fr wy wr [p, bw, w.heap.size, g5] := (HE.out.2.2.1.mono (by simp)).trans (hfr.mono (by simp))
      obtain ⟨pb, ob, eb, hpb, hcb⟩ := (HBR.out wr _ hfw (by have := HLT.out; have := HH.out.1.p; have := HH.out.1.bw; have := HH.out.2.2.1; simp; omega)).get (k := k) (by rw [u8s_len]; exact hkl)
      have cb' : wr.cell? ⟨pb, ob + k, none⟩ = some (.int .u8 (x.toNat : Int)) := by
        rw [hcb, u8s_get _ k hkl]
        rw [List.getElem?_eq_getElem hkl] at hx
        injection hx with hx
        rw [hx]
      obtain ⟨x1, hx1⟩ : ∃ x1 : UInt8, x1 = x + 1 := ⟨_, rfl⟩
      have hadd : ((x.toNat : Int) + 1) % 256 = (x1.toNat : Int) := by
        rw [hx1, UInt8.toNat_add]
        show _ = (((x.toNat + 1) % 256 : Nat) : Int)
        omega
      have HX := Lib.hid (And.intro hfr (And.intro hrow (And.intro hl5 (And.intro hsame hkl))))
      cases eb
      rw [Nat.zero_add] at cb'
      clear hfr hrow hl5 hsame hkl hx hx5 hfw hcb hpb hg52 hx1
      go_upto_region 13 with go_in
      go_quiet (fail)
      have hst := (World.ownsRow.stored (w := wr.drewN nq) HX.out.2.1 k (.int .u8 (x1.toNat : Int))).1
      rw [← u8s_set] at hst
      have hfq := HX.out.1.drewN nq
      have ca2 : (wr.drewN nq).cell? ⟨g5, k, none⟩ = some (.int .u8 (x.toNat : Int)) := ca
      have fz2 : (wr.drewN nq).frozen? ⟨g5, k, none⟩ = false := fz
      generalize wr.drewN nq = wq at hst hfq ca2 fz2 ⊢
      have HST := Lib.hid (And.intro hst hfq)
      have HADD := Lib.hid hadd
      clear hst hfq ca fz cb' hadd
      have hkB : (k : Int) ≤ 140737488351232 := by have := HN.out.2.1; omega
      clear HLT HZ HH HBR HN HE HZY HGY HLY HBY HFR
      go_upto_region 15 with go_in
      go_upto_region 16 with go_in
      go_wp2_with go_in
      rw [HADD.out]
      refine ⟨⟨k + 1, L5.set k x1, HX.out.2.2.2.2, by simp, ?_, HST.out.1, by rw [List.length_set]; exact HX.out.2.2.1, fun j hj => ?_⟩, by simp [intOf]; have := HX.out.2.2.2.2; omega⟩
      · exact HST.out.2.setCell (by simp) _
      · rw [List.getElem?_set_ne (by omega)]; exact HX.out.2.2.2.1 j (by omega)
    · obtain rfl : k = Ly.length := by omega
      have hgl : ∀ y ∈ (A5.map (·.block)).toList, wy.heap.size ≤ y := by
        intro y hy
        cases A5 with
        | none => simp at hy
        | some a => simp at hy; have := HE.out.2.2.2.2.2.2.2.1 a rfl; omega
      have hww := HN.out.2.2.2.size
      have h3 := HZY.out.2.1
      have q0 := (hfr.block w.heap.size (by have := HE.out.2.2.2.2.2.2.2.2; omega) (fun h => by have := hgl _ h; omega)).trans HE.out.2.2.2.2.1
      have q2 := (hfr.block (w.heap.size + 1 + 1) (by have := HE.out.2.2.2.2.2.2.2.2; omega) (fun h => by have := hgl _ h; omega)).trans HE.out.2.2.2.2.2.1
      have rr0 := cell_of_row wr (w.heap.size) 0 _ _ _ q0
      have rr1 := cell_of_row wr (w.heap.size) 1 _ _ _ q0
      have rr2 := cell_of_row wr (w.heap.size) 2 _ _ _ q0
      have rr3 := cell_of_row wr (w.heap.size) 3 _ _ _ q0
      have rr4 := cell_of_row wr (w.heap.size) 4 _ _ _ q0
      have t0 := cell_of_row wr (w.heap.size + 1 + 1) 0 _ _ _ q2
      have t1 := cell_of_row wr (w.heap.size + 1 + 1) 1 _ _ _ q2
      have t2 := cell_of_row wr (w.heap.size + 1 + 1) 2 _ _ _ q2
      have t3 := cell_of_row wr (w.heap.size + 1 + 1) 3 _ _ _ q2
      have t4 := cell_of_row wr (w.heap.size + 1 + 1) 4 _ _ _ q2
      have tf0 := frozen_of_row wr (w.heap.size + 1 + 1) 0 _ _ q2
      have tf1 := frozen_of_row wr (w.heap.size + 1 + 1) 1 _ _ q2
      have tf2 := frozen_of_row wr (w.heap.size + 1 + 1) 2 _ _ q2
      have tf3 := frozen_of_row wr (w.heap.size + 1 + 1) 3 _ _ q2
      have tf4 := frozen_of_row wr (w.heap.size + 1 + 1) 4 _ _ q2
      have hkI : ¬ ((Ly.length : Int) < (Ly.length : Int)) := by omega
      have HX := Lib.hid (And.intro hfr (And.intro hgl (And.intro q2 (And.intro hww h3))))
      clear hfr hrow hl5 hsame hgl q0 q2 hww h3 hkl
      go_upto_region 29 with go_in
      go_region
      all_goals
        go_wp2_with go_in
        have f4 : Fr wr (((((wr.setCell ⟨w.heap.size + 1 + 1, 0, none⟩ (.slice a1 m1 d1)).setCell ⟨w.heap.size + 1 + 1, 1, none⟩ (.slice a2 m2 d2)).setCell ⟨w.heap.size + 1 + 1, 2, none⟩ (.slice a3 m3 d3)).setCell ⟨w.heap.size + 1 + 1, 3, none⟩ (.int .i64 s3)).setCell ⟨w.heap.size + 1 + 1, 4, none⟩ (.int .i64 l3)).drew [w.heap.size + 1 + 1] := ((((((Fr.refl _ _).setCell (by simp) _).setCell (by simp) _).setCell (by simp) _).setCell (by simp) _).setCell (by simp) _).drew
        have hF : (((((wr.setCell ⟨w.heap.size + 1 + 1, 0, none⟩ (.slice a1 m1 d1)).setCell ⟨w.heap.size + 1 + 1, 1, none⟩ (.slice a2 m2 d2)).setCell ⟨w.heap.size + 1 + 1, 2, none⟩ (.slice a3 m3 d3)).setCell ⟨w.heap.size + 1 + 1, 3, none⟩ (.int .i64 s3)).setCell ⟨w.heap.size + 1 + 1, 4, none⟩ (.int .i64 l3)).drew.heap[w.heap.size + 1 + 1]? = some (.cells #[(.slice a1 m1 d1), (.slice a2 m2 d2), (.slice a3 m3 d3), (.int .i64 s3), (.int .i64 l3)] 31 (0, 0)) := set5 HX.out.2.2.1 _ _ _ _ _
        have F2 : Fr w8 (((((wr.setCell ⟨w.heap.size + 1 + 1, 0, none⟩ (.slice a1 m1 d1)).setCell ⟨w.heap.size + 1 + 1, 1, none⟩ (.slice a2 m2 d2)).setCell ⟨w.heap.size + 1 + 1, 2, none⟩ (.slice a3 m3 d3)).setCell ⟨w.heap.size + 1 + 1, 3, none⟩ (.int .i64 s3)).setCell ⟨w.heap.size + 1 + 1, 4, none⟩ (.int .i64 l3)).drew ((w.heap.size + 1 + 1) :: (A5.map (·.block)).toList) := (HX.out.1.mono (fun x hx => List.mem_cons_of_mem _ hx)).trans (f4.mono (by simp))
        have hlt := HLT.out
        have hww := HX.out.2.2.2.1
        have h3 := HX.out.2.2.2.2
        have hS : ∀ z, z < w.heap.size → z ∉ ((w.heap.size + 1 + 1) :: (A5.map (·.block)).toList) := by
          intro z hz hm
          rcases List.mem_cons.1 hm with h | h
          · omega
          · have := HX.out.2.1 _ h; omega
        have hDf := HE.out.2.1.fr F2 (hS _ hlt.1) (hS _ hlt.2.1) (hS _ hlt.2.2)
        have hRf : RefV (((((wr.setCell ⟨w.heap.size + 1 + 1, 0, none⟩ (.slice a1 m1 d1)).setCell ⟨w.heap.size + 1 + 1, 1, none⟩ (.slice a2 m2 d2)).setCell ⟨w.heap.size + 1 + 1, 2, none⟩ (.slice a3 m3 d3)).setCell ⟨w.heap.size + 1 + 1, 3, none⟩ (.int .i64 s3)).setCell ⟨w.heap.size + 1 + 1, 4, none⟩ (.int .i64 l3)).drew [p, bs, bw] (refOf (M.writeM o.n Ly)) (.agg #[(.slice a1 m1 d1), (.slice a2 m2 d2), (.slice a3 m3 d3), (.int .i64 s3), (.int .i64 l3)]) := (HE.out.1.fr F2 (fun y hy => by rcases List.mem_cons.1 hy with h | h <;> simp [h])).sub (fun y hy => List.mem_append_left _ hy)
        have hpp := HH.out.1
        have hbF : Below B w (((((wr.setCell ⟨w.heap.size + 1 + 1, 0, none⟩ (.slice a1 m1 d1)).setCell ⟨w.heap.size + 1 + 1, 1, none⟩ (.slice a2 m2 d2)).setCell ⟨w.heap.size + 1 + 1, 2, none⟩ (.slice a3 m3 d3)).setCell ⟨w.heap.size + 1 + 1, 3, none⟩ (.int .i64 s3)).setCell ⟨w.heap.size + 1 + 1, 4, none⟩ (.int .i64 l3)).drew := HE.out.2.2.2.1.trans (F2.below (by have := HE.out.2.2.2.2.2.2.2.2; have := HH.out.2.2.1; omega) (fun y hy => (List.mem_cons.1 hy).elim (fun h => by have := HH.out.2.2.1; omega) (fun h => by have := HX.out.2.1 _ h; have := HH.out.2.2.1; omega)))
        have hfx := write_facts M o.n Ly
        have hnx := nextOk hpp.both.ok hpp.steps HH.out.2.2.2 hfx.1 hfx.2.1 (Nat.le_trans hfx.2.2 hpp.both.ok.left)
        refine bodyPost_ret (resPlay hF _ rfl) rfl ?_
        refine ⟨p, bs, bw, (M.writeM o.n Ly), _, rfl, ⟨⟨hDf, hRf, hnx.1⟩, hpp.p, hpp.bs, hpp.bw, hnx.2, by rw [hfx.1]; exact hpp.pos⟩, hfx.1, hbF, HFR.out.more F2 (fun s hs => .inr ((List.mem_cons.1 hs).elim (fun h => by omega) (fun h => by have := HX.out.2.1 _ h; have := HN.out.2.2.1.size; omega)))⟩
end Go.Proofs.Ytdiafgjlbbkhkaa
