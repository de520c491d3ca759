/- The document's Apply, Then. -/
import Derived.Test.YtpfkkmfhafejfaaTupO
namespace Go.Proofs.Ytpfkkmfhafejfaa
open Go.RowKit Go.Maps

set_option maxRecDepth 100000 in
set_option maxHeartbeats 2000000 in
theorem rapply_a1 (s a d : LV) (w : World) (hs : s.Ok w) (ha : a.Ok w) (hd : d.Ok w) (r1 : risB (tus s.ts) = false) :
    Calls Try.prog 27 #[.slice s.A s.ts.length s.c, .agg #[.slice a.A a.ts.length a.c, .slice d.A d.ts.length d.c]] w (RaPost w (1, [])) := by
  have hb1 : Below w.heap.size w (w.alloc (.cells #[.slice a.A a.ts.length a.c, .slice d.A d.ts.length d.c] 35)) := (Below.refl _ _).alloc (Nat.le_refl _) _
  have hg1 := heap_alloc_new w (.cells #[.slice a.A a.ts.length a.c, .slice d.A d.ts.length d.c] 35)
  have HG := Lib.hid (And.intro hg1 hb1)
  have HO := Lib.hid (And.intro hs (And.intro ha hd))
  have HR1 := Lib.hid fun W (h : Below w.heap.size w W) => rrises_b s W (hs.below h) false r1
  clear hb1 hg1 hs ha hd r1
  go_enter Try.func27, Try.ntmps27
  go_upto_region 1 with (fail)
  generalize w.alloc (.cells #[.slice a.A a.ts.length a.c, .slice d.A d.ts.length d.c] 35) = W1 at HG ⊢
  have k0 := cell_of_row W1 w.heap.size 0 _ _ _ HG.out.1
  have k1 := cell_of_row W1 w.heap.size 1 _ _ _ HG.out.1
  have HN1 := Lib.hid (HR1.out W1 HG.out.2)
  go_wp2_with (go_at_call 16; (with_reducible refine HN1.out.mono ?_); rintro e w2 ⟨rfl, hb2⟩; have B2 := Lib.hid (HG.out.2.trans (lower hb2 HG.out.2.size)); have G2 := Lib.hid ((hb2.block _ (heap_lt HG.out.1)).trans HG.out.1); have k20 := cell_of_row w2 w.heap.size 0 _ _ _ G2.out; have k21 := cell_of_row w2 w.heap.size 1 _ _ _ G2.out; skip; clear hb2 HN1 k0 k1)
  go_ret2
  exact ra_err B2.out
set_option maxRecDepth 100000 in
set_option maxHeartbeats 2000000 in
theorem rapply_a2 (s a d : LV) (w : World) (hs : s.Ok w) (ha : a.Ok w) (hd : d.Ok w) (r1 : risB (tus s.ts) = true) (r2 : risB (tus a.ts) = false) :
    Calls Try.prog 27 #[.slice s.A s.ts.length s.c, .agg #[.slice a.A a.ts.length a.c, .slice d.A d.ts.length d.c]] w (RaPost w (1, [])) := by
  have hb1 : Below w.heap.size w (w.alloc (.cells #[.slice a.A a.ts.length a.c, .slice d.A d.ts.length d.c] 35)) := (Below.refl _ _).alloc (Nat.le_refl _) _
  have hg1 := heap_alloc_new w (.cells #[.slice a.A a.ts.length a.c, .slice d.A d.ts.length d.c] 35)
  have HG := Lib.hid (And.intro hg1 hb1)
  have HO := Lib.hid (And.intro hs (And.intro ha hd))
  have HR1 := Lib.hid fun W (h : Below w.heap.size w W) => rrises_b s W (hs.below h) true r1
  have HR2 := Lib.hid fun W (h : Below w.heap.size w W) => rrises_b a W (ha.below h) false r2
  clear hb1 hg1 hs ha hd r1 r2
  go_enter Try.func27, Try.ntmps27
  go_upto_region 1 with (fail)
  generalize w.alloc (.cells #[.slice a.A a.ts.length a.c, .slice d.A d.ts.length d.c] 35) = W1 at HG ⊢
  have k0 := cell_of_row W1 w.heap.size 0 _ _ _ HG.out.1
  have k1 := cell_of_row W1 w.heap.size 1 _ _ _ HG.out.1
  have HN1 := Lib.hid (HR1.out W1 HG.out.2)
  go_wp2_with (first
    | (go_at_call 16; (with_reducible refine HN1.out.mono ?_); rintro e w2 ⟨rfl, hb2⟩; have B2 := Lib.hid (HG.out.2.trans (lower hb2 HG.out.2.size)); have G2 := Lib.hid ((hb2.block _ (heap_lt HG.out.1)).trans HG.out.1); have k20 := cell_of_row w2 w.heap.size 0 _ _ _ G2.out; have k21 := cell_of_row w2 w.heap.size 1 _ _ _ G2.out; have HN2 := Lib.hid (HR2.out w2 B2.out); clear hb2 HN1 k0 k1)
    | (go_at_call 16; (with_reducible refine HN2.out.mono ?_); rintro e w3 ⟨rfl, hb3⟩; have B3 := Lib.hid (B2.out.trans (lower hb3 B2.out.size)); have G3 := Lib.hid ((hb3.block _ (heap_lt G2.out)).trans G2.out); have k30 := cell_of_row w3 w.heap.size 0 _ _ _ G3.out; have k31 := cell_of_row w3 w.heap.size 1 _ _ _ G3.out; skip; clear hb3 HN2 k20 k21))
  go_ret2
  exact ra_err B3.out
set_option maxRecDepth 100000 in
set_option maxHeartbeats 2000000 in
theorem rapply_a3 (s a d : LV) (w : World) (hs : s.Ok w) (ha : a.Ok w) (hd : d.Ok w) (r1 : risB (tus s.ts) = true) (r2 : risB (tus a.ts) = true) (r3 : risB (tus d.ts) = false) :
    Calls Try.prog 27 #[.slice s.A s.ts.length s.c, .agg #[.slice a.A a.ts.length a.c, .slice d.A d.ts.length d.c]] w (RaPost w (1, [])) := by
  have hb1 : Below w.heap.size w (w.alloc (.cells #[.slice a.A a.ts.length a.c, .slice d.A d.ts.length d.c] 35)) := (Below.refl _ _).alloc (Nat.le_refl _) _
  have hg1 := heap_alloc_new w (.cells #[.slice a.A a.ts.length a.c, .slice d.A d.ts.length d.c] 35)
  have HG := Lib.hid (And.intro hg1 hb1)
  have HO := Lib.hid (And.intro hs (And.intro ha hd))
  have HR1 := Lib.hid fun W (h : Below w.heap.size w W) => rrises_b s W (hs.below h) true r1
  have HR2 := Lib.hid fun W (h : Below w.heap.size w W) => rrises_b a W (ha.below h) true r2
  have HR3 := Lib.hid fun W (h : Below w.heap.size w W) => rrises_b d W (hd.below h) false r3
  clear hb1 hg1 hs ha hd r1 r2 r3
  go_enter Try.func27, Try.ntmps27
  go_upto_region 1 with (fail)
  generalize w.alloc (.cells #[.slice a.A a.ts.length a.c, .slice d.A d.ts.length d.c] 35) = W1 at HG ⊢
  have k0 := cell_of_row W1 w.heap.size 0 _ _ _ HG.out.1
  have k1 := cell_of_row W1 w.heap.size 1 _ _ _ HG.out.1
  have HN1 := Lib.hid (HR1.out W1 HG.out.2)
  go_wp2_with (first
    | (go_at_call 16; (with_reducible refine HN1.out.mono ?_); rintro e w2 ⟨rfl, hb2⟩; have B2 := Lib.hid (HG.out.2.trans (lower hb2 HG.out.2.size)); have G2 := Lib.hid ((hb2.block _ (heap_lt HG.out.1)).trans HG.out.1); have k20 := cell_of_row w2 w.heap.size 0 _ _ _ G2.out; have k21 := cell_of_row w2 w.heap.size 1 _ _ _ G2.out; have HN2 := Lib.hid (HR2.out w2 B2.out); clear hb2 HN1 k0 k1)
    | (go_at_call 16; (with_reducible refine HN2.out.mono ?_); rintro e w3 ⟨rfl, hb3⟩; have B3 := Lib.hid (B2.out.trans (lower hb3 B2.out.size)); have G3 := Lib.hid ((hb3.block _ (heap_lt G2.out)).trans G2.out); have k30 := cell_of_row w3 w.heap.size 0 _ _ _ G3.out; have k31 := cell_of_row w3 w.heap.size 1 _ _ _ G3.out; have HN3 := Lib.hid (HR3.out w3 B3.out); clear hb3 HN2 k20 k21)
    | (go_at_call 16; (with_reducible refine HN3.out.mono ?_); rintro e w4 ⟨rfl, hb4⟩; have B4 := Lib.hid (B3.out.trans (lower hb4 B3.out.size)); have G4 := Lib.hid ((hb4.block _ (heap_lt G3.out)).trans G3.out); have k40 := cell_of_row w4 w.heap.size 0 _ _ _ G4.out; have k41 := cell_of_row w4 w.heap.size 1 _ _ _ G4.out; skip; clear hb4 HN3 k30 k31))
  go_ret2
  exact ra_err B4.out
set_option maxRecDepth 100000 in
set_option maxHeartbeats 2000000 in
theorem rapply_b (s a d : LV) (w : World) (hs : s.Ok w) (ha : a.Ok w) (hd : d.Ok w) (r1 : risB (tus s.ts) = true) (r2 : risB (tus a.ts) = true) (r3 : risB (tus d.ts) = true) (hm : meetL (tus a.ts) (tus s.ts) = true) :
    Calls Try.prog 27 #[.slice s.A s.ts.length s.c, .agg #[.slice a.A a.ts.length a.c, .slice d.A d.ts.length d.c]] w (RaPost w (2, [])) := by
  have hb1 : Below w.heap.size w (w.alloc (.cells #[.slice a.A a.ts.length a.c, .slice d.A d.ts.length d.c] 35)) := (Below.refl _ _).alloc (Nat.le_refl _) _
  have hg1 := heap_alloc_new w (.cells #[.slice a.A a.ts.length a.c, .slice d.A d.ts.length d.c] 35)
  have HG := Lib.hid (And.intro hg1 hb1)
  have HO := Lib.hid (And.intro hs (And.intro ha hd))
  have HR1 := Lib.hid fun W (h : Below w.heap.size w W) => rrises_b s W (hs.below h) true r1
  have HR2 := Lib.hid fun W (h : Below w.heap.size w W) => rrises_b a W (ha.below h) true r2
  have HR3 := Lib.hid fun W (h : Below w.heap.size w W) => rrises_b d W (hd.below h) true r3
  have HR4 := Lib.hid fun W (h : Below w.heap.size w W) => rmeet_any a s W (ha.below h) (hs.below h)
  rw [hm] at HR4
  clear hb1 hg1 hs ha hd r1 r2 r3 hm
  go_enter Try.func27, Try.ntmps27
  go_upto_region 1 with (fail)
  generalize w.alloc (.cells #[.slice a.A a.ts.length a.c, .slice d.A d.ts.length d.c] 35) = W1 at HG ⊢
  have k0 := cell_of_row W1 w.heap.size 0 _ _ _ HG.out.1
  have k1 := cell_of_row W1 w.heap.size 1 _ _ _ HG.out.1
  have HN1 := Lib.hid (HR1.out W1 HG.out.2)
  go_wp2_with (first
    | (go_at_call 16; (with_reducible refine HN1.out.mono ?_); rintro e w2 ⟨rfl, hb2⟩; have B2 := Lib.hid (HG.out.2.trans (lower hb2 HG.out.2.size)); have G2 := Lib.hid ((hb2.block _ (heap_lt HG.out.1)).trans HG.out.1); have k20 := cell_of_row w2 w.heap.size 0 _ _ _ G2.out; have k21 := cell_of_row w2 w.heap.size 1 _ _ _ G2.out; have HN2 := Lib.hid (HR2.out w2 B2.out); clear hb2 HN1 k0 k1)
    | (go_at_call 16; (with_reducible refine HN2.out.mono ?_); rintro e w3 ⟨rfl, hb3⟩; have B3 := Lib.hid (B2.out.trans (lower hb3 B2.out.size)); have G3 := Lib.hid ((hb3.block _ (heap_lt G2.out)).trans G2.out); have k30 := cell_of_row w3 w.heap.size 0 _ _ _ G3.out; have k31 := cell_of_row w3 w.heap.size 1 _ _ _ G3.out; have HN3 := Lib.hid (HR3.out w3 B3.out); clear hb3 HN2 k20 k21)
    | (go_at_call 16; (with_reducible refine HN3.out.mono ?_); rintro e w4 ⟨rfl, hb4⟩; have B4 := Lib.hid (B3.out.trans (lower hb4 B3.out.size)); have G4 := Lib.hid ((hb4.block _ (heap_lt G3.out)).trans G3.out); have k40 := cell_of_row w4 w.heap.size 0 _ _ _ G4.out; have k41 := cell_of_row w4 w.heap.size 1 _ _ _ G4.out; have HN4 := Lib.hid (HR4.out w4 B4.out); clear hb4 HN3 k30 k31)
    | (go_at_call 43; (with_reducible refine HN4.out.mono ?_); rintro e w5 ⟨rfl, hb5⟩; have B5 := Lib.hid (B4.out.trans (lower hb5 B4.out.size)); have G5 := Lib.hid ((hb5.block _ (heap_lt G4.out)).trans G4.out); have k50 := cell_of_row w5 w.heap.size 0 _ _ _ G5.out; have k51 := cell_of_row w5 w.heap.size 1 _ _ _ G5.out; skip; clear hb5 HN4 k40 k41))
  go_ret2
  exact ra_err B5.out
set_option maxRecDepth 100000 in
set_option maxHeartbeats 2000000 in
theorem rapply_c (s a d : LV) (w : World) (hs : s.Ok w) (ha : a.Ok w) (hd : d.Ok w) (r1 : risB (tus s.ts) = true) (r2 : risB (tus a.ts) = true) (r3 : risB (tus d.ts) = true) (hm : meetL (tus a.ts) (tus s.ts) = false) (hl : 0 < (woL (tus d.ts) (tus s.ts)).length) :
    Calls Try.prog 27 #[.slice s.A s.ts.length s.c, .agg #[.slice a.A a.ts.length a.c, .slice d.A d.ts.length d.c]] w (RaPost w (4, [])) := by
  have hb1 : Below w.heap.size w (w.alloc (.cells #[.slice a.A a.ts.length a.c, .slice d.A d.ts.length d.c] 35)) := (Below.refl _ _).alloc (Nat.le_refl _) _
  have hg1 := heap_alloc_new w (.cells #[.slice a.A a.ts.length a.c, .slice d.A d.ts.length d.c] 35)
  have HG := Lib.hid (And.intro hg1 hb1)
  have HO := Lib.hid (And.intro hs (And.intro ha hd))
  have HR1 := Lib.hid fun W (h : Below w.heap.size w W) => rrises_b s W (hs.below h) true r1
  have HR2 := Lib.hid fun W (h : Below w.heap.size w W) => rrises_b a W (ha.below h) true r2
  have HR3 := Lib.hid fun W (h : Below w.heap.size w W) => rrises_b d W (hd.below h) true r3
  have HR4 := Lib.hid fun W (h : Below w.heap.size w W) => rmeet_any a s W (ha.below h) (hs.below h)
  rw [hm] at HR4
  have HR5 := Lib.hid fun W (h : Below w.heap.size w W) => rwithout_l d s W (hd.below h) (hs.below h)
  have HL := Lib.hid hl
  clear hb1 hg1 hs ha hd r1 r2 r3 hm hl
  go_enter Try.func27, Try.ntmps27
  go_upto_region 1 with (fail)
  generalize w.alloc (.cells #[.slice a.A a.ts.length a.c, .slice d.A d.ts.length d.c] 35) = W1 at HG ⊢
  have k0 := cell_of_row W1 w.heap.size 0 _ _ _ HG.out.1
  have k1 := cell_of_row W1 w.heap.size 1 _ _ _ HG.out.1
  have HN1 := Lib.hid (HR1.out W1 HG.out.2)
  go_wp2_with (first
    | (go_at_call 16; (with_reducible refine HN1.out.mono ?_); rintro e w2 ⟨rfl, hb2⟩; have B2 := Lib.hid (HG.out.2.trans (lower hb2 HG.out.2.size)); have G2 := Lib.hid ((hb2.block _ (heap_lt HG.out.1)).trans HG.out.1); have k20 := cell_of_row w2 w.heap.size 0 _ _ _ G2.out; have k21 := cell_of_row w2 w.heap.size 1 _ _ _ G2.out; have HN2 := Lib.hid (HR2.out w2 B2.out); clear hb2 HN1 k0 k1)
    | (go_at_call 16; (with_reducible refine HN2.out.mono ?_); rintro e w3 ⟨rfl, hb3⟩; have B3 := Lib.hid (B2.out.trans (lower hb3 B2.out.size)); have G3 := Lib.hid ((hb3.block _ (heap_lt G2.out)).trans G2.out); have k30 := cell_of_row w3 w.heap.size 0 _ _ _ G3.out; have k31 := cell_of_row w3 w.heap.size 1 _ _ _ G3.out; have HN3 := Lib.hid (HR3.out w3 B3.out); clear hb3 HN2 k20 k21)
    | (go_at_call 16; (with_reducible refine HN3.out.mono ?_); rintro e w4 ⟨rfl, hb4⟩; have B4 := Lib.hid (B3.out.trans (lower hb4 B3.out.size)); have G4 := Lib.hid ((hb4.block _ (heap_lt G3.out)).trans G3.out); have k40 := cell_of_row w4 w.heap.size 0 _ _ _ G4.out; have k41 := cell_of_row w4 w.heap.size 1 _ _ _ G4.out; have HN4 := Lib.hid (HR4.out w4 B4.out); clear hb4 HN3 k30 k31)
    | (go_at_call 43; (with_reducible refine HN4.out.mono ?_); rintro e w5 ⟨rfl, hb5⟩; have B5 := Lib.hid (B4.out.trans (lower hb5 B4.out.size)); have G5 := Lib.hid ((hb5.block _ (heap_lt G4.out)).trans G4.out); have k50 := cell_of_row w5 w.heap.size 0 _ _ _ G5.out; have k51 := cell_of_row w5 w.heap.size 1 _ _ _ G5.out; have HN5 := Lib.hid (HR5.out w5 B5.out); clear hb5 HN4 k40 k41)
    | (go_at_call 40; (with_reducible refine HN5.out.mono ?_); rintro e w6 ⟨x6, rfl, o6, e6, hb6⟩; obtain ⟨n6, hn6⟩ : ∃ n, n = x6.ts.length := ⟨_, rfl⟩; rw [← hn6]; have B6 := Lib.hid (B5.out.trans (lower hb6 B5.out.size)); have G6 := Lib.hid ((hb6.block _ (heap_lt G5.out)).trans G5.out); have hlen := congrArg List.length e6; rw [tus_len, ← hn6] at hlen; have hpos : (0 : Int) < (n6 : Int) := (by have := HL.out; omega); clear hn6 hlen; clear hb6 HN5 k50 k51 e6 o6))
  go_ret2
  exact ra_err B6.out
set_option maxRecDepth 100000 in
set_option maxHeartbeats 2000000 in
theorem rapply_d (s a d : LV) (w : World) (hs : s.Ok w) (ha : a.Ok w) (hd : d.Ok w) (r1 : risB (tus s.ts) = true) (r2 : risB (tus a.ts) = true) (r3 : risB (tus d.ts) = true) (hm : meetL (tus a.ts) (tus s.ts) = false) (hl : (woL (tus d.ts) (tus s.ts)).length = 0) (hz : s.ts.length + a.ts.length ≤ 1000) :
    Calls Try.prog 27 #[.slice s.A s.ts.length s.c, .agg #[.slice a.A a.ts.length a.c, .slice d.A d.ts.length d.c]] w (RaPost w (0, setL (woL (tus s.ts) (tus d.ts) ++ tus a.ts))) := by
  have hb1 : Below w.heap.size w (w.alloc (.cells #[.slice a.A a.ts.length a.c, .slice d.A d.ts.length d.c] 35)) := (Below.refl _ _).alloc (Nat.le_refl _) _
  have hg1 := heap_alloc_new w (.cells #[.slice a.A a.ts.length a.c, .slice d.A d.ts.length d.c] 35)
  have HG := Lib.hid (And.intro hg1 hb1)
  have HO := Lib.hid (And.intro hs (And.intro ha hd))
  have HR1 := Lib.hid fun W (h : Below w.heap.size w W) => rrises_b s W (hs.below h) true r1
  have HR2 := Lib.hid fun W (h : Below w.heap.size w W) => rrises_b a W (ha.below h) true r2
  have HR3 := Lib.hid fun W (h : Below w.heap.size w W) => rrises_b d W (hd.below h) true r3
  have HR4 := Lib.hid fun W (h : Below w.heap.size w W) => rmeet_any a s W (ha.below h) (hs.below h)
  rw [hm] at HR4
  have HR5 := Lib.hid fun W (h : Below w.heap.size w W) => rwithout_l d s W (hd.below h) (hs.below h)
  have HR6 := Lib.hid fun W (h : Below w.heap.size w W) => rwithout_l s d W (hs.below h) (hd.below h)
  have HJO := Lib.hid fun (x : LV) W (h : Below w.heap.size w W) (hx : x.Ok W) (e : tus x.ts = woL (tus s.ts) (tus d.ts)) => rboth_l x a W hx (ha.below h) (by have e1 := congrArg List.length e; have e2 := wo_len (tus s.ts) (tus d.ts); rw [tus_len] at e1 e2; omega)
  have HL := Lib.hid hl
  clear hb1 hg1 hs ha hd r1 r2 r3 hm hl hz
  go_enter Try.func27, Try.ntmps27
  go_upto_region 1 with (fail)
  generalize w.alloc (.cells #[.slice a.A a.ts.length a.c, .slice d.A d.ts.length d.c] 35) = W1 at HG ⊢
  have k0 := cell_of_row W1 w.heap.size 0 _ _ _ HG.out.1
  have k1 := cell_of_row W1 w.heap.size 1 _ _ _ HG.out.1
  have HN1 := Lib.hid (HR1.out W1 HG.out.2)
  go_wp2_with (first
    | (go_at_call 16; (with_reducible refine HN1.out.mono ?_); rintro e w2 ⟨rfl, hb2⟩; have B2 := Lib.hid (HG.out.2.trans (lower hb2 HG.out.2.size)); have G2 := Lib.hid ((hb2.block _ (heap_lt HG.out.1)).trans HG.out.1); have k20 := cell_of_row w2 w.heap.size 0 _ _ _ G2.out; have k21 := cell_of_row w2 w.heap.size 1 _ _ _ G2.out; have HN2 := Lib.hid (HR2.out w2 B2.out); clear hb2 HN1 k0 k1)
    | (go_at_call 16; (with_reducible refine HN2.out.mono ?_); rintro e w3 ⟨rfl, hb3⟩; have B3 := Lib.hid (B2.out.trans (lower hb3 B2.out.size)); have G3 := Lib.hid ((hb3.block _ (heap_lt G2.out)).trans G2.out); have k30 := cell_of_row w3 w.heap.size 0 _ _ _ G3.out; have k31 := cell_of_row w3 w.heap.size 1 _ _ _ G3.out; have HN3 := Lib.hid (HR3.out w3 B3.out); clear hb3 HN2 k20 k21)
    | (go_at_call 16; (with_reducible refine HN3.out.mono ?_); rintro e w4 ⟨rfl, hb4⟩; have B4 := Lib.hid (B3.out.trans (lower hb4 B3.out.size)); have G4 := Lib.hid ((hb4.block _ (heap_lt G3.out)).trans G3.out); have k40 := cell_of_row w4 w.heap.size 0 _ _ _ G4.out; have k41 := cell_of_row w4 w.heap.size 1 _ _ _ G4.out; have HN4 := Lib.hid (HR4.out w4 B4.out); clear hb4 HN3 k30 k31)
    | (go_at_call 43; (with_reducible refine HN4.out.mono ?_); rintro e w5 ⟨rfl, hb5⟩; have B5 := Lib.hid (B4.out.trans (lower hb5 B4.out.size)); have G5 := Lib.hid ((hb5.block _ (heap_lt G4.out)).trans G4.out); have k50 := cell_of_row w5 w.heap.size 0 _ _ _ G5.out; have k51 := cell_of_row w5 w.heap.size 1 _ _ _ G5.out; have HN5 := Lib.hid (HR5.out w5 B5.out); clear hb5 HN4 k40 k41)
    | (go_at_call 40; (with_reducible refine HN5.out.mono ?_); rintro e w6 ⟨x6, rfl, o6, e6, hb6⟩; obtain ⟨n6, hn6⟩ : ∃ n, n = x6.ts.length := ⟨_, rfl⟩; rw [← hn6]; have B6 := Lib.hid (B5.out.trans (lower hb6 B5.out.size)); have G6 := Lib.hid ((hb6.block _ (heap_lt G5.out)).trans G5.out); have hlen := congrArg List.length e6; rw [tus_len, ← hn6] at hlen; have hz6 : n6 = 0 := hlen.trans HL.out; subst hz6; clear hn6 hlen; have KS := Lib.hid fun W (h : Below w6.heap.size w6 W) => And.intro (cell_of_row W w.heap.size 0 _ _ _ ((h.block _ (heap_lt G6.out)).trans G6.out)) (cell_of_row W w.heap.size 1 _ _ _ ((h.block _ (heap_lt G6.out)).trans G6.out)); have HX := Lib.hid (HR6.out w6.drew B6.out.drew); clear hb6 HN5 k50 k51 e6 o6))
  have k6 := KS.out w6.drew (Below.refl _ _).drew
  go_region_held3 (fun W => W.cell? ⟨w.heap.size, 0, none⟩ = some (.slice a.A a.ts.length a.c) ∧ W.cell? ⟨w.heap.size, 1, none⟩ = some (.slice d.A d.ts.length d.c))
    (first | with_reducible assumption | exact KS.out _ D8.out | exact KS.out _ D7.out | exact KS.out _ (Below.refl _ _).drew)
    (first
      | (go_at_call 40; (with_reducible refine HX.out.mono ?_); rintro e w7 ⟨x7, rfl, o7, e7, b7⟩; have D7 := Lib.hid ((Below.refl _ w6).drew.trans (b7 : Below w6.heap.size _ _)); have E7 := Lib.hid e7; have HJ := Lib.hid (HJO.out x7 w7 (B6.out.trans (lower D7.out B6.out.size)) o7 e7); clear o7 e7 b7 HX)
      | (go_at_call 44; (with_reducible refine HJ.out.mono ?_); rintro e w8 ⟨x8, rfl, o8, e8, b8⟩; have D8 := Lib.hid (D7.out.trans (lower b8 D7.out.size)); have E8 := Lib.hid (And.intro o8 e8); clear o8 e8 b8 HJ))
  all_goals
    go_wp2_with (fail)
    go_ret2
    exact ⟨x8, rfl, E8.out.1, by rw [E8.out.2, E7.out], B6.out.trans (lower D8.out B6.out.size)⟩
theorem rapply_any (s a d : LV) (w : World) (hs : s.Ok w) (ha : a.Ok w) (hd : d.Ok w) (h2 : s.ts.length + a.ts.length ≤ 1000) :
    Calls Try.prog 27 #[.slice s.A s.ts.length s.c, .agg #[.slice a.A a.ts.length a.c, .slice d.A d.ts.length d.c]] w (RaPost w (applyP (tus s.ts) (tus a.ts) (tus d.ts))) := by
  unfold applyP
  cases r1 : risB (tus s.ts) with
  | false => exact rapply_a1 s a d w hs ha hd r1
  | true =>
    cases r2 : risB (tus a.ts) with
    | false => exact rapply_a2 s a d w hs ha hd r1 r2
    | true =>
      cases r3 : risB (tus d.ts) with
      | false => exact rapply_a3 s a d w hs ha hd r1 r2 r3
      | true =>
        rw [if_pos (by simp)]
        cases hm : meetL (tus a.ts) (tus s.ts) with
        | true => rw [if_pos rfl]; exact rapply_b s a d w hs ha hd r1 r2 r3 hm
        | false =>
          rw [if_neg (by simp)]
          by_cases hl : 0 < (woL (tus d.ts) (tus s.ts)).length
          · rw [if_pos hl]; exact rapply_c s a d w hs ha hd r1 r2 r3 hm hl
          · rw [if_neg hl]; exact rapply_d s a d w hs ha hd r1 r2 r3 hm (by omega) h2
set_option maxRecDepth 100000 in
set_option maxHeartbeats 4000000 in
theorem rthen_a1 (a1 a2 b1 b2 : LV) (w : World) (h1 : a1.Ok w) (h2 : a2.Ok w) (h3 : b1.Ok w) (h4 : b2.Ok w) (q1 : risB (tus a1.ts) = false) :
    Calls Try.prog 30 #[.agg #[.slice a1.A a1.ts.length a1.c, .slice a2.A a2.ts.length a2.c], .agg #[.slice b1.A b1.ts.length b1.c, .slice b2.A b2.ts.length b2.c]] w (RdPost w (1, [], [])) := by
  have hb1 : Below w.heap.size w (((w.alloc (.cells #[.slice a1.A a1.ts.length a1.c, .slice a2.A a2.ts.length a2.c] 35)).alloc (.cells #[.slice b1.A b1.ts.length b1.c, .slice b2.A b2.ts.length b2.c] 35)).alloc (.cells #[.slice none 0 0, .slice none 0 0] 35)) := (((Below.refl w.heap.size w).alloc (Nat.le_refl _) _).alloc (by simp) _).alloc (by simp; omega) _
  have hbx := Box3.new w (.slice a1.A a1.ts.length a1.c) (.slice a2.A a2.ts.length a2.c) (.slice b1.A b1.ts.length b1.c) (.slice b2.A b2.ts.length b2.c) (.slice none 0 0) (.slice none 0 0)
  have HG := Lib.hid (And.intro hbx hb1)
  have HO := Lib.hid (And.intro h1 (And.intro h2 (And.intro h3 h4)))
  have HR1 := Lib.hid fun W (h : Below w.heap.size w W) => rrises_b a1 W (h1.below h) false q1
  clear hb1 hbx h1 h2 h3 h4 q1
  go_enter Try.func30, Try.ntmps30
  go_upto_region 1 with (fail)
  generalize ((w.alloc (.cells #[.slice a1.A a1.ts.length a1.c, .slice a2.A a2.ts.length a2.c] 35)).alloc (.cells #[.slice b1.A b1.ts.length b1.c, .slice b2.A b2.ts.length b2.c] 35)).alloc (.cells #[.slice none 0 0, .slice none 0 0] 35) = W1 at HG ⊢
  obtain ⟨k0, k1, k2, k3⟩ := HG.out.1.args
  have HN1 := Lib.hid (HR1.out W1 HG.out.2)
  go_wp2_with (go_at_call 16; (with_reducible refine HN1.out.mono ?_); rintro e w2 ⟨rfl, hb2⟩; have B2 := Lib.hid (HG.out.2.trans (lower hb2 HG.out.2.size)); have G2 := Lib.hid (HG.out.1.kept hb2); obtain ⟨k2_0, k2_1, k2_2, k2_3⟩ := G2.out.args; obtain ⟨r0, r1, r2, r3⟩ := G2.out.res; clear hb2 HN1 k0 k1 k2 k3)
  exact bodyPost_ret (resRThen (set2 G2.out.c _ _) _ rfl) rfl (rd_err (below_set2 B2.out (by omega) _ _))
set_option maxRecDepth 100000 in
set_option maxHeartbeats 4000000 in
theorem rthen_a2 (a1 a2 b1 b2 : LV) (w : World) (h1 : a1.Ok w) (h2 : a2.Ok w) (h3 : b1.Ok w) (h4 : b2.Ok w) (q1 : risB (tus a1.ts) = true) (q2 : risB (tus a2.ts) = false) :
    Calls Try.prog 30 #[.agg #[.slice a1.A a1.ts.length a1.c, .slice a2.A a2.ts.length a2.c], .agg #[.slice b1.A b1.ts.length b1.c, .slice b2.A b2.ts.length b2.c]] w (RdPost w (1, [], [])) := by
  have hb1 : Below w.heap.size w (((w.alloc (.cells #[.slice a1.A a1.ts.length a1.c, .slice a2.A a2.ts.length a2.c] 35)).alloc (.cells #[.slice b1.A b1.ts.length b1.c, .slice b2.A b2.ts.length b2.c] 35)).alloc (.cells #[.slice none 0 0, .slice none 0 0] 35)) := (((Below.refl w.heap.size w).alloc (Nat.le_refl _) _).alloc (by simp) _).alloc (by simp; omega) _
  have hbx := Box3.new w (.slice a1.A a1.ts.length a1.c) (.slice a2.A a2.ts.length a2.c) (.slice b1.A b1.ts.length b1.c) (.slice b2.A b2.ts.length b2.c) (.slice none 0 0) (.slice none 0 0)
  have HG := Lib.hid (And.intro hbx hb1)
  have HO := Lib.hid (And.intro h1 (And.intro h2 (And.intro h3 h4)))
  have HR1 := Lib.hid fun W (h : Below w.heap.size w W) => rrises_b a1 W (h1.below h) true q1
  have HR2 := Lib.hid fun W (h : Below w.heap.size w W) => rrises_b a2 W (h2.below h) false q2
  clear hb1 hbx h1 h2 h3 h4 q1 q2
  go_enter Try.func30, Try.ntmps30
  go_upto_region 1 with (fail)
  generalize ((w.alloc (.cells #[.slice a1.A a1.ts.length a1.c, .slice a2.A a2.ts.length a2.c] 35)).alloc (.cells #[.slice b1.A b1.ts.length b1.c, .slice b2.A b2.ts.length b2.c] 35)).alloc (.cells #[.slice none 0 0, .slice none 0 0] 35) = W1 at HG ⊢
  obtain ⟨k0, k1, k2, k3⟩ := HG.out.1.args
  have HN1 := Lib.hid (HR1.out W1 HG.out.2)
  go_wp2_with (first
    | (go_at_call 16; (with_reducible refine HN1.out.mono ?_); rintro e w2 ⟨rfl, hb2⟩; have B2 := Lib.hid (HG.out.2.trans (lower hb2 HG.out.2.size)); have G2 := Lib.hid (HG.out.1.kept hb2); obtain ⟨k2_0, k2_1, k2_2, k2_3⟩ := G2.out.args; have HN2 := Lib.hid (HR2.out w2 B2.out); clear hb2 HN1 k0 k1 k2 k3)
    | (go_at_call 16; (with_reducible refine HN2.out.mono ?_); rintro e w3 ⟨rfl, hb3⟩; have B3 := Lib.hid (B2.out.trans (lower hb3 B2.out.size)); have G3 := Lib.hid (G2.out.kept hb3); obtain ⟨k3_0, k3_1, k3_2, k3_3⟩ := G3.out.args; obtain ⟨r0, r1, r2, r3⟩ := G3.out.res; clear hb3 HN2 k2_0 k2_1 k2_2 k2_3))
  exact bodyPost_ret (resRThen (set2 G3.out.c _ _) _ rfl) rfl (rd_err (below_set2 B3.out (by omega) _ _))
set_option maxRecDepth 100000 in
set_option maxHeartbeats 4000000 in
theorem rthen_a3 (a1 a2 b1 b2 : LV) (w : World) (h1 : a1.Ok w) (h2 : a2.Ok w) (h3 : b1.Ok w) (h4 : b2.Ok w) (q1 : risB (tus a1.ts) = true) (q2 : risB (tus a2.ts) = true) (q3 : risB (tus b1.ts) = false) :
    Calls Try.prog 30 #[.agg #[.slice a1.A a1.ts.length a1.c, .slice a2.A a2.ts.length a2.c], .agg #[.slice b1.A b1.ts.length b1.c, .slice b2.A b2.ts.length b2.c]] w (RdPost w (1, [], [])) := by
  have hb1 : Below w.heap.size w (((w.alloc (.cells #[.slice a1.A a1.ts.length a1.c, .slice a2.A a2.ts.length a2.c] 35)).alloc (.cells #[.slice b1.A b1.ts.length b1.c, .slice b2.A b2.ts.length b2.c] 35)).alloc (.cells #[.slice none 0 0, .slice none 0 0] 35)) := (((Below.refl w.heap.size w).alloc (Nat.le_refl _) _).alloc (by simp) _).alloc (by simp; omega) _
  have hbx := Box3.new w (.slice a1.A a1.ts.length a1.c) (.slice a2.A a2.ts.length a2.c) (.slice b1.A b1.ts.length b1.c) (.slice b2.A b2.ts.length b2.c) (.slice none 0 0) (.slice none 0 0)
  have HG := Lib.hid (And.intro hbx hb1)
  have HO := Lib.hid (And.intro h1 (And.intro h2 (And.intro h3 h4)))
  have HR1 := Lib.hid fun W (h : Below w.heap.size w W) => rrises_b a1 W (h1.below h) true q1
  have HR2 := Lib.hid fun W (h : Below w.heap.size w W) => rrises_b a2 W (h2.below h) true q2
  have HR3 := Lib.hid fun W (h : Below w.heap.size w W) => rrises_b b1 W (h3.below h) false q3
  clear hb1 hbx h1 h2 h3 h4 q1 q2 q3
  go_enter Try.func30, Try.ntmps30
  go_upto_region 1 with (fail)
  generalize ((w.alloc (.cells #[.slice a1.A a1.ts.length a1.c, .slice a2.A a2.ts.length a2.c] 35)).alloc (.cells #[.slice b1.A b1.ts.length b1.c, .slice b2.A b2.ts.length b2.c] 35)).alloc (.cells #[.slice none 0 0, .slice none 0 0] 35) = W1 at HG ⊢
  obtain ⟨k0, k1, k2, k3⟩ := HG.out.1.args
  have HN1 := Lib.hid (HR1.out W1 HG.out.2)
  go_wp2_with (first
    | (go_at_call 16; (with_reducible refine HN1.out.mono ?_); rintro e w2 ⟨rfl, hb2⟩; have B2 := Lib.hid (HG.out.2.trans (lower hb2 HG.out.2.size)); have G2 := Lib.hid (HG.out.1.kept hb2); obtain ⟨k2_0, k2_1, k2_2, k2_3⟩ := G2.out.args; have HN2 := Lib.hid (HR2.out w2 B2.out); clear hb2 HN1 k0 k1 k2 k3)
    | (go_at_call 16; (with_reducible refine HN2.out.mono ?_); rintro e w3 ⟨rfl, hb3⟩; have B3 := Lib.hid (B2.out.trans (lower hb3 B2.out.size)); have G3 := Lib.hid (G2.out.kept hb3); obtain ⟨k3_0, k3_1, k3_2, k3_3⟩ := G3.out.args; have HN3 := Lib.hid (HR3.out w3 B3.out); clear hb3 HN2 k2_0 k2_1 k2_2 k2_3)
    | (go_at_call 16; (with_reducible refine HN3.out.mono ?_); rintro e w4 ⟨rfl, hb4⟩; have B4 := Lib.hid (B3.out.trans (lower hb4 B3.out.size)); have G4 := Lib.hid (G3.out.kept hb4); obtain ⟨k4_0, k4_1, k4_2, k4_3⟩ := G4.out.args; obtain ⟨r0, r1, r2, r3⟩ := G4.out.res; clear hb4 HN3 k3_0 k3_1 k3_2 k3_3))
  exact bodyPost_ret (resRThen (set2 G4.out.c _ _) _ rfl) rfl (rd_err (below_set2 B4.out (by omega) _ _))
set_option maxRecDepth 100000 in
set_option maxHeartbeats 4000000 in
theorem rthen_a4 (a1 a2 b1 b2 : LV) (w : World) (h1 : a1.Ok w) (h2 : a2.Ok w) (h3 : b1.Ok w) (h4 : b2.Ok w) (q1 : risB (tus a1.ts) = true) (q2 : risB (tus a2.ts) = true) (q3 : risB (tus b1.ts) = true) (q4 : risB (tus b2.ts) = false) :
    Calls Try.prog 30 #[.agg #[.slice a1.A a1.ts.length a1.c, .slice a2.A a2.ts.length a2.c], .agg #[.slice b1.A b1.ts.length b1.c, .slice b2.A b2.ts.length b2.c]] w (RdPost w (1, [], [])) := by
  have hb1 : Below w.heap.size w (((w.alloc (.cells #[.slice a1.A a1.ts.length a1.c, .slice a2.A a2.ts.length a2.c] 35)).alloc (.cells #[.slice b1.A b1.ts.length b1.c, .slice b2.A b2.ts.length b2.c] 35)).alloc (.cells #[.slice none 0 0, .slice none 0 0] 35)) := (((Below.refl w.heap.size w).alloc (Nat.le_refl _) _).alloc (by simp) _).alloc (by simp; omega) _
  have hbx := Box3.new w (.slice a1.A a1.ts.length a1.c) (.slice a2.A a2.ts.length a2.c) (.slice b1.A b1.ts.length b1.c) (.slice b2.A b2.ts.length b2.c) (.slice none 0 0) (.slice none 0 0)
  have HG := Lib.hid (And.intro hbx hb1)
  have HO := Lib.hid (And.intro h1 (And.intro h2 (And.intro h3 h4)))
  have HR1 := Lib.hid fun W (h : Below w.heap.size w W) => rrises_b a1 W (h1.below h) true q1
  have HR2 := Lib.hid fun W (h : Below w.heap.size w W) => rrises_b a2 W (h2.below h) true q2
  have HR3 := Lib.hid fun W (h : Below w.heap.size w W) => rrises_b b1 W (h3.below h) true q3
  have HR4 := Lib.hid fun W (h : Below w.heap.size w W) => rrises_b b2 W (h4.below h) false q4
  clear hb1 hbx h1 h2 h3 h4 q1 q2 q3 q4
  go_enter Try.func30, Try.ntmps30
  go_upto_region 1 with (fail)
  generalize ((w.alloc (.cells #[.slice a1.A a1.ts.length a1.c, .slice a2.A a2.ts.length a2.c] 35)).alloc (.cells #[.slice b1.A b1.ts.length b1.c, .slice b2.A b2.ts.length b2.c] 35)).alloc (.cells #[.slice none 0 0, .slice none 0 0] 35) = W1 at HG ⊢
  obtain ⟨k0, k1, k2, k3⟩ := HG.out.1.args
  have HN1 := Lib.hid (HR1.out W1 HG.out.2)
  go_wp2_with (first
    | (go_at_call 16; (with_reducible refine HN1.out.mono ?_); rintro e w2 ⟨rfl, hb2⟩; have B2 := Lib.hid (HG.out.2.trans (lower hb2 HG.out.2.size)); have G2 := Lib.hid (HG.out.1.kept hb2); obtain ⟨k2_0, k2_1, k2_2, k2_3⟩ := G2.out.args; have HN2 := Lib.hid (HR2.out w2 B2.out); clear hb2 HN1 k0 k1 k2 k3)
    | (go_at_call 16; (with_reducible refine HN2.out.mono ?_); rintro e w3 ⟨rfl, hb3⟩; have B3 := Lib.hid (B2.out.trans (lower hb3 B2.out.size)); have G3 := Lib.hid (G2.out.kept hb3); obtain ⟨k3_0, k3_1, k3_2, k3_3⟩ := G3.out.args; have HN3 := Lib.hid (HR3.out w3 B3.out); clear hb3 HN2 k2_0 k2_1 k2_2 k2_3)
    | (go_at_call 16; (with_reducible refine HN3.out.mono ?_); rintro e w4 ⟨rfl, hb4⟩; have B4 := Lib.hid (B3.out.trans (lower hb4 B3.out.size)); have G4 := Lib.hid (G3.out.kept hb4); obtain ⟨k4_0, k4_1, k4_2, k4_3⟩ := G4.out.args; have HN4 := Lib.hid (HR4.out w4 B4.out); clear hb4 HN3 k3_0 k3_1 k3_2 k3_3)
    | (go_at_call 16; (with_reducible refine HN4.out.mono ?_); rintro e w5 ⟨rfl, hb5⟩; have B5 := Lib.hid (B4.out.trans (lower hb5 B4.out.size)); have G5 := Lib.hid (G4.out.kept hb5); obtain ⟨k5_0, k5_1, k5_2, k5_3⟩ := G5.out.args; obtain ⟨r0, r1, r2, r3⟩ := G5.out.res; clear hb5 HN4 k4_0 k4_1 k4_2 k4_3))
  exact bodyPost_ret (resRThen (set2 G5.out.c _ _) _ rfl) rfl (rd_err (below_set2 B5.out (by omega) _ _))
set_option maxRecDepth 100000 in
set_option maxHeartbeats 4000000 in
theorem rthen_b1 (a1 a2 b1 b2 : LV) (w : World) (h1 : a1.Ok w) (h2 : a2.Ok w) (h3 : b1.Ok w) (h4 : b2.Ok w) (q1 : risB (tus a1.ts) = true) (q2 : risB (tus a2.ts) = true) (q3 : risB (tus b1.ts) = true) (q4 : risB (tus b2.ts) = true) (m1 : meetL (tus a1.ts) (tus b1.ts) = true) :
    Calls Try.prog 30 #[.agg #[.slice a1.A a1.ts.length a1.c, .slice a2.A a2.ts.length a2.c], .agg #[.slice b1.A b1.ts.length b1.c, .slice b2.A b2.ts.length b2.c]] w (RdPost w (2, [], [])) := by
  have hb1 : Below w.heap.size w (((w.alloc (.cells #[.slice a1.A a1.ts.length a1.c, .slice a2.A a2.ts.length a2.c] 35)).alloc (.cells #[.slice b1.A b1.ts.length b1.c, .slice b2.A b2.ts.length b2.c] 35)).alloc (.cells #[.slice none 0 0, .slice none 0 0] 35)) := (((Below.refl w.heap.size w).alloc (Nat.le_refl _) _).alloc (by simp) _).alloc (by simp; omega) _
  have hbx := Box3.new w (.slice a1.A a1.ts.length a1.c) (.slice a2.A a2.ts.length a2.c) (.slice b1.A b1.ts.length b1.c) (.slice b2.A b2.ts.length b2.c) (.slice none 0 0) (.slice none 0 0)
  have HG := Lib.hid (And.intro hbx hb1)
  have HO := Lib.hid (And.intro h1 (And.intro h2 (And.intro h3 h4)))
  have HR1 := Lib.hid fun W (h : Below w.heap.size w W) => rrises_b a1 W (h1.below h) true q1
  have HR2 := Lib.hid fun W (h : Below w.heap.size w W) => rrises_b a2 W (h2.below h) true q2
  have HR3 := Lib.hid fun W (h : Below w.heap.size w W) => rrises_b b1 W (h3.below h) true q3
  have HR4 := Lib.hid fun W (h : Below w.heap.size w W) => rrises_b b2 W (h4.below h) true q4
  have HR5 := Lib.hid fun W (h : Below w.heap.size w W) => rmeet_any a1 b1 W (h1.below h) (h3.below h)
  rw [m1] at HR5
  clear hb1 hbx h1 h2 h3 h4 q1 q2 q3 q4 m1
  go_enter Try.func30, Try.ntmps30
  go_upto_region 1 with (fail)
  generalize ((w.alloc (.cells #[.slice a1.A a1.ts.length a1.c, .slice a2.A a2.ts.length a2.c] 35)).alloc (.cells #[.slice b1.A b1.ts.length b1.c, .slice b2.A b2.ts.length b2.c] 35)).alloc (.cells #[.slice none 0 0, .slice none 0 0] 35) = W1 at HG ⊢
  obtain ⟨k0, k1, k2, k3⟩ := HG.out.1.args
  have HN1 := Lib.hid (HR1.out W1 HG.out.2)
  go_wp2_with (first
    | (go_at_call 16; (with_reducible refine HN1.out.mono ?_); rintro e w2 ⟨rfl, hb2⟩; have B2 := Lib.hid (HG.out.2.trans (lower hb2 HG.out.2.size)); have G2 := Lib.hid (HG.out.1.kept hb2); obtain ⟨k2_0, k2_1, k2_2, k2_3⟩ := G2.out.args; have HN2 := Lib.hid (HR2.out w2 B2.out); clear hb2 HN1 k0 k1 k2 k3)
    | (go_at_call 16; (with_reducible refine HN2.out.mono ?_); rintro e w3 ⟨rfl, hb3⟩; have B3 := Lib.hid (B2.out.trans (lower hb3 B2.out.size)); have G3 := Lib.hid (G2.out.kept hb3); obtain ⟨k3_0, k3_1, k3_2, k3_3⟩ := G3.out.args; have HN3 := Lib.hid (HR3.out w3 B3.out); clear hb3 HN2 k2_0 k2_1 k2_2 k2_3)
    | (go_at_call 16; (with_reducible refine HN3.out.mono ?_); rintro e w4 ⟨rfl, hb4⟩; have B4 := Lib.hid (B3.out.trans (lower hb4 B3.out.size)); have G4 := Lib.hid (G3.out.kept hb4); obtain ⟨k4_0, k4_1, k4_2, k4_3⟩ := G4.out.args; have HN4 := Lib.hid (HR4.out w4 B4.out); clear hb4 HN3 k3_0 k3_1 k3_2 k3_3)
    | (go_at_call 16; (with_reducible refine HN4.out.mono ?_); rintro e w5 ⟨rfl, hb5⟩; have B5 := Lib.hid (B4.out.trans (lower hb5 B4.out.size)); have G5 := Lib.hid (G4.out.kept hb5); obtain ⟨k5_0, k5_1, k5_2, k5_3⟩ := G5.out.args; have HN5 := Lib.hid (HR5.out w5 B5.out); clear hb5 HN4 k4_0 k4_1 k4_2 k4_3)
    | (go_at_call 43; (with_reducible refine HN5.out.mono ?_); rintro e w6 ⟨rfl, hb6⟩; have B6 := Lib.hid (B5.out.trans (lower hb6 B5.out.size)); have G6 := Lib.hid (G5.out.kept hb6); obtain ⟨k6_0, k6_1, k6_2, k6_3⟩ := G6.out.args; obtain ⟨r0, r1, r2, r3⟩ := G6.out.res; clear hb6 HN5 k5_0 k5_1 k5_2 k5_3))
  exact bodyPost_ret (resRThen (set2 G6.out.c _ _) _ rfl) rfl (rd_err (below_set2 B6.out (by omega) _ _))
set_option maxRecDepth 100000 in
set_option maxHeartbeats 4000000 in
theorem rthen_b2 (a1 a2 b1 b2 : LV) (w : World) (h1 : a1.Ok w) (h2 : a2.Ok w) (h3 : b1.Ok w) (h4 : b2.Ok w) (q1 : risB (tus a1.ts) = true) (q2 : risB (tus a2.ts) = true) (q3 : risB (tus b1.ts) = true) (q4 : risB (tus b2.ts) = true) (m1 : meetL (tus a1.ts) (tus b1.ts) = false) (m2 : meetL (tus a2.ts) (tus b2.ts) = true) :
    Calls Try.prog 30 #[.agg #[.slice a1.A a1.ts.length a1.c, .slice a2.A a2.ts.length a2.c], .agg #[.slice b1.A b1.ts.length b1.c, .slice b2.A b2.ts.length b2.c]] w (RdPost w (2, [], [])) := by
  have hb1 : Below w.heap.size w (((w.alloc (.cells #[.slice a1.A a1.ts.length a1.c, .slice a2.A a2.ts.length a2.c] 35)).alloc (.cells #[.slice b1.A b1.ts.length b1.c, .slice b2.A b2.ts.length b2.c] 35)).alloc (.cells #[.slice none 0 0, .slice none 0 0] 35)) := (((Below.refl w.heap.size w).alloc (Nat.le_refl _) _).alloc (by simp) _).alloc (by simp; omega) _
  have hbx := Box3.new w (.slice a1.A a1.ts.length a1.c) (.slice a2.A a2.ts.length a2.c) (.slice b1.A b1.ts.length b1.c) (.slice b2.A b2.ts.length b2.c) (.slice none 0 0) (.slice none 0 0)
  have HG := Lib.hid (And.intro hbx hb1)
  have HO := Lib.hid (And.intro h1 (And.intro h2 (And.intro h3 h4)))
  have HR1 := Lib.hid fun W (h : Below w.heap.size w W) => rrises_b a1 W (h1.below h) true q1
  have HR2 := Lib.hid fun W (h : Below w.heap.size w W) => rrises_b a2 W (h2.below h) true q2
  have HR3 := Lib.hid fun W (h : Below w.heap.size w W) => rrises_b b1 W (h3.below h) true q3
  have HR4 := Lib.hid fun W (h : Below w.heap.size w W) => rrises_b b2 W (h4.below h) true q4
  have HR5 := Lib.hid fun W (h : Below w.heap.size w W) => rmeet_any a1 b1 W (h1.below h) (h3.below h)
  rw [m1] at HR5
  have HR6 := Lib.hid fun W (h : Below w.heap.size w W) => rmeet_any a2 b2 W (h2.below h) (h4.below h)
  rw [m2] at HR6
  clear hb1 hbx h1 h2 h3 h4 q1 q2 q3 q4 m1 m2
  go_enter Try.func30, Try.ntmps30
  go_upto_region 1 with (fail)
  generalize ((w.alloc (.cells #[.slice a1.A a1.ts.length a1.c, .slice a2.A a2.ts.length a2.c] 35)).alloc (.cells #[.slice b1.A b1.ts.length b1.c, .slice b2.A b2.ts.length b2.c] 35)).alloc (.cells #[.slice none 0 0, .slice none 0 0] 35) = W1 at HG ⊢
  obtain ⟨k0, k1, k2, k3⟩ := HG.out.1.args
  have HN1 := Lib.hid (HR1.out W1 HG.out.2)
  go_wp2_with (first
    | (go_at_call 16; (with_reducible refine HN1.out.mono ?_); rintro e w2 ⟨rfl, hb2⟩; have B2 := Lib.hid (HG.out.2.trans (lower hb2 HG.out.2.size)); have G2 := Lib.hid (HG.out.1.kept hb2); obtain ⟨k2_0, k2_1, k2_2, k2_3⟩ := G2.out.args; have HN2 := Lib.hid (HR2.out w2 B2.out); clear hb2 HN1 k0 k1 k2 k3)
    | (go_at_call 16; (with_reducible refine HN2.out.mono ?_); rintro e w3 ⟨rfl, hb3⟩; have B3 := Lib.hid (B2.out.trans (lower hb3 B2.out.size)); have G3 := Lib.hid (G2.out.kept hb3); obtain ⟨k3_0, k3_1, k3_2, k3_3⟩ := G3.out.args; have HN3 := Lib.hid (HR3.out w3 B3.out); clear hb3 HN2 k2_0 k2_1 k2_2 k2_3)
    | (go_at_call 16; (with_reducible refine HN3.out.mono ?_); rintro e w4 ⟨rfl, hb4⟩; have B4 := Lib.hid (B3.out.trans (lower hb4 B3.out.size)); have G4 := Lib.hid (G3.out.kept hb4); obtain ⟨k4_0, k4_1, k4_2, k4_3⟩ := G4.out.args; have HN4 := Lib.hid (HR4.out w4 B4.out); clear hb4 HN3 k3_0 k3_1 k3_2 k3_3)
    | (go_at_call 16; (with_reducible refine HN4.out.mono ?_); rintro e w5 ⟨rfl, hb5⟩; have B5 := Lib.hid (B4.out.trans (lower hb5 B4.out.size)); have G5 := Lib.hid (G4.out.kept hb5); obtain ⟨k5_0, k5_1, k5_2, k5_3⟩ := G5.out.args; have HN5 := Lib.hid (HR5.out w5 B5.out); clear hb5 HN4 k4_0 k4_1 k4_2 k4_3)
    | (go_at_call 43; (with_reducible refine HN5.out.mono ?_); rintro e w6 ⟨rfl, hb6⟩; have B6 := Lib.hid (B5.out.trans (lower hb6 B5.out.size)); have G6 := Lib.hid (G5.out.kept hb6); obtain ⟨k6_0, k6_1, k6_2, k6_3⟩ := G6.out.args; have HN6 := Lib.hid (HR6.out w6 B6.out); clear hb6 HN5 k5_0 k5_1 k5_2 k5_3)
    | (go_at_call 43; (with_reducible refine HN6.out.mono ?_); rintro e w7 ⟨rfl, hb7⟩; have B7 := Lib.hid (B6.out.trans (lower hb7 B6.out.size)); have G7 := Lib.hid (G6.out.kept hb7); obtain ⟨k7_0, k7_1, k7_2, k7_3⟩ := G7.out.args; obtain ⟨r0, r1, r2, r3⟩ := G7.out.res; clear hb7 HN6 k6_0 k6_1 k6_2 k6_3))
  exact bodyPost_ret (resRThen (set2 G7.out.c _ _) _ rfl) rfl (rd_err (below_set2 B7.out (by omega) _ _))
set_option maxRecDepth 100000 in
set_option maxHeartbeats 4000000 in
theorem rthen_b3 (a1 a2 b1 b2 : LV) (w : World) (h1 : a1.Ok w) (h2 : a2.Ok w) (h3 : b1.Ok w) (h4 : b2.Ok w) (q1 : risB (tus a1.ts) = true) (q2 : risB (tus a2.ts) = true) (q3 : risB (tus b1.ts) = true) (q4 : risB (tus b2.ts) = true) (m1 : meetL (tus a1.ts) (tus b1.ts) = false) (m2 : meetL (tus a2.ts) (tus b2.ts) = false) (m3 : meetL (tus a1.ts) (tus a2.ts) = true) :
    Calls Try.prog 30 #[.agg #[.slice a1.A a1.ts.length a1.c, .slice a2.A a2.ts.length a2.c], .agg #[.slice b1.A b1.ts.length b1.c, .slice b2.A b2.ts.length b2.c]] w (RdPost w (2, [], [])) := by
  have hb1 : Below w.heap.size w (((w.alloc (.cells #[.slice a1.A a1.ts.length a1.c, .slice a2.A a2.ts.length a2.c] 35)).alloc (.cells #[.slice b1.A b1.ts.length b1.c, .slice b2.A b2.ts.length b2.c] 35)).alloc (.cells #[.slice none 0 0, .slice none 0 0] 35)) := (((Below.refl w.heap.size w).alloc (Nat.le_refl _) _).alloc (by simp) _).alloc (by simp; omega) _
  have hbx := Box3.new w (.slice a1.A a1.ts.length a1.c) (.slice a2.A a2.ts.length a2.c) (.slice b1.A b1.ts.length b1.c) (.slice b2.A b2.ts.length b2.c) (.slice none 0 0) (.slice none 0 0)
  have HG := Lib.hid (And.intro hbx hb1)
  have HO := Lib.hid (And.intro h1 (And.intro h2 (And.intro h3 h4)))
  have HR1 := Lib.hid fun W (h : Below w.heap.size w W) => rrises_b a1 W (h1.below h) true q1
  have HR2 := Lib.hid fun W (h : Below w.heap.size w W) => rrises_b a2 W (h2.below h) true q2
  have HR3 := Lib.hid fun W (h : Below w.heap.size w W) => rrises_b b1 W (h3.below h) true q3
  have HR4 := Lib.hid fun W (h : Below w.heap.size w W) => rrises_b b2 W (h4.below h) true q4
  have HR5 := Lib.hid fun W (h : Below w.heap.size w W) => rmeet_any a1 b1 W (h1.below h) (h3.below h)
  rw [m1] at HR5
  have HR6 := Lib.hid fun W (h : Below w.heap.size w W) => rmeet_any a2 b2 W (h2.below h) (h4.below h)
  rw [m2] at HR6
  have HR7 := Lib.hid fun W (h : Below w.heap.size w W) => rmeet_any a1 a2 W (h1.below h) (h2.below h)
  rw [m3] at HR7
  clear hb1 hbx h1 h2 h3 h4 q1 q2 q3 q4 m1 m2 m3
  go_enter Try.func30, Try.ntmps30
  go_upto_region 1 with (fail)
  generalize ((w.alloc (.cells #[.slice a1.A a1.ts.length a1.c, .slice a2.A a2.ts.length a2.c] 35)).alloc (.cells #[.slice b1.A b1.ts.length b1.c, .slice b2.A b2.ts.length b2.c] 35)).alloc (.cells #[.slice none 0 0, .slice none 0 0] 35) = W1 at HG ⊢
  obtain ⟨k0, k1, k2, k3⟩ := HG.out.1.args
  have HN1 := Lib.hid (HR1.out W1 HG.out.2)
  go_wp2_with (first
    | (go_at_call 16; (with_reducible refine HN1.out.mono ?_); rintro e w2 ⟨rfl, hb2⟩; have B2 := Lib.hid (HG.out.2.trans (lower hb2 HG.out.2.size)); have G2 := Lib.hid (HG.out.1.kept hb2); obtain ⟨k2_0, k2_1, k2_2, k2_3⟩ := G2.out.args; have HN2 := Lib.hid (HR2.out w2 B2.out); clear hb2 HN1 k0 k1 k2 k3)
    | (go_at_call 16; (with_reducible refine HN2.out.mono ?_); rintro e w3 ⟨rfl, hb3⟩; have B3 := Lib.hid (B2.out.trans (lower hb3 B2.out.size)); have G3 := Lib.hid (G2.out.kept hb3); obtain ⟨k3_0, k3_1, k3_2, k3_3⟩ := G3.out.args; have HN3 := Lib.hid (HR3.out w3 B3.out); clear hb3 HN2 k2_0 k2_1 k2_2 k2_3)
    | (go_at_call 16; (with_reducible refine HN3.out.mono ?_); rintro e w4 ⟨rfl, hb4⟩; have B4 := Lib.hid (B3.out.trans (lower hb4 B3.out.size)); have G4 := Lib.hid (G3.out.kept hb4); obtain ⟨k4_0, k4_1, k4_2, k4_3⟩ := G4.out.args; have HN4 := Lib.hid (HR4.out w4 B4.out); clear hb4 HN3 k3_0 k3_1 k3_2 k3_3)
    | (go_at_call 16; (with_reducible refine HN4.out.mono ?_); rintro e w5 ⟨rfl, hb5⟩; have B5 := Lib.hid (B4.out.trans (lower hb5 B4.out.size)); have G5 := Lib.hid (G4.out.kept hb5); obtain ⟨k5_0, k5_1, k5_2, k5_3⟩ := G5.out.args; have HN5 := Lib.hid (HR5.out w5 B5.out); clear hb5 HN4 k4_0 k4_1 k4_2 k4_3)
    | (go_at_call 43; (with_reducible refine HN5.out.mono ?_); rintro e w6 ⟨rfl, hb6⟩; have B6 := Lib.hid (B5.out.trans (lower hb6 B5.out.size)); have G6 := Lib.hid (G5.out.kept hb6); obtain ⟨k6_0, k6_1, k6_2, k6_3⟩ := G6.out.args; have HN6 := Lib.hid (HR6.out w6 B6.out); clear hb6 HN5 k5_0 k5_1 k5_2 k5_3)
    | (go_at_call 43; (with_reducible refine HN6.out.mono ?_); rintro e w7 ⟨rfl, hb7⟩; have B7 := Lib.hid (B6.out.trans (lower hb7 B6.out.size)); have G7 := Lib.hid (G6.out.kept hb7); obtain ⟨k7_0, k7_1, k7_2, k7_3⟩ := G7.out.args; have HN7 := Lib.hid (HR7.out w7 B7.out); clear hb7 HN6 k6_0 k6_1 k6_2 k6_3)
    | (go_at_call 43; (with_reducible refine HN7.out.mono ?_); rintro e w8 ⟨rfl, hb8⟩; have B8 := Lib.hid (B7.out.trans (lower hb8 B7.out.size)); have G8 := Lib.hid (G7.out.kept hb8); obtain ⟨k8_0, k8_1, k8_2, k8_3⟩ := G8.out.args; obtain ⟨r0, r1, r2, r3⟩ := G8.out.res; clear hb8 HN7 k7_0 k7_1 k7_2 k7_3))
  exact bodyPost_ret (resRThen (set2 G8.out.c _ _) _ rfl) rfl (rd_err (below_set2 B8.out (by omega) _ _))
set_option maxRecDepth 100000 in
set_option maxHeartbeats 4000000 in
theorem rthen_b4 (a1 a2 b1 b2 : LV) (w : World) (h1 : a1.Ok w) (h2 : a2.Ok w) (h3 : b1.Ok w) (h4 : b2.Ok w) (q1 : risB (tus a1.ts) = true) (q2 : risB (tus a2.ts) = true) (q3 : risB (tus b1.ts) = true) (q4 : risB (tus b2.ts) = true) (m1 : meetL (tus a1.ts) (tus b1.ts) = false) (m2 : meetL (tus a2.ts) (tus b2.ts) = false) (m3 : meetL (tus a1.ts) (tus a2.ts) = false) (m4 : meetL (tus b1.ts) (tus b2.ts) = true) :
    Calls Try.prog 30 #[.agg #[.slice a1.A a1.ts.length a1.c, .slice a2.A a2.ts.length a2.c], .agg #[.slice b1.A b1.ts.length b1.c, .slice b2.A b2.ts.length b2.c]] w (RdPost w (2, [], [])) := by
  have hb1 : Below w.heap.size w (((w.alloc (.cells #[.slice a1.A a1.ts.length a1.c, .slice a2.A a2.ts.length a2.c] 35)).alloc (.cells #[.slice b1.A b1.ts.length b1.c, .slice b2.A b2.ts.length b2.c] 35)).alloc (.cells #[.slice none 0 0, .slice none 0 0] 35)) := (((Below.refl w.heap.size w).alloc (Nat.le_refl _) _).alloc (by simp) _).alloc (by simp; omega) _
  have hbx := Box3.new w (.slice a1.A a1.ts.length a1.c) (.slice a2.A a2.ts.length a2.c) (.slice b1.A b1.ts.length b1.c) (.slice b2.A b2.ts.length b2.c) (.slice none 0 0) (.slice none 0 0)
  have HG := Lib.hid (And.intro hbx hb1)
  have HO := Lib.hid (And.intro h1 (And.intro h2 (And.intro h3 h4)))
  have HR1 := Lib.hid fun W (h : Below w.heap.size w W) => rrises_b a1 W (h1.below h) true q1
  have HR2 := Lib.hid fun W (h : Below w.heap.size w W) => rrises_b a2 W (h2.below h) true q2
  have HR3 := Lib.hid fun W (h : Below w.heap.size w W) => rrises_b b1 W (h3.below h) true q3
  have HR4 := Lib.hid fun W (h : Below w.heap.size w W) => rrises_b b2 W (h4.below h) true q4
  have HR5 := Lib.hid fun W (h : Below w.heap.size w W) => rmeet_any a1 b1 W (h1.below h) (h3.below h)
  rw [m1] at HR5
  have HR6 := Lib.hid fun W (h : Below w.heap.size w W) => rmeet_any a2 b2 W (h2.below h) (h4.below h)
  rw [m2] at HR6
  have HR7 := Lib.hid fun W (h : Below w.heap.size w W) => rmeet_any a1 a2 W (h1.below h) (h2.below h)
  rw [m3] at HR7
  have HR8 := Lib.hid fun W (h : Below w.heap.size w W) => rmeet_any b1 b2 W (h3.below h) (h4.below h)
  rw [m4] at HR8
  clear hb1 hbx h1 h2 h3 h4 q1 q2 q3 q4 m1 m2 m3 m4
  go_enter Try.func30, Try.ntmps30
  go_upto_region 1 with (fail)
  generalize ((w.alloc (.cells #[.slice a1.A a1.ts.length a1.c, .slice a2.A a2.ts.length a2.c] 35)).alloc (.cells #[.slice b1.A b1.ts.length b1.c, .slice b2.A b2.ts.length b2.c] 35)).alloc (.cells #[.slice none 0 0, .slice none 0 0] 35) = W1 at HG ⊢
  obtain ⟨k0, k1, k2, k3⟩ := HG.out.1.args
  have HN1 := Lib.hid (HR1.out W1 HG.out.2)
  go_wp2_with (first
    | (go_at_call 16; (with_reducible refine HN1.out.mono ?_); rintro e w2 ⟨rfl, hb2⟩; have B2 := Lib.hid (HG.out.2.trans (lower hb2 HG.out.2.size)); have G2 := Lib.hid (HG.out.1.kept hb2); obtain ⟨k2_0, k2_1, k2_2, k2_3⟩ := G2.out.args; have HN2 := Lib.hid (HR2.out w2 B2.out); clear hb2 HN1 k0 k1 k2 k3)
    | (go_at_call 16; (with_reducible refine HN2.out.mono ?_); rintro e w3 ⟨rfl, hb3⟩; have B3 := Lib.hid (B2.out.trans (lower hb3 B2.out.size)); have G3 := Lib.hid (G2.out.kept hb3); obtain ⟨k3_0, k3_1, k3_2, k3_3⟩ := G3.out.args; have HN3 := Lib.hid (HR3.out w3 B3.out); clear hb3 HN2 k2_0 k2_1 k2_2 k2_3)
    | (go_at_call 16; (with_reducible refine HN3.out.mono ?_); rintro e w4 ⟨rfl, hb4⟩; have B4 := Lib.hid (B3.out.trans (lower hb4 B3.out.size)); have G4 := Lib.hid (G3.out.kept hb4); obtain ⟨k4_0, k4_1, k4_2, k4_3⟩ := G4.out.args; have HN4 := Lib.hid (HR4.out w4 B4.out); clear hb4 HN3 k3_0 k3_1 k3_2 k3_3)
    | (go_at_call 16; (with_reducible refine HN4.out.mono ?_); rintro e w5 ⟨rfl, hb5⟩; have B5 := Lib.hid (B4.out.trans (lower hb5 B4.out.size)); have G5 := Lib.hid (G4.out.kept hb5); obtain ⟨k5_0, k5_1, k5_2, k5_3⟩ := G5.out.args; have HN5 := Lib.hid (HR5.out w5 B5.out); clear hb5 HN4 k4_0 k4_1 k4_2 k4_3)
    | (go_at_call 43; (with_reducible refine HN5.out.mono ?_); rintro e w6 ⟨rfl, hb6⟩; have B6 := Lib.hid (B5.out.trans (lower hb6 B5.out.size)); have G6 := Lib.hid (G5.out.kept hb6); obtain ⟨k6_0, k6_1, k6_2, k6_3⟩ := G6.out.args; have HN6 := Lib.hid (HR6.out w6 B6.out); clear hb6 HN5 k5_0 k5_1 k5_2 k5_3)
    | (go_at_call 43; (with_reducible refine HN6.out.mono ?_); rintro e w7 ⟨rfl, hb7⟩; have B7 := Lib.hid (B6.out.trans (lower hb7 B6.out.size)); have G7 := Lib.hid (G6.out.kept hb7); obtain ⟨k7_0, k7_1, k7_2, k7_3⟩ := G7.out.args; have HN7 := Lib.hid (HR7.out w7 B7.out); clear hb7 HN6 k6_0 k6_1 k6_2 k6_3)
    | (go_at_call 43; (with_reducible refine HN7.out.mono ?_); rintro e w8 ⟨rfl, hb8⟩; have B8 := Lib.hid (B7.out.trans (lower hb8 B7.out.size)); have G8 := Lib.hid (G7.out.kept hb8); obtain ⟨k8_0, k8_1, k8_2, k8_3⟩ := G8.out.args; have HN8 := Lib.hid (HR8.out w8 B8.out); clear hb8 HN7 k7_0 k7_1 k7_2 k7_3)
    | (go_at_call 43; (with_reducible refine HN8.out.mono ?_); rintro e w9 ⟨rfl, hb9⟩; have B9 := Lib.hid (B8.out.trans (lower hb9 B8.out.size)); have G9 := Lib.hid (G8.out.kept hb9); obtain ⟨k9_0, k9_1, k9_2, k9_3⟩ := G9.out.args; obtain ⟨r0, r1, r2, r3⟩ := G9.out.res; clear hb9 HN8 k8_0 k8_1 k8_2 k8_3))
  exact bodyPost_ret (resRThen (set2 G9.out.c _ _) _ rfl) rfl (rd_err (below_set2 B9.out (by omega) _ _))
set_option maxRecDepth 100000 in
set_option maxHeartbeats 4000000 in
theorem rthen_c (a1 a2 b1 b2 : LV) (w : World) (h1 : a1.Ok w) (h2 : a2.Ok w) (h3 : b1.Ok w) (h4 : b2.Ok w) (q1 : risB (tus a1.ts) = true) (q2 : risB (tus a2.ts) = true) (q3 : risB (tus b1.ts) = true) (q4 : risB (tus b2.ts) = true) (m1 : meetL (tus a1.ts) (tus b1.ts) = false) (m2 : meetL (tus a2.ts) (tus b2.ts) = false) (m3 : meetL (tus a1.ts) (tus a2.ts) = false) (m4 : meetL (tus b1.ts) (tus b2.ts) = false) (z1 : a1.ts.length + b1.ts.length ≤ 1000) (z2 : a2.ts.length + b2.ts.length ≤ 1000) :
    Calls Try.prog 30 #[.agg #[.slice a1.A a1.ts.length a1.c, .slice a2.A a2.ts.length a2.c], .agg #[.slice b1.A b1.ts.length b1.c, .slice b2.A b2.ts.length b2.c]] w (RdPost w (0, setL (woL (tus a1.ts) (tus b2.ts) ++ woL (tus b1.ts) (tus a2.ts)), setL (woL (tus a2.ts) (tus b1.ts) ++ woL (tus b2.ts) (tus a1.ts)))) := by
  have hb1 : Below w.heap.size w (((w.alloc (.cells #[.slice a1.A a1.ts.length a1.c, .slice a2.A a2.ts.length a2.c] 35)).alloc (.cells #[.slice b1.A b1.ts.length b1.c, .slice b2.A b2.ts.length b2.c] 35)).alloc (.cells #[.slice none 0 0, .slice none 0 0] 35)) := (((Below.refl w.heap.size w).alloc (Nat.le_refl _) _).alloc (by simp) _).alloc (by simp; omega) _
  have hbx := Box3.new w (.slice a1.A a1.ts.length a1.c) (.slice a2.A a2.ts.length a2.c) (.slice b1.A b1.ts.length b1.c) (.slice b2.A b2.ts.length b2.c) (.slice none 0 0) (.slice none 0 0)
  have HG := Lib.hid (And.intro hbx hb1)
  have HO := Lib.hid (And.intro h1 (And.intro h2 (And.intro h3 h4)))
  have HR1 := Lib.hid fun W (h : Below w.heap.size w W) => rrises_b a1 W (h1.below h) true q1
  have HR2 := Lib.hid fun W (h : Below w.heap.size w W) => rrises_b a2 W (h2.below h) true q2
  have HR3 := Lib.hid fun W (h : Below w.heap.size w W) => rrises_b b1 W (h3.below h) true q3
  have HR4 := Lib.hid fun W (h : Below w.heap.size w W) => rrises_b b2 W (h4.below h) true q4
  have HR5 := Lib.hid fun W (h : Below w.heap.size w W) => rmeet_any a1 b1 W (h1.below h) (h3.below h)
  rw [m1] at HR5
  have HR6 := Lib.hid fun W (h : Below w.heap.size w W) => rmeet_any a2 b2 W (h2.below h) (h4.below h)
  rw [m2] at HR6
  have HR7 := Lib.hid fun W (h : Below w.heap.size w W) => rmeet_any a1 a2 W (h1.below h) (h2.below h)
  rw [m3] at HR7
  have HR8 := Lib.hid fun W (h : Below w.heap.size w W) => rmeet_any b1 b2 W (h3.below h) (h4.below h)
  rw [m4] at HR8
  have HW1 := Lib.hid fun W (h : Below w.heap.size w W) => rwithout_q a1 b2 W (h1.below h) (h4.below h)
  have HW2 := Lib.hid fun W (h : Below w.heap.size w W) => rwithout_q b1 a2 W (h3.below h) (h2.below h)
  have HW3 := Lib.hid fun W (h : Below w.heap.size w W) => rwithout_q a2 b1 W (h2.below h) (h3.below h)
  have HW4 := Lib.hid fun W (h : Below w.heap.size w W) => rwithout_q b2 a1 W (h4.below h) (h1.below h)
  have hlen : ∀ (x y : LV) (a b c d : List Tu), tus x.ts = woL a b → tus y.ts = woL c d → a.length + c.length ≤ 1000 → x.ts.length + y.ts.length ≤ 1000 := fun x y a b c d e1 e2 h => by
    have f1 := congrArg List.length e1
    have f2 := congrArg List.length e2
    have g1 := wo_len a b
    have g2 := wo_len c d
    rw [tus_len] at f1 f2
    omega
  have HJ1 := Lib.hid fun (x y : LV) W (hx : x.Ok W) (hy : y.Ok W) (e1 : tus x.ts = woL (tus a1.ts) (tus b2.ts)) (e2 : tus y.ts = woL (tus b1.ts) (tus a2.ts)) => rboth_q x y W hx hy (hlen x y _ _ _ _ e1 e2 (by rw [tus_len, tus_len]; exact z1))
  have HJ2 := Lib.hid fun (x y : LV) W (hx : x.Ok W) (hy : y.Ok W) (e1 : tus x.ts = woL (tus a2.ts) (tus b1.ts)) (e2 : tus y.ts = woL (tus b2.ts) (tus a1.ts)) => rboth_q x y W hx hy (hlen x y _ _ _ _ e1 e2 (by rw [tus_len, tus_len]; exact z2))
  clear hb1 hbx h1 h2 h3 h4 q1 q2 q3 q4 m1 m2 m3 m4 z1 z2 hlen
  go_enter Try.func30, Try.ntmps30
  go_upto_region 1 with (fail)
  generalize ((w.alloc (.cells #[.slice a1.A a1.ts.length a1.c, .slice a2.A a2.ts.length a2.c] 35)).alloc (.cells #[.slice b1.A b1.ts.length b1.c, .slice b2.A b2.ts.length b2.c] 35)).alloc (.cells #[.slice none 0 0, .slice none 0 0] 35) = W1 at HG ⊢
  obtain ⟨k0, k1, k2, k3⟩ := HG.out.1.args
  have HN1 := Lib.hid (HR1.out W1 HG.out.2)
  go_upto_region 5 with (first
    | (go_at_call 16; (with_reducible refine HN1.out.mono ?_); rintro e w2 ⟨rfl, hb2⟩; have B2 := Lib.hid (HG.out.2.trans (lower hb2 HG.out.2.size)); have G2 := Lib.hid (HG.out.1.kept hb2); obtain ⟨k2_0, k2_1, k2_2, k2_3⟩ := G2.out.args; have HN2 := Lib.hid (HR2.out w2 B2.out); clear hb2 HN1 k0 k1 k2 k3)
    | (go_at_call 16; (with_reducible refine HN2.out.mono ?_); rintro e w3 ⟨rfl, hb3⟩; have B3 := Lib.hid (B2.out.trans (lower hb3 B2.out.size)); have G3 := Lib.hid (G2.out.kept hb3); obtain ⟨k3_0, k3_1, k3_2, k3_3⟩ := G3.out.args; have HN3 := Lib.hid (HR3.out w3 B3.out); clear hb3 HN2 k2_0 k2_1 k2_2 k2_3)
    | (go_at_call 16; (with_reducible refine HN3.out.mono ?_); rintro e w4 ⟨rfl, hb4⟩; have B4 := Lib.hid (B3.out.trans (lower hb4 B3.out.size)); have G4 := Lib.hid (G3.out.kept hb4); obtain ⟨k4_0, k4_1, k4_2, k4_3⟩ := G4.out.args; have HN4 := Lib.hid (HR4.out w4 B4.out); clear hb4 HN3 k3_0 k3_1 k3_2 k3_3)
    | (go_at_call 16; (with_reducible refine HN4.out.mono ?_); rintro e w5 ⟨rfl, hb5⟩; have B5 := Lib.hid (B4.out.trans (lower hb5 B4.out.size)); have G5 := Lib.hid (G4.out.kept hb5); obtain ⟨k5_0, k5_1, k5_2, k5_3⟩ := G5.out.args; have HN5 := Lib.hid (HR5.out w5 B5.out); clear hb5 HN4 k4_0 k4_1 k4_2 k4_3)
    | (go_at_call 43; (with_reducible refine HN5.out.mono ?_); rintro e w6 ⟨rfl, hb6⟩; have B6 := Lib.hid (B5.out.trans (lower hb6 B5.out.size)); have G6 := Lib.hid (G5.out.kept hb6); obtain ⟨k6_0, k6_1, k6_2, k6_3⟩ := G6.out.args; have HN6 := Lib.hid (HR6.out w6 B6.out); clear hb6 HN5 k5_0 k5_1 k5_2 k5_3)
    | (go_at_call 43; (with_reducible refine HN6.out.mono ?_); rintro e w7 ⟨rfl, hb7⟩; have B7 := Lib.hid (B6.out.trans (lower hb7 B6.out.size)); have G7 := Lib.hid (G6.out.kept hb7); obtain ⟨k7_0, k7_1, k7_2, k7_3⟩ := G7.out.args; have HN7 := Lib.hid (HR7.out w7 B7.out); clear hb7 HN6 k6_0 k6_1 k6_2 k6_3)
    | (go_at_call 43; (with_reducible refine HN7.out.mono ?_); rintro e w8 ⟨rfl, hb8⟩; have B8 := Lib.hid (B7.out.trans (lower hb8 B7.out.size)); have G8 := Lib.hid (G7.out.kept hb8); obtain ⟨k8_0, k8_1, k8_2, k8_3⟩ := G8.out.args; have HN8 := Lib.hid (HR8.out w8 B8.out); clear hb8 HN7 k7_0 k7_1 k7_2 k7_3)
    | (go_at_call 43; (with_reducible refine HN8.out.mono ?_); rintro e w9 ⟨rfl, hb9⟩; have B9 := Lib.hid (B8.out.trans (lower hb9 B8.out.size)); have G9 := Lib.hid (G8.out.kept hb9); obtain ⟨k9_0, k9_1, k9_2, k9_3⟩ := G9.out.args; skip; clear hb9 HN8 k8_0 k8_1 k8_2 k8_3))
  clear k9_0 k9_1 k9_2 k9_3 HG G2 G3 G4 G5 G6 G7 G8 HR1 HR2 HR3 HR4 HR5 HR6 HR7 HR8
  have KS := Lib.hid fun W (h : Below w9.heap.size w9 W) => (G9.out.kept h).args
  have HA10 := Lib.hid (HW1.out w9.drew B9.out.drew)
  have k10 := KS.out w9.drew (Below.refl _ _).drew
  go_region_held3 (fun W => W.cell? ⟨w.heap.size, 0, none⟩ = some (.slice a1.A a1.ts.length a1.c) ∧ W.cell? ⟨w.heap.size, 1, none⟩ = some (.slice a2.A a2.ts.length a2.c) ∧ W.cell? ⟨w.heap.size + 1, 0, none⟩ = some (.slice b1.A b1.ts.length b1.c) ∧ W.cell? ⟨w.heap.size + 1, 1, none⟩ = some (.slice b2.A b2.ts.length b2.c))
    (first | (with_reducible assumption) | exact ⟨keep_set2 (KS.out _ D15.out).1 (by omega) _ _, keep_set2 (KS.out _ D15.out).2.1 (by omega) _ _, keep_set2 (KS.out _ D15.out).2.2.1 (by omega) _ _, keep_set2 (KS.out _ D15.out).2.2.2 (by omega) _ _⟩ | exact KS.out _ D15.out | exact KS.out _ D14.out | exact KS.out _ D13.out | exact KS.out _ D12.out | exact KS.out _ D11.out | exact KS.out _ D10.out | exact KS.out _ (Below.refl _ _).drew)
    (first
      | (go_at_call 40; (with_reducible refine HA10.out.mono ?_); rintro e w10 ⟨x10, rfl, o10, m10, l10, e10, b10⟩; have D10 := Lib.hid ((Below.refl _ w9).drew.trans (b10 : Below w9.heap.size _ _)); have T10 := Lib.hid b10; have E10 := Lib.hid (And.intro o10 (And.intro m10 (And.intro l10 e10))); have HA11 := Lib.hid (HW2.out w10 (B9.out.trans (lower D10.out B9.out.size))); clear o10 m10 l10 e10 b10 HA10)
      | (go_at_call 40; (with_reducible refine HA11.out.mono ?_); rintro e w11 ⟨x11, rfl, o11, m11, l11, e11, b11⟩; have D11 := Lib.hid (D10.out.trans (lower b11 D10.out.size)); have T11 := Lib.hid b11; have E11 := Lib.hid (And.intro o11 (And.intro m11 (And.intro l11 e11))); have HA12 := Lib.hid (HJ1.out x10 x11 w11 (lv_end (OwnT.below E10.out.1 T11.out) E10.out.2.1 E10.out.2.2.1 HO.out.1.ok (B9.out.trans (lower D11.out B9.out.size))) (lv_end E11.out.1 E11.out.2.1 E11.out.2.2.1 HO.out.2.2.1.ok (B9.out.trans (lower D11.out B9.out.size))) E10.out.2.2.2 E11.out.2.2.2); clear o11 m11 l11 e11 b11 HA11)
      | (go_at_call 44; (with_reducible refine HA12.out.mono ?_); rintro e w12 ⟨x12, rfl, o12, m12, l12, e12, b12⟩; have D12 := Lib.hid (D11.out.trans (lower b12 D11.out.size)); have T12 := Lib.hid b12; have E12 := Lib.hid (And.intro o12 (And.intro m12 (And.intro l12 e12))); have HA13 := Lib.hid (HW3.out w12 (B9.out.trans (lower D12.out B9.out.size))); clear o12 m12 l12 e12 b12 HA12)
      | (go_at_call 40; (with_reducible refine HA13.out.mono ?_); rintro e w13 ⟨x13, rfl, o13, m13, l13, e13, b13⟩; have D13 := Lib.hid (D12.out.trans (lower b13 D12.out.size)); have T13 := Lib.hid b13; have E13 := Lib.hid (And.intro o13 (And.intro m13 (And.intro l13 e13))); have HA14 := Lib.hid (HW4.out w13 (B9.out.trans (lower D13.out B9.out.size))); clear o13 m13 l13 e13 b13 HA13)
      | (go_at_call 40; (with_reducible refine HA14.out.mono ?_); rintro e w14 ⟨x14, rfl, o14, m14, l14, e14, b14⟩; have D14 := Lib.hid (D13.out.trans (lower b14 D13.out.size)); have T14 := Lib.hid b14; have E14 := Lib.hid (And.intro o14 (And.intro m14 (And.intro l14 e14))); have HA15 := Lib.hid (HJ2.out x13 x14 w14 (lv_end (OwnT.below E13.out.1 T14.out) E13.out.2.1 E13.out.2.2.1 HO.out.2.1.ok (B9.out.trans (lower D14.out B9.out.size))) (lv_end E14.out.1 E14.out.2.1 E14.out.2.2.1 HO.out.2.2.2.ok (B9.out.trans (lower D14.out B9.out.size))) E13.out.2.2.2 E14.out.2.2.2); clear o14 m14 l14 e14 b14 HA14)
      | (go_at_call 44; (with_reducible refine HA15.out.mono ?_); rintro e w15 ⟨x15, rfl, o15, m15, l15, e15, b15⟩; have D15 := Lib.hid (D14.out.trans (lower b15 D14.out.size)); have T15 := Lib.hid b15; have E15 := Lib.hid (And.intro o15 (And.intro m15 (And.intro l15 e15))); have G15 := Lib.hid (G9.out.kept D15.out); obtain ⟨r0, r1, r2, r3⟩ := G15.out.res; clear o15 m15 l15 e15 b15 HA15))
  all_goals
    go_wp2_with (fail)
    have hfr := fr_set2 w15 (w.heap.size + 2) (.slice x12.A x12.ts.length x12.c) (.slice x15.A x15.ts.length x15.c)
    have l9 := heap_lt G9.out.c
    have l11 := D11.out.size
    have l14 := D14.out.size
    have t12 : OwnT w15 w11.heap.size x12.val x12.ts := OwnT.below (OwnT.below (OwnT.below E12.out.1 T13.out) T14.out) T15.out
    have t12' := t12.fr hfr (by simp; omega)
    have t15' := OwnT.fr E15.out.1 hfr (by simp; omega)
    have hbe := below_set2 (B9.out.trans (lower D15.out B9.out.size)) (Nat.le_add_right _ 2) (.slice x12.A x12.ts.length x12.c) (.slice x15.A x15.ts.length x15.c)
    have hm1 : ∀ t ∈ x12.ts, t ∈ a1.ts ++ b1.ts := fun t ht => by
      rcases List.mem_append.1 (E12.out.2.1 t ht) with h | h
      · exact List.mem_append.2 (.inl (E10.out.2.1 t h))
      · exact List.mem_append.2 (.inr (E11.out.2.1 t h))
    have hm2 : ∀ t ∈ x15.ts, t ∈ a2.ts ++ b2.ts := fun t ht => by
      rcases List.mem_append.1 (E15.out.2.1 t ht) with h | h
      · exact List.mem_append.2 (.inl (E13.out.2.1 t h))
      · exact List.mem_append.2 (.inr (E14.out.2.1 t h))
    have ho1 : ∀ t ∈ a1.ts ++ b1.ts, t.Ok w := fun t ht => (List.mem_append.1 ht).elim (HO.out.1.ok t) (HO.out.2.2.1.ok t)
    have ho2 : ∀ t ∈ a2.ts ++ b2.ts, t.Ok w := fun t ht => (List.mem_append.1 ht).elim (HO.out.2.1.ok t) (HO.out.2.2.2.ok t)
    exact bodyPost_ret (resRThen (set2 G15.out.c _ _) _ rfl) rfl ⟨x12, x15, rfl, lv_end t12' hm1 E12.out.2.2.1 ho1 hbe, lv_end t15' hm2 E15.out.2.2.1 ho2 hbe, by rw [E12.out.2.2.2, E10.out.2.2.2, E11.out.2.2.2], by rw [E15.out.2.2.2, E13.out.2.2.2, E14.out.2.2.2], hbe⟩
theorem rthen_any (a1 a2 b1 b2 : LV) (w : World) (h1 : a1.Ok w) (h2 : a2.Ok w) (h3 : b1.Ok w) (h4 : b2.Ok w) (z1 : a1.ts.length + b1.ts.length ≤ 1000) (z2 : a2.ts.length + b2.ts.length ≤ 1000) :
    Calls Try.prog 30 #[.agg #[.slice a1.A a1.ts.length a1.c, .slice a2.A a2.ts.length a2.c], .agg #[.slice b1.A b1.ts.length b1.c, .slice b2.A b2.ts.length b2.c]] w (RdPost w (thenP (tus a1.ts) (tus a2.ts) (tus b1.ts) (tus b2.ts))) := by
  unfold thenP
  cases q1 : risB (tus a1.ts) with
  | false => exact rthen_a1 a1 a2 b1 b2 w h1 h2 h3 h4 q1
  | true =>
    cases q2 : risB (tus a2.ts) with
    | false => exact rthen_a2 a1 a2 b1 b2 w h1 h2 h3 h4 q1 q2
    | true =>
      cases q3 : risB (tus b1.ts) with
      | false => exact rthen_a3 a1 a2 b1 b2 w h1 h2 h3 h4 q1 q2 q3
      | true =>
        cases q4 : risB (tus b2.ts) with
        | false => exact rthen_a4 a1 a2 b1 b2 w h1 h2 h3 h4 q1 q2 q3 q4
        | true =>
          rw [if_pos (by simp)]
          cases m1 : meetL (tus a1.ts) (tus b1.ts) with
          | true => rw [if_pos (by simp)]; exact rthen_b1 a1 a2 b1 b2 w h1 h2 h3 h4 q1 q2 q3 q4 m1
          | false =>
            cases m2 : meetL (tus a2.ts) (tus b2.ts) with
            | true => rw [if_pos (by simp)]; exact rthen_b2 a1 a2 b1 b2 w h1 h2 h3 h4 q1 q2 q3 q4 m1 m2
            | false =>
              cases m3 : meetL (tus a1.ts) (tus a2.ts) with
              | true => rw [if_pos (by simp)]; exact rthen_b3 a1 a2 b1 b2 w h1 h2 h3 h4 q1 q2 q3 q4 m1 m2 m3
              | false =>
                cases m4 : meetL (tus b1.ts) (tus b2.ts) with
                | true => rw [if_pos (by simp)]; exact rthen_b4 a1 a2 b1 b2 w h1 h2 h3 h4 q1 q2 q3 q4 m1 m2 m3 m4
                | false =>
                  rw [if_neg (by simp)]
                  exact rthen_c a1 a2 b1 b2 w h1 h2 h3 h4 q1 q2 q3 q4 m1 m2 m3 m4 z1 z2
end Go.Proofs.Ytpfkkmfhafejfaa
