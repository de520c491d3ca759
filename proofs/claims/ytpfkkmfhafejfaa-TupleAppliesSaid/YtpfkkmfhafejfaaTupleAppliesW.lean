/- The law TupleApplies, walked. -/
import Derived.Test.YtpfkkmfhafejfaaTupU
import Derived.RegionTactic
namespace Go.Proofs.Ytpfkkmfhafejfaa
open Go.RowKit Go.Maps

abbrev nilBox : Obj := .cells #[.slice none 0 0, .slice none 0 0] 35
theorem newB {w w' : World} {o : Obj} (h : Below (w.alloc o).heap.size (w.alloc o) w') : w'.heap[w.heap.size]? = some o := (h.block _ (by simp)).trans (heap_alloc_new w o)
theorem newBd {w w' : World} {o : Obj} (h : Below (w.alloc o).drew.heap.size (w.alloc o).drew w') : w'.heap[w.heap.size]? = some o := (h.block _ (by show _ < (w.alloc o).heap.size; simp)).trans (heap_alloc_new w o)
theorem keepB {w w' : World} {b : Nat} {o : Obj} (h : Below w.heap.size w w') (hx : w.heap[b]? = some o) : w'.heap[b]? = some o := (h.block _ (heap_lt hx)).trans hx
theorem keepBd {w w' : World} {b : Nat} {o : Obj} (h : Below w.drew.heap.size w.drew w') (hx : w.heap[b]? = some o) : w'.heap[b]? = some o := (h.block _ (heap_lt hx)).trans hx
theorem belA {w w' : World} {o : Obj} (h : Below (w.alloc o).heap.size (w.alloc o) w') : Below w.heap.size w w' := ((Below.refl _ w).alloc (Nat.le_refl _) o).trans (lower h (by simp))
theorem belAd {w w' : World} {o : Obj} (h : Below (w.alloc o).drew.heap.size (w.alloc o).drew w') : Below w.heap.size w w' := belA (o := o) ⟨h.os, h.tape, h.output, h.size, h.block⟩
theorem belD {w w' : World} (h : Below w.drew.heap.size w.drew w') : Below w.heap.size w w' := ⟨h.os, h.tape, h.output, h.size, h.block⟩
theorem below_al {a w : World} (h : Below a.heap.size a w) (o : Obj) : Below a.heap.size a (w.alloc o) := h.alloc h.size o
theorem OwnL.box {w : World} {lo b : Nat} {x : LV} {z0 z1 : Value} (h : OwnL w lo x.val x.ts) (hx : w.heap[b]? = some (.cells #[z0, z1] 35 (0, 0))) (v0 v1 : Value) : OwnL ((w.setCell ⟨b, 0, none⟩ v0).setCell ⟨b, 1, none⟩ v1) lo x.val x.ts := by
  have hf := fr_set2 w b v0 v1
  have hne : ∀ {base size n : Nat} {e : TypeId} {v : Value} {xs : List Value}, w.ownsRow base e size v n xs → e ≠ 35 → ∀ s ∈ v.ownBlock.toList, s ∉ [b] := fun ho he s hs hm => by
    rw [List.mem_singleton.1 hm] at hs
    rcases ho.2 with ⟨hv, _⟩ | ⟨g, cap, cur, hv, _, hg, _⟩
    · rw [hv] at hs; simp [Value.ownBlock] at hs
    · rw [hv] at hs
      simp [Value.ownBlock] at hs
      rw [← hs, hx] at hg
      injection hg with hg
      injection hg with _ hg
      exact he hg.symm
  refine ⟨rowFrS h.row hf (hne h.row (by decide)), fun t ht => rowFrS (h.tup t ht) hf (hne (h.tup t ht) (by decide)), h.sm, h.off⟩
theorem belN {w w' : World} {n : Nat} (h : Below (w.drewN n).heap.size (w.drewN n) w') : Below w.heap.size w w' := ⟨h.os, h.tape, h.output, h.size, h.block⟩
/-- What stands behind the three copies. -/
structure ApAt (W0 w' : World) (bx : Nat) (s a d x3 x4 x5 : LV) : Prop where
  box : BoxD w' bx x4 x5
  o3 : x3.Ok w'
  o4 : x4.Ok w'
  o5 : x5.Ok w'
  e3 : tus x3.ts = tus s.ts
  e4 : tus x4.ts = tus a.ts
  e5 : tus x5.ts = tus d.ts
  below : Below W0.heap.size W0 w'
theorem ap_set {W0 w5 : World} {b l3 l4 l5 : Nat} {s a d x3 x4 x5 : LV} (hx : w5.heap[b]? = some nilBox) (hb : Below W0.heap.size W0 w5) (hw : W0.heap.size ≤ b) (o3 : OwnL w5 l3 x3.val x3.ts) (o4 : OwnL w5 l4 x4.val x4.ts) (o5 : OwnL w5 l5 x5.val x5.ts)
    (s3 : x3.ts.length ≤ 1000) (s4 : x4.ts.length ≤ 1000) (s5 : x5.ts.length ≤ 1000) (e3 : tus x3.ts = tus s.ts) (e4 : tus x4.ts = tus a.ts) (e5 : tus x5.ts = tus d.ts) :
    ApAt W0 ((w5.setCell ⟨b, 0, none⟩ (.slice x4.A x4.ts.length x4.c)).setCell ⟨b, 1, none⟩ (.slice x5.A x5.ts.length x5.c)) b s a d x3 x4 x5 :=
  ⟨set2 hx _ _, (o3.box hx _ _).ok' s3 rfl, (o4.box hx _ _).ok' s4 rfl, (o5.box hx _ _).ok' s5 rfl, e3, e4, e5, below_set2 hb hw _ _⟩
theorem ap_new {W0 w5 : World} {l3 l4 l5 : Nat} {s a d x3 x4 x5 : LV} (hb : Below W0.heap.size W0 w5) (o3 : OwnL w5 l3 x3.val x3.ts) (o4 : OwnL w5 l4 x4.val x4.ts) (o5 : OwnL w5 l5 x5.val x5.ts)
    (s3 : x3.ts.length ≤ 1000) (s4 : x4.ts.length ≤ 1000) (s5 : x5.ts.length ≤ 1000) (e3 : tus x3.ts = tus s.ts) (e4 : tus x4.ts = tus a.ts) (e5 : tus x5.ts = tus d.ts) :
    ApAt W0 (w5.alloc (.cells #[.slice x4.A x4.ts.length x4.c, .slice x5.A x5.ts.length x5.c] 35)) w5.heap.size s a d x3 x4 x5 := by
  have hb1 : Below w5.heap.size w5 (w5.alloc (.cells #[.slice x4.A x4.ts.length x4.c, .slice x5.A x5.ts.length x5.c] 35)) := (Below.refl _ _).alloc (Nat.le_refl _) _
  exact ⟨BoxD.new w5 x4 x5, (OwnL.below o3 hb1).ok' s3 rfl, (OwnL.below o4 hb1).ok' s4 rfl, (OwnL.below o5 hb1).ok' s5 rfl, e3, e4, e5, hb.alloc hb.size _⟩
set_option maxRecDepth 100000 in
set_option maxHeartbeats 4000000 in
theorem tupleApplies_walk (s a d : LV) (W : World) (h1 : s.Raw W) (h2 : a.Raw W) (h3 : d.Raw W) :
    Calls Try.prog 6 #[.slice s.A s.ts.length s.c, .agg #[.slice a.A a.ts.length a.c, .slice d.A d.ts.length d.c]] W fun e w' => e = .returned (.bool true) ∧ Below W.heap.size W w' := by
  have hbb := (Below.refl W.heap.size W).alloc (Nat.le_refl _) (.cells #[.slice a.A a.ts.length a.c, .slice d.A d.ts.length d.c] 35)
  have HG : Hid (BoxD _ W.heap.size a d ∧ Below W.heap.size W _) := Lib.hid (And.intro (BoxD.new W a d) hbb)
  have HAW := Lib.hid awake10_any
  have HFW := Lib.hid fun w (h : Below W.heap.size W w) => few_thr s a d w (h1.below h) (h2.below h) (h3.below h)
  have HR := Lib.hid (And.intro h1 (And.intro h2 h3))
  clear h1 h2 h3 hbb
  cases hf : fewB [s, a, d] with
  | false =>
    rw [hf] at HFW
    clear hf HR
    go_enter Try.func6, Try.ntmps6
    go_upto_region 1 with (fail)
    generalize W.alloc (.cells #[.slice a.A a.ts.length a.c, .slice d.A d.ts.length d.c] 35) = W0 at HG ⊢
    go_upto_region 2 with (first
      | (go_at_call 9; (with_reducible refine (HAW.out _).mono ?_); rintro e w1 ⟨rfl, hb1⟩; have B1 := Lib.hid (HG.out.2.trans (lower hb1 HG.out.2.size)); have G1 := Lib.hid (HG.out.1.kept hb1); obtain ⟨k0, k1⟩ := G1.out.cells; have HF1 := Lib.hid (HFW.out w1 B1.out); clear hb1 HFW)
      | (go_at_call 10; (with_reducible refine HF1.out.mono ?_); rintro e w2 ⟨rfl, hb2⟩; have B2 := Lib.hid (B1.out.trans (lower hb2 B1.out.size)); clear hb2 HF1))
    go_wp2_with (go_at_call 9; (with_reducible refine (HAW.out _).mono ?_); rintro e w3 ⟨rfl, hb3⟩; have B3 := Lib.hid (B2.out.trans (lower hb3 B2.out.size)); clear hb3)
    go_ret
    exact ⟨rfl, B3.out⟩
  | true =>
    rw [hf] at HFW
    have HO := Lib.hid fun w (h : Below W.heap.size W w) => And.intro ((HR.out.1.below h).ok (fewB_mem hf (by simp))).1 (And.intro ((HR.out.2.1.below h).ok (fewB_mem hf (by simp))).1 ((HR.out.2.2.below h).ok (fewB_mem hf (by simp))).1)
    have hl1 := (HR.out.1.ok (fewB_mem hf (by simp))).2
    have hl2 := (HR.out.2.1.ok (fewB_mem hf (by simp))).2
    obtain ⟨p, hp⟩ : ∃ p, p = applyP (tus s.ts) (tus a.ts) (tus d.ts) := ⟨_, rfl⟩
    have HU := Lib.hid fun w (h : Below W.heap.size W w) => rapply_any s a d w (HO.out w h).1 (HO.out w h).2.1 (HO.out w h).2.2 (by omega)
    have HAP := Lib.hid fun (x y z : LV) w (hx : x.Ok w) (hy : y.Ok w) (hz : z.Ok w) (e1 : tus x.ts = tus s.ts) (e2 : tus y.ts = tus a.ts) (e3 : tus z.ts = tus d.ts) => (by
      have hlx : x.ts.length = s.ts.length := by rw [← tus_len, e1, tus_len]
      have hly : y.ts.length = a.ts.length := by rw [← tus_len, e2, tus_len]
      have := apply_any x y z w hx hy hz (by omega)
      rw [e1, e2, e3] at this
      exact this : Calls Try.prog 26 #[.slice x.A x.ts.length x.c, .agg #[.slice y.A y.ts.length y.c, .slice z.A z.ts.length z.c]] w (ApPost w (applyP (tus s.ts) (tus a.ts) (tus d.ts))))
    rw [← hp] at HU HAP
    obtain ⟨pn, pR⟩ := p
    clear hf hl1 hl2 HR hp
    go_enter Try.func6, Try.ntmps6
    go_upto_region 1 with (fail)
    generalize W.alloc (.cells #[.slice a.A a.ts.length a.c, .slice d.A d.ts.length d.c] 35) = W0 at HG ⊢
    go_upto_region 3 with (first
      | (go_at_call 9; (with_reducible refine (HAW.out _).mono ?_); rintro e w1 ⟨rfl, hb1⟩; have B1 := Lib.hid (HG.out.2.trans (lower hb1 HG.out.2.size)); have G1 := Lib.hid (HG.out.1.kept hb1); obtain ⟨k0, k1⟩ := G1.out.cells; have HF1 := Lib.hid (HFW.out w1 B1.out); clear hb1 HFW)
      | (go_at_call 10; (with_reducible refine HF1.out.mono ?_); rintro e w2 ⟨rfl, hb2⟩; have B2 := Lib.hid (B1.out.trans (lower hb2 B1.out.size)); have G2 := Lib.hid (G1.out.kept hb2); clear hb2 HF1 k0 k1))
    clear G1 B1 HG
    go_cut [5, 6] from 25 to 33 (fun s5 s6 w' => ∃ (x3 x4 x5 : LV) (bx : Nat), s5 = .slice x3.A x3.ts.length x3.c ∧ s6 = .pointer (some ⟨bx, 0, none⟩) ∧ Hid (ApAt w2 w' bx s a d x3 x4 x5))
    case first =>
      have KS := Lib.hid fun w (h : Below w2.heap.size w2 w) => (G2.out.kept h).cells
      have HC1 := Lib.hid fun w (h : Below w2.heap.size w2 w) => own10_any s w (HO.out w (B2.out.trans (lower h B2.out.size))).1
      have HC2 := Lib.hid fun w (h : Below w2.heap.size w2 w) => own10_any a w (HO.out w (B2.out.trans (lower h B2.out.size))).2.1
      have HC3 := Lib.hid fun w (h : Below w2.heap.size w2 w) => own10_any d w (HO.out w (B2.out.trans (lower h B2.out.size))).2.2
      have hk0 := KS.out w2.drew (Below.refl _ _).drew
      go_region_held3 (fun w => w.cell? ⟨W.heap.size, 0, none⟩ = some (.slice a.A a.ts.length a.c) ∧ w.cell? ⟨W.heap.size, 1, none⟩ = some (.slice d.A d.ts.length d.c))
        (first | (with_reducible assumption) | exact ⟨keep_set2 (KS.out _ B5).1 (Nat.ne_of_lt (Nat.lt_of_lt_of_le (heap_lt G2.out) (Nat.le_refl w2.heap.size))) _ _, keep_set2 (KS.out _ B5).2 (Nat.ne_of_lt (Nat.lt_of_lt_of_le (heap_lt G2.out) (Nat.le_refl w2.heap.size))) _ _⟩ | exact ⟨keep_set2 (KS.out _ B5).1 (Nat.ne_of_lt (Nat.lt_of_lt_of_le (heap_lt G2.out) B3.size)) _ _, keep_set2 (KS.out _ B5).2 (Nat.ne_of_lt (Nat.lt_of_lt_of_le (heap_lt G2.out) B3.size)) _ _⟩ | exact ⟨keep_set2 (KS.out _ B5).1 (Nat.ne_of_lt (Nat.lt_of_lt_of_le (heap_lt G2.out) B4.size)) _ _, keep_set2 (KS.out _ B5).2 (Nat.ne_of_lt (Nat.lt_of_lt_of_le (heap_lt G2.out) B4.size)) _ _⟩ | (refine KS.out _ ?_; repeat (first | (with_reducible exact Below.refl _ _) | (with_reducible assumption) | (with_reducible refine Below.drew ?_) | (with_reducible refine below_al ?_ _))))
        (first
          | (go_at_call 11; (with_reducible refine (HC1.out _ ?_).mono ?_); (repeat (first | (with_reducible exact Below.refl _ _) | (with_reducible assumption) | (with_reducible refine Below.drew ?_) | (with_reducible refine below_al ?_ _))); rintro e w3 ⟨x3, rfl, q3, o3, e3, b3⟩; (with_reducible have hx3 := newBd b3); have B3 := belAd b3; have E3 := Lib.hid (And.intro q3 (And.intro o3.sm e3)); clear q3 o3 e3 b3 HC1)
          | (go_at_call 11; (with_reducible refine (HC1.out _ ?_).mono ?_); (repeat (first | (with_reducible exact Below.refl _ _) | (with_reducible assumption) | (with_reducible refine Below.drew ?_) | (with_reducible refine below_al ?_ _))); rintro e w3 ⟨x3, rfl, q3, o3, e3, b3⟩; have B3 := belD b3; have E3 := Lib.hid (And.intro q3 (And.intro o3.sm e3)); clear q3 o3 e3 b3 HC1)
          | (go_at_call 11; (with_reducible refine (HC2.out _ ?_).mono ?_); (repeat (first | (with_reducible exact Below.refl _ _) | (with_reducible assumption) | (with_reducible refine Below.drew ?_) | (with_reducible refine below_al ?_ _))); rintro e w4 ⟨x4, rfl, q4, o4, e4, b4⟩; (with_reducible have hx4 := newB b4); have bb4 := belA b4; have B4 := B3.trans (lower bb4 B3.size); have E4 := Lib.hid (And.intro (E3.out.1.below bb4) (And.intro q4 (And.intro o4.sm e4))); clear q4 o4 e4 b4 HC2)
          | (go_at_call 11; (with_reducible refine (HC2.out _ ?_).mono ?_); (repeat (first | (with_reducible exact Below.refl _ _) | (with_reducible assumption) | (with_reducible refine Below.drew ?_) | (with_reducible refine below_al ?_ _))); rintro e w4 ⟨x4, rfl, q4, o4, e4, b4⟩; (with_reducible have hx4 := keepB b4 hx3); have B4 := B3.trans (lower b4 B3.size); have E4 := Lib.hid (And.intro (E3.out.1.below b4) (And.intro q4 (And.intro o4.sm e4))); clear q4 o4 e4 b4 HC2)
          | (go_at_call 11; (with_reducible refine (HC2.out _ ?_).mono ?_); (repeat (first | (with_reducible exact Below.refl _ _) | (with_reducible assumption) | (with_reducible refine Below.drew ?_) | (with_reducible refine below_al ?_ _))); rintro e w4 ⟨x4, rfl, q4, o4, e4, b4⟩; have B4 := B3.trans (lower b4 B3.size); have E4 := Lib.hid (And.intro (E3.out.1.below b4) (And.intro q4 (And.intro o4.sm e4))); clear q4 o4 e4 b4 HC2)
          | (go_at_call 11; (with_reducible refine (HC3.out _ ?_).mono ?_); (repeat (first | (with_reducible exact Below.refl _ _) | (with_reducible assumption) | (with_reducible refine Below.drew ?_) | (with_reducible refine below_al ?_ _))); rintro e w5 ⟨x5, rfl, q5, o5, e5, b5⟩; (with_reducible have hx5 := newB b5); have bb5 := belA b5; have B5 := B4.trans (lower bb5 B4.size); have c0 := cell_of_row w5 _ 0 _ _ _ hx5; have c1 := cell_of_row w5 _ 1 _ _ _ hx5; have f0 := frozen_of_row w5 _ 0 _ _ hx5; have f1 := frozen_of_row w5 _ 1 _ _ hx5; have E5 := Lib.hid (And.intro (E4.out.1.below bb5) (And.intro (E4.out.2.1.below bb5) (And.intro q5 (And.intro o5.sm e5)))); clear q5 o5 e5 b5 HC3)
          | (go_at_call 11; (with_reducible refine (HC3.out _ ?_).mono ?_); (repeat (first | (with_reducible exact Below.refl _ _) | (with_reducible assumption) | (with_reducible refine Below.drew ?_) | (with_reducible refine below_al ?_ _))); rintro e w5 ⟨x5, rfl, q5, o5, e5, b5⟩; (with_reducible have hx5 := keepB b5 hx4); have B5 := B4.trans (lower b5 B4.size); have c0 := cell_of_row w5 _ 0 _ _ _ hx5; have c1 := cell_of_row w5 _ 1 _ _ _ hx5; have f0 := frozen_of_row w5 _ 0 _ _ hx5; have f1 := frozen_of_row w5 _ 1 _ _ hx5; have E5 := Lib.hid (And.intro (E4.out.1.below b5) (And.intro (E4.out.2.1.below b5) (And.intro q5 (And.intro o5.sm e5)))); clear q5 o5 e5 b5 HC3)
          | (go_at_call 11; (with_reducible refine (HC3.out _ ?_).mono ?_); (repeat (first | (with_reducible exact Below.refl _ _) | (with_reducible assumption) | (with_reducible refine Below.drew ?_) | (with_reducible refine below_al ?_ _))); rintro e w5 ⟨x5, rfl, q5, o5, e5, b5⟩; have B5 := B4.trans (lower b5 B4.size); have E5 := Lib.hid (And.intro (E4.out.1.below b5) (And.intro (E4.out.2.1.below b5) (And.intro q5 (And.intro o5.sm e5)))); clear q5 o5 e5 b5 HC3))
      all_goals
        go_wp2_with (fail)
        go_meet
        case rel => first
          | exact ⟨x3, x4, x5, _, rfl, rfl, Lib.hid (ap_set hx5 B5 (by first | exact Nat.le_refl _ | exact B3.size | exact B4.size) E5.out.1 E5.out.2.1 E5.out.2.2.1 E3.out.2.1 E4.out.2.2.1 E5.out.2.2.2.1 E3.out.2.2 E4.out.2.2.2 E5.out.2.2.2.2)⟩
          | exact ⟨x3, x4, x5, _, rfl, rfl, Lib.hid (ap_new B5 E5.out.1 E5.out.2.1 E5.out.2.2.1 E3.out.2.1 E4.out.2.2.1 E5.out.2.2.2.1 E3.out.2.2 E4.out.2.2.2 E5.out.2.2.2.2)⟩
    case rest =>
      obtain ⟨x3, x4, x5, bx, rfl, rfl, HA⟩ := hcut
      have HK := Lib.hid fun w (h : Below wc.heap.size wc w) => And.intro (HA.out.box.kept h) ((G2.out.kept HA.out.below).kept h)
      have HL := Lib.hid fun w (h : Below wc.heap.size wc w) => And.intro (HA.out.o3.below h) (And.intro (HA.out.o4.below h) (And.intro (HA.out.o5.below h) (HO.out w (B2.out.trans (lower (HA.out.below.trans (lower h HA.out.below.size)) B2.out.size)))))
      have HZ := Lib.hid (B2.out.trans (lower HA.out.below B2.out.size))
      have HE := Lib.hid (And.intro HA.out.e3 (And.intro HA.out.e4 HA.out.e5))
      have HAPc := Lib.hid (HAP.out x3 x4 x5 wc HA.out.o3 HA.out.o4 HA.out.o5 HA.out.e3 HA.out.e4 HA.out.e5)
      have hU := fun w (h : Below wc.heap.size wc w) => HU.out w (HZ.out.trans (lower h HZ.out.size))
      have HUc := Lib.hid hU
      obtain ⟨kc, kd⟩ := HK.out wc (Below.refl _ _)
      obtain ⟨k0, k1⟩ := kc.cells
      obtain ⟨k2, k3⟩ := kd.cells
      clear kc kd hU HU HAP HO HA G2 B2
      go_upto_region 10 with (first
        | (go_at_call 26; (with_reducible refine HAPc.out.mono ?_); rintro e w6 ⟨x6, rfl, q6, o6, e6, b6⟩; dsimp only at e6 ⊢; have B6 := Lib.hid b6; have E6 := Lib.hid (And.intro q6 (And.intro o6 e6)); clear k0 k1 k2 k3; obtain ⟨kc, kd⟩ := HK.out w6 B6.out; obtain ⟨k0, k1⟩ := kc.cells; obtain ⟨k2, k3⟩ := kd.cells; have HU6 := Lib.hid (HUc.out w6 B6.out); clear kc kd q6 o6 e6 b6 HAPc HUc)
        | (go_at_call 27; (with_reducible refine HU6.out.mono ?_); rintro e w7 ⟨x7, rfl, o7, e7, b7⟩; dsimp only at e7 ⊢; have B7 := Lib.hid (B6.out.trans (lower b7 B6.out.size)); have E7 := Lib.hid (And.intro (E6.out.1.below b7) (And.intro E6.out.2.1.sm (E6.out.2.2.trans e7.symm))); have hsm := same10_any x6 x7 w7 (E6.out.2.1.below b7) o7; rw [decide_eq_true (E6.out.2.2.trans e7.symm)] at hsm; have HS7 := Lib.hid hsm; clear hsm o7 e7 b7 HU6 E6 k0 k1 k2 k3)
        | (go_at_call 13; (with_reducible refine HS7.out.mono ?_); rintro e w8 ⟨rfl, hn8⟩; have b8 := below_drawn hn8; have B8 := Lib.hid (B7.out.trans (lower b8 B7.out.size)); have HSP := Lib.hid (spoil_any x6 w8 wc.heap.size (E7.out.1.below b8) E7.out.2.1 B8.out.size); have HRG := Lib.hid (blksL_rng (E7.out.1.below b8) (E7.out.1.below b8).lt); clear hn8 b8 HS7)
        | (go_at_call 19; (with_reducible refine HSP.out.mono ?_); rintro e w9 ⟨rfl, hf9⟩; have B9 := Lib.hid (B8.out.trans (hf9.below B8.out.size fun s hs => (HRG.out s hs).1)); obtain ⟨kc, kd⟩ := HK.out w9 B9.out; obtain ⟨k0, k1⟩ := kc.cells; have HBK := Lib.hid (back_any x4 x5 w9 (HL.out w9 B9.out).2.1 (HL.out w9 B9.out).2.2.1); clear kc kd hf9 HSP HRG)
        | (go_at_call 28; (with_reducible refine HBK.out.mono ?_); rintro e w10 ⟨x10, y10, rfl, q10, o10, _, p10, e10, f10, b10⟩; have B10 := Lib.hid (B9.out.trans (lower b10 B9.out.size)); have E10 := Lib.hid (And.intro q10 (And.intro o10 (And.intro p10 (And.intro e10 (And.intro f10 b10.size))))); clear q10 o10 p10 e10 f10 b10 HBK k0 k1))
      have hb11 : Below w10.heap.size w10 (w10.alloc (.cells #[.slice x10.A x10.ts.length x10.c, .slice y10.A y10.ts.length y10.c] 35)) := (Below.refl _ _).alloc (Nat.le_refl _) _
      have hx11 := BoxD.new w10 x10 y10
      generalize w10.alloc (.cells #[.slice x10.A x10.ts.length x10.c, .slice y10.A y10.ts.length y10.c] 35) = w11 at hb11 hx11 ⊢
      have B11 := Lib.hid (B10.out.trans (lower hb11 B10.out.size))
      have HL11 := HL.out w11 B11.out
      have hs1 := same10_any x10 d w11 (E10.out.2.1.below hb11) HL11.2.2.2.2.2
      have hs2 := fun n => same10_any y10 a (w11.drewN n) ((E10.out.2.2.1.below hb11).drewN n) (HL11.2.2.2.2.1.drewN n)
      rw [decide_eq_true (E10.out.2.2.2.1.trans HE.out.2.2)] at hs1
      rw [decide_eq_true (E10.out.2.2.2.2.1.trans HE.out.2.1)] at hs2
      have q11 := E10.out.1.below hb11
      have HS1 := Lib.hid hs1
      have HS2 := Lib.hid hs2
      have HBX := Lib.hid hx11
      have HQ := Lib.hid (And.intro q11 (And.intro E10.out.2.1.sm (And.intro E10.out.2.2.2.2.2 (And.intro hb11.size B9.out.size))))
      obtain ⟨k0, k1⟩ := hx11.cells
      obtain ⟨kc, kd⟩ := HK.out w11 B11.out
      obtain ⟨k2, k3⟩ := kd.cells
      clear kc kd hs1 hs2 q11 hx11 hb11 HL11 E10 B10 B6 B7 B8
      go_upto_region 12 with (first
        | (go_at_call 13; (with_reducible refine HS1.out.mono ?_); rintro e w12 ⟨rfl, n12, rfl⟩; have HS2' := Lib.hid (HS2.out n12); clear HS1 HS2)
        | (go_at_call 13; (with_reducible refine HS2'.out.mono ?_); rintro e w13 ⟨rfl, n13, rfl⟩; clear HS2'))
      have b13 := below_draws (Below.refl w11.heap.size w11) (n12 + n13)
      generalize w11.drewN (n12 + n13) = w13 at b13 ⊢
      have hq13 := HQ.out.1.below b13
      have B13 := Lib.hid (B11.out.trans (lower b13 B11.out.size))
      obtain ⟨j0, j1⟩ := (HBX.out.kept b13).cells
      have hz13 : w9.heap.size ≤ w13.heap.size := by have := HQ.out; have := b13.size; omega
      have HSP := Lib.hid (spoil_any x10 w13 w9.heap.size hq13 HQ.out.2.1 hz13)
      have HRG := Lib.hid (And.intro (blksL_rng hq13 hq13.lt) (And.intro hz13 HQ.out.2.2.2.2))
      have HSZ := Lib.hid fun w (h : Below wc.heap.size wc w) => And.intro (same10_any x3 s w (HL.out w h).1 (HL.out w h).2.2.2.1) (fun n => sameD_any x4 x5 a d (w.drewN n) ((HL.out w h).2.1.drewN n) ((HL.out w h).2.2.1.drewN n) ((HL.out w h).2.2.2.2.1.drewN n) ((HL.out w h).2.2.2.2.2.drewN n))
      have ht1 : decide (tus x3.ts = tus s.ts) = true := decide_eq_true HE.out.1
      have ht2 : decide (tus x4.ts = tus a.ts ∧ tus x5.ts = tus d.ts) = true := decide_eq_true HE.out.2
      rw [ht1, ht2] at HSZ
      clear ht1 ht2 b13 hq13 hz13 HQ HBX k0 k1 k2 k3 HL
      go_wp2_with (first
        | (go_at_call 19; (with_reducible refine HSP.out.mono ?_); rintro e w14 ⟨rfl, hf14⟩; have B14 := Lib.hid (B13.out.trans (hf14.below B13.out.size fun s hs => Nat.le_trans HRG.out.2.2 (HRG.out.1 s hs).1)); obtain ⟨kc, kd⟩ := HK.out w14 B14.out; obtain ⟨i0, i1⟩ := kc.cells; obtain ⟨i2, i3⟩ := kd.cells; have HSA := Lib.hid (HSZ.out w14 B14.out).1; have HSB := Lib.hid (HSZ.out w14 B14.out).2; clear kc kd hf14 HSP HRG j0 j1)
        | (go_at_call 13; (with_reducible refine HSA.out.mono ?_); rintro e w15 ⟨rfl, n15, rfl⟩; have HSC := Lib.hid (HSB.out n15); clear HSA)
        | (go_at_call 24; (with_reducible refine HSC.out.mono ?_); rintro e w16 ⟨rfl, b16⟩; have B16 := Lib.hid (B14.out.trans (lower (belN b16) B14.out.size)); clear b16 HSC))
      go_ret
      exact ⟨rfl, HZ.out.trans (lower B16.out HZ.out.size)⟩
end Go.Proofs.Ytpfkkmfhafejfaa
