/- Apply. -/
import Derived.Test.YtpfkkmfhafejfaaTupH
namespace Go.Proofs.Ytpfkkmfhafejfaa
open Go.RowKit Go.Maps

/-- What Apply answers. -/
def ApPost (w : World) (p : Int × List Tu) (e : Ending) (w' : World) : Prop :=
  ∃ x : LV, e = .returned (.tuple #[.slice x.A x.ts.length x.c, .int .i64 p.1]) ∧ OwnL w' w.heap.size x.val x.ts ∧ x.Ok w' ∧ tus x.ts = p.2 ∧ Below w.heap.size w w'
theorem three_lists (w : World) (a b c : LV) : Rd (w.alloc (.cells #[.slice a.A a.ts.length a.c, .slice b.A b.ts.length b.c, .slice c.A c.ts.length c.c] 22)) (w.alloc (.cells #[.slice a.A a.ts.length a.c, .slice b.A b.ts.length b.c, .slice c.A c.ts.length c.c] 22)).heap.size (some ⟨w.heap.size, 0, none⟩) ([a, b, c].map LV.val) := by
  have := Rd.new w #[.slice a.A a.ts.length a.c, .slice b.A b.ts.length b.c, .slice c.A c.ts.length c.c] 22 (0, 0)
  rw [alloc1_size]
  exact this
/-- What rise is told of three lists. -/
theorem rise_three (a b c : LV) (w W : World) (ha : a.Ok w) (hb : b.Ok w) (hc : c.Ok w) (h : Below w.heap.size w W) (R : Bool) (hR : (risB (tus a.ts) && (risB (tus b.ts) && risB (tus c.ts))) = R) :
    Calls Try.prog 38 #[.slice (some ⟨W.heap.size, 0, none⟩) 3 3] (W.alloc (.cells #[.slice a.A a.ts.length a.c, .slice b.A b.ts.length b.c, .slice c.A c.ts.length c.c] 22)) fun e w' => e = .returned (.bool R) ∧ Below W.heap.size W w' := by
  have hb2 : Below W.heap.size W (W.alloc (.cells #[.slice a.A a.ts.length a.c, .slice b.A b.ts.length b.c, .slice c.A c.ts.length c.c] 22)) := (Below.refl _ _).alloc (Nat.le_refl _) _
  have hrise : Calls Try.prog 38 #[.slice (some ⟨W.heap.size, 0, none⟩) 3 3] _ _ := rise_any (some ⟨W.heap.size, 0, none⟩) 3 [a, b, c] _ (three_lists W a b c) (by simp) (by simp) (fun x hx => by
    rcases List.mem_cons.1 hx with rfl | hx
    · exact (ha.below h).below hb2
    · rcases List.mem_cons.1 hx with rfl | hx
      · exact (hb.below h).below hb2
      · rw [List.mem_singleton.1 hx]; exact (hc.below h).below hb2)
  have hall : ([a, b, c].all fun x => risB (tus x.ts)) = R := by
    simp only [List.all_cons, List.all_nil, Bool.and_true]
    exact hR
  rw [hall] at hrise
  refine hrise.mono ?_
  rintro e w' ⟨rfl, n, rfl⟩
  exact ⟨rfl, below_draws hb2 n⟩
theorem ap_err {w w' : World} {n : Int} (h : Below w.heap.size w w') : ApPost w (n, []) (.returned (.tuple #[.slice none 0 0, .int .i64 n])) w' := ⟨nilL, rfl, nil_own _ _, nil_ok _, rfl, h⟩
set_option maxRecDepth 100000 in
set_option maxHeartbeats 2000000 in
theorem apply_a (s a d : LV) (w : World) (hs : s.Ok w) (ha : a.Ok w) (hd : d.Ok w) (hn : ¬ (Ris (tus s.ts) ∧ Ris (tus a.ts) ∧ Ris (tus d.ts))) :
    Calls Try.prog 26 #[.slice s.A s.ts.length s.c, .agg #[.slice a.A a.ts.length a.c, .slice d.A d.ts.length d.c]] w (ApPost w (1, [])) := by
  have hb1 : Below w.heap.size w (w.alloc (.cells #[.slice a.A a.ts.length a.c, .slice d.A d.ts.length d.c] 35)) := (Below.refl _ _).alloc (Nat.le_refl _) _
  have hg1 := heap_alloc_new w (.cells #[.slice a.A a.ts.length a.c, .slice d.A d.ts.length d.c] 35)
  have hrise := rise_three s a d w _ hs ha hd hb1 false (by rw [← Bool.not_eq_true, Bool.and_eq_true, Bool.and_eq_true, ris_iff, ris_iff, ris_iff]; exact hn)
  have HR := Lib.hid hrise
  have HG := Lib.hid (And.intro hg1 hb1)
  clear hrise hb1 hg1 hs ha hd hn
  go_enter Try.func26, Try.ntmps26
  go_upto_region 1 with (fail)
  generalize w.alloc (.cells #[.slice a.A a.ts.length a.c, .slice d.A d.ts.length d.c] 35) = W1 at HR HG ⊢
  have k0 := cell_of_row W1 w.heap.size 0 _ _ _ HG.out.1
  have k1 := cell_of_row W1 w.heap.size 1 _ _ _ HG.out.1
  go_wp2_with (go_at_call 38; (with_reducible refine HR.out.mono ?_); rintro e w2 ⟨rfl, hb2⟩; have B2 := Lib.hid (HG.out.2.trans (lower hb2 HG.out.2.size)); have g2 := (hb2.block _ (heap_lt HG.out.1)).trans HG.out.1; have k20 := cell_of_row w2 w.heap.size 0 _ _ _ g2; have k21 := cell_of_row w2 w.heap.size 1 _ _ _ g2; have G2 := Lib.hid g2; skip; clear hb2 g2 HG HR k0 k1)
  go_ret2
  exact ap_err B2.out
set_option maxRecDepth 100000 in
set_option maxHeartbeats 2000000 in
theorem apply_b (s a d : LV) (w : World) (hs : s.Ok w) (ha : a.Ok w) (hd : d.Ok w) (rs : Ris (tus s.ts)) (ra : Ris (tus a.ts)) (rd : Ris (tus d.ts)) (hm : meetL (tus a.ts) (tus s.ts) = true) :
    Calls Try.prog 26 #[.slice s.A s.ts.length s.c, .agg #[.slice a.A a.ts.length a.c, .slice d.A d.ts.length d.c]] w (ApPost w (2, [])) := by
  have hb1 : Below w.heap.size w (w.alloc (.cells #[.slice a.A a.ts.length a.c, .slice d.A d.ts.length d.c] 35)) := (Below.refl _ _).alloc (Nat.le_refl _) _
  have hg1 := heap_alloc_new w (.cells #[.slice a.A a.ts.length a.c, .slice d.A d.ts.length d.c] 35)
  have hrise := rise_three s a d w _ hs ha hd hb1 true (by rw [Bool.and_eq_true, Bool.and_eq_true, ris_iff, ris_iff, ris_iff]; exact ⟨rs, ra, rd⟩)
  have HR := Lib.hid hrise
  have HG := Lib.hid (And.intro hg1 hb1)
  have HM := Lib.hid fun W (h : Below w.heap.size w W) => meet_any a s W (ha.below h) (hs.below h) ra rs
  rw [hm] at HM
  clear hrise hb1 hg1 hs ha hd hm rs ra rd
  go_enter Try.func26, Try.ntmps26
  go_upto_region 1 with (fail)
  generalize w.alloc (.cells #[.slice a.A a.ts.length a.c, .slice d.A d.ts.length d.c] 35) = W1 at HR HG ⊢
  have k0 := cell_of_row W1 w.heap.size 0 _ _ _ HG.out.1
  have k1 := cell_of_row W1 w.heap.size 1 _ _ _ HG.out.1
  go_wp2_with (first
    | (go_at_call 38; (with_reducible refine HR.out.mono ?_); rintro e w2 ⟨rfl, hb2⟩; have B2 := Lib.hid (HG.out.2.trans (lower hb2 HG.out.2.size)); have g2 := (hb2.block _ (heap_lt HG.out.1)).trans HG.out.1; have k20 := cell_of_row w2 w.heap.size 0 _ _ _ g2; have k21 := cell_of_row w2 w.heap.size 1 _ _ _ g2; have G2 := Lib.hid g2; have HM2 := Lib.hid (HM.out w2 B2.out); clear hb2 g2 HG HR k0 k1)
    | (go_at_call 41; (with_reducible refine HM2.out.mono ?_); rintro e w3 ⟨rfl, hb3⟩; have B3 := Lib.hid (B2.out.trans (lower hb3 B2.out.size)); have g3 := (hb3.block _ (heap_lt G2.out)).trans G2.out; have k30 := cell_of_row w3 w.heap.size 0 _ _ _ g3; have k31 := cell_of_row w3 w.heap.size 1 _ _ _ g3; have G3 := Lib.hid g3; skip; clear hb3 g3 HM2 k20 k21))
  go_ret2
  exact ap_err B3.out
set_option maxRecDepth 100000 in
set_option maxHeartbeats 2000000 in
theorem apply_c (s a d : LV) (w : World) (hs : s.Ok w) (ha : a.Ok w) (hd : d.Ok w) (rs : Ris (tus s.ts)) (ra : Ris (tus a.ts)) (rd : Ris (tus d.ts)) (hm : meetL (tus a.ts) (tus s.ts) = false) (hl : 0 < (woL (tus d.ts) (tus s.ts)).length) :
    Calls Try.prog 26 #[.slice s.A s.ts.length s.c, .agg #[.slice a.A a.ts.length a.c, .slice d.A d.ts.length d.c]] w (ApPost w (4, [])) := by
  have hb1 : Below w.heap.size w (w.alloc (.cells #[.slice a.A a.ts.length a.c, .slice d.A d.ts.length d.c] 35)) := (Below.refl _ _).alloc (Nat.le_refl _) _
  have hg1 := heap_alloc_new w (.cells #[.slice a.A a.ts.length a.c, .slice d.A d.ts.length d.c] 35)
  have hrise := rise_three s a d w _ hs ha hd hb1 true (by rw [Bool.and_eq_true, Bool.and_eq_true, ris_iff, ris_iff, ris_iff]; exact ⟨rs, ra, rd⟩)
  have HR := Lib.hid hrise
  have HG := Lib.hid (And.intro hg1 hb1)
  have HM := Lib.hid fun W (h : Below w.heap.size w W) => meet_any a s W (ha.below h) (hs.below h) ra rs
  have HWD := Lib.hid fun W (h : Below w.heap.size w W) => without_l d s W (hd.below h) (hs.below h) rd rs
  rw [hm] at HM
  have HL := Lib.hid hl
  clear hrise hb1 hg1 hs ha hd hm rs ra rd hl
  go_enter Try.func26, Try.ntmps26
  go_upto_region 1 with (fail)
  generalize w.alloc (.cells #[.slice a.A a.ts.length a.c, .slice d.A d.ts.length d.c] 35) = W1 at HR HG ⊢
  have k0 := cell_of_row W1 w.heap.size 0 _ _ _ HG.out.1
  have k1 := cell_of_row W1 w.heap.size 1 _ _ _ HG.out.1
  go_wp2_with (first
    | (go_at_call 38; (with_reducible refine HR.out.mono ?_); rintro e w2 ⟨rfl, hb2⟩; have B2 := Lib.hid (HG.out.2.trans (lower hb2 HG.out.2.size)); have g2 := (hb2.block _ (heap_lt HG.out.1)).trans HG.out.1; have k20 := cell_of_row w2 w.heap.size 0 _ _ _ g2; have k21 := cell_of_row w2 w.heap.size 1 _ _ _ g2; have G2 := Lib.hid g2; have HM2 := Lib.hid (HM.out w2 B2.out); clear hb2 g2 HG HR k0 k1)
    | (go_at_call 41; (with_reducible refine HM2.out.mono ?_); rintro e w3 ⟨rfl, hb3⟩; have B3 := Lib.hid (B2.out.trans (lower hb3 B2.out.size)); have g3 := (hb3.block _ (heap_lt G2.out)).trans G2.out; have k30 := cell_of_row w3 w.heap.size 0 _ _ _ g3; have k31 := cell_of_row w3 w.heap.size 1 _ _ _ g3; have G3 := Lib.hid g3; have HW3 := Lib.hid (HWD.out w3 B3.out); clear hb3 g3 HM2 k20 k21)
    | (go_at_call 39; (with_reducible refine HW3.out.mono ?_); rintro e w4 ⟨x4, rfl, o4, e4, hb4⟩; obtain ⟨n4, hn4⟩ : ∃ n, n = x4.ts.length := ⟨_, rfl⟩; rw [← hn4]; have B4 := Lib.hid (B3.out.trans (lower hb4 B3.out.size)); have g4 := (hb4.block _ (heap_lt G3.out)).trans G3.out; have k40 := cell_of_row w4 w.heap.size 0 _ _ _ g4; have k41 := cell_of_row w4 w.heap.size 1 _ _ _ g4; have G4 := Lib.hid g4; have hlen := congrArg List.length e4; rw [tus_len, ← hn4] at hlen; have hpos : (0 : Int) < (n4 : Int) := (by have := HL.out; omega); clear hb4 g4 HW3 k30 k31 e4 o4 hn4 hlen))
  go_ret2
  exact ap_err B4.out
set_option maxRecDepth 100000 in
set_option maxHeartbeats 2000000 in
theorem apply_d (s a d : LV) (w : World) (hs : s.Ok w) (ha : a.Ok w) (hd : d.Ok w) (rs : Ris (tus s.ts)) (ra : Ris (tus a.ts)) (rd : Ris (tus d.ts)) (hm : meetL (tus a.ts) (tus s.ts) = false) (hl : (woL (tus d.ts) (tus s.ts)).length = 0) (h2 : s.ts.length + a.ts.length ≤ 1000) :
    Calls Try.prog 26 #[.slice s.A s.ts.length s.c, .agg #[.slice a.A a.ts.length a.c, .slice d.A d.ts.length d.c]] w (ApPost w (0, setL (woL (tus s.ts) (tus d.ts) ++ tus a.ts))) := by
  have hb1 : Below w.heap.size w (w.alloc (.cells #[.slice a.A a.ts.length a.c, .slice d.A d.ts.length d.c] 35)) := (Below.refl _ _).alloc (Nat.le_refl _) _
  have hg1 := heap_alloc_new w (.cells #[.slice a.A a.ts.length a.c, .slice d.A d.ts.length d.c] 35)
  have hrise := rise_three s a d w _ hs ha hd hb1 true (by rw [Bool.and_eq_true, Bool.and_eq_true, ris_iff, ris_iff, ris_iff]; exact ⟨rs, ra, rd⟩)
  have HR := Lib.hid hrise
  have HG := Lib.hid (And.intro hg1 hb1)
  have hset : mrg (woL (tus s.ts) (tus d.ts)) (tus a.ts) = setL (woL (tus s.ts) (tus d.ts) ++ tus a.ts) := (set_mrg (ris_wo _ rs) ra fun t h1 h2 => meet_no.1 hm t h2 (mem_wo.1 h1).1).symm
  have HM := Lib.hid fun W (h : Below w.heap.size w W) => meet_any a s W (ha.below h) (hs.below h) ra rs
  have HWD := Lib.hid fun W (h : Below w.heap.size w W) => without_l d s W (hd.below h) (hs.below h) rd rs
  rw [hm] at HM
  have HWS := Lib.hid fun W (h : Below w.heap.size w W) => without_l s d W (hs.below h) (hd.below h) rs rd
  have HJO := Lib.hid fun (x : LV) W (h : Below w.heap.size w W) (hx : x.Ok W) (e : tus x.ts = woL (tus s.ts) (tus d.ts)) => joined_l x a W hx (ha.below h) (by have e1 := congrArg List.length e; have e2 := wo_len (tus s.ts) (tus d.ts); rw [tus_len] at e1 e2; omega)
  have HL := Lib.hid hl
  have HST := Lib.hid hset
  clear hrise hb1 hg1 hs ha hd hm rs ra rd hl hset
  go_enter Try.func26, Try.ntmps26
  go_upto_region 1 with (fail)
  generalize w.alloc (.cells #[.slice a.A a.ts.length a.c, .slice d.A d.ts.length d.c] 35) = W1 at HR HG ⊢
  have k0 := cell_of_row W1 w.heap.size 0 _ _ _ HG.out.1
  have k1 := cell_of_row W1 w.heap.size 1 _ _ _ HG.out.1
  go_wp2_with (first
    | (go_at_call 38; (with_reducible refine HR.out.mono ?_); rintro e w2 ⟨rfl, hb2⟩; have B2 := Lib.hid (HG.out.2.trans (lower hb2 HG.out.2.size)); have g2 := (hb2.block _ (heap_lt HG.out.1)).trans HG.out.1; have k20 := cell_of_row w2 w.heap.size 0 _ _ _ g2; have k21 := cell_of_row w2 w.heap.size 1 _ _ _ g2; have G2 := Lib.hid g2; have HM2 := Lib.hid (HM.out w2 B2.out); clear hb2 g2 HG HR k0 k1)
    | (go_at_call 41; (with_reducible refine HM2.out.mono ?_); rintro e w3 ⟨rfl, hb3⟩; have B3 := Lib.hid (B2.out.trans (lower hb3 B2.out.size)); have g3 := (hb3.block _ (heap_lt G2.out)).trans G2.out; have k30 := cell_of_row w3 w.heap.size 0 _ _ _ g3; have k31 := cell_of_row w3 w.heap.size 1 _ _ _ g3; have G3 := Lib.hid g3; have HW3 := Lib.hid (HWD.out w3 B3.out); clear hb3 g3 HM2 k20 k21)
    | (go_at_call 39; (with_reducible refine HW3.out.mono ?_); rintro e w4 ⟨x4, rfl, o4, e4, hb4⟩; obtain ⟨n4, hn4⟩ : ∃ n, n = x4.ts.length := ⟨_, rfl⟩; rw [← hn4]; have B4 := Lib.hid (B3.out.trans (lower hb4 B3.out.size)); have g4 := (hb4.block _ (heap_lt G3.out)).trans G3.out; have k40 := cell_of_row w4 w.heap.size 0 _ _ _ g4; have k41 := cell_of_row w4 w.heap.size 1 _ _ _ g4; have G4 := Lib.hid g4; have hlen := congrArg List.length e4; rw [tus_len, ← hn4] at hlen; have hz4 : n4 = 0 := hlen.trans HL.out; subst hz4; clear hn4 hlen; have KS := Lib.hid fun W (h : Below w4.heap.size w4 W) => And.intro (cell_of_row W w.heap.size 0 _ _ _ ((h.block _ (heap_lt G4.out)).trans G4.out)) (cell_of_row W w.heap.size 1 _ _ _ ((h.block _ (heap_lt G4.out)).trans G4.out)); have HW5 := Lib.hid (HWS.out w4.drew B4.out.drew); clear hb4 g4 HW3 k30 k31 e4 o4))
  have k5 := KS.out w4.drew (Below.refl _ _).drew
  go_region_held3 (fun W => W.cell? ⟨w.heap.size, 0, none⟩ = some (.slice a.A a.ts.length a.c) ∧ W.cell? ⟨w.heap.size, 1, none⟩ = some (.slice d.A d.ts.length d.c))
    (first | with_reducible assumption | exact KS.out _ B7.out | exact KS.out _ B6.out | exact KS.out _ B5.out | exact KS.out _ (Below.refl _ _).drew)
    (first
      | (go_at_call 39; (with_reducible refine HW5.out.mono ?_); rintro e w5 ⟨x5, rfl, o5, e5, b5⟩; have B5 := Lib.hid ((Below.refl _ w4).drew.trans (b5 : Below w4.heap.size _ _)); have E5 := Lib.hid e5; have HJ := Lib.hid (HJO.out x5 w5 (B4.out.trans (lower B5.out B4.out.size)) o5 e5); clear o5 e5 b5 HW5)
      | (go_at_call 42; (with_reducible refine HJ.out.mono ?_); rintro e w6 ⟨x6, rfl, o6, e6, b6⟩; have B6 := Lib.hid (B5.out.trans (lower b6 B5.out.size)); have E6 := Lib.hid e6; have HC6 := Lib.hid (copied_l x6 w6 o6); clear o6 e6 b6 HJ)
      | (go_at_call 31; (with_reducible refine HC6.out.mono ?_); rintro e w7 ⟨x7, rfl, p7, o7, e7, b7⟩; have L7 := Lib.hid b7; have B7 := Lib.hid (B6.out.trans (lower b7 B6.out.size)); have E7 := Lib.hid (And.intro p7 (And.intro o7 e7)); clear p7 o7 e7 b7 HC6))
  all_goals
    go_wp2_with (fail)
    go_ret2
    exact ⟨x7, rfl, E7.out.1.mono (Nat.le_trans B4.out.size B6.out.size), E7.out.2.1, by rw [E7.out.2.2, E6.out, E5.out, HST.out], B4.out.trans (lower B7.out B4.out.size)⟩
/-- Apply. -/
theorem apply_any (s a d : LV) (w : World) (hs : s.Ok w) (ha : a.Ok w) (hd : d.Ok w) (h2 : s.ts.length + a.ts.length ≤ 1000) :
    Calls Try.prog 26 #[.slice s.A s.ts.length s.c, .agg #[.slice a.A a.ts.length a.c, .slice d.A d.ts.length d.c]] w (ApPost w (applyP (tus s.ts) (tus a.ts) (tus d.ts))) := by
  unfold applyP
  by_cases h : (risB (tus s.ts) && (risB (tus a.ts) && risB (tus d.ts))) = true
  · rw [if_pos h]
    rw [Bool.and_eq_true, Bool.and_eq_true, ris_iff, ris_iff, ris_iff] at h
    by_cases hm : meetL (tus a.ts) (tus s.ts) = true
    · rw [if_pos hm]
      exact apply_b s a d w hs ha hd h.1 h.2.1 h.2.2 hm
    · rw [if_neg hm]
      rw [Bool.not_eq_true] at hm
      by_cases hl : 0 < (woL (tus d.ts) (tus s.ts)).length
      · rw [if_pos hl]
        exact apply_c s a d w hs ha hd h.1 h.2.1 h.2.2 hm hl
      · rw [if_neg hl]
        exact apply_d s a d w hs ha hd h.1 h.2.1 h.2.2 hm (by omega) h2
  · rw [if_neg h]
    rw [Bool.and_eq_true, Bool.and_eq_true, ris_iff, ris_iff, ris_iff] at h
    exact apply_a s a d w hs ha hd h
end Go.Proofs.Ytpfkkmfhafejfaa
