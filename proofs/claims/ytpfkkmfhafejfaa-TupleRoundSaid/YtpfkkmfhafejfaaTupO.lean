/- The document's Diff, Apply, Then. -/
import Derived.Test.YtpfkkmfhafejfaaTupN
import Derived.Test.YtpfkkmfhafejfaaTupJ
namespace Go.Proofs.Ytpfkkmfhafejfaa
open Go.RowKit Go.Maps

/-- What the document's Diff and Then answer. -/
def RdPost (w : World) (p : Int × List Tu × List Tu) (e : Ending) (w' : World) : Prop :=
  ∃ (x y : LV), e = .returned (.tuple #[.agg #[.slice x.A x.ts.length x.c, .slice y.A y.ts.length y.c], .int .i64 p.1]) ∧ x.Ok w' ∧ y.Ok w' ∧ tus x.ts = p.2.1 ∧ tus y.ts = p.2.2 ∧ Below w.heap.size w w'
/-- What the document's Apply answers. -/
def RaPost (w : World) (p : Int × List Tu) (e : Ending) (w' : World) : Prop :=
  ∃ x : LV, e = .returned (.tuple #[.slice x.A x.ts.length x.c, .int .i64 p.1]) ∧ x.Ok w' ∧ tus x.ts = p.2 ∧ Below w.heap.size w w'
theorem rd_err {w w' : World} {n : Int} (h : Below w.heap.size w w') : RdPost w (n, [], []) (.returned (.tuple #[.agg #[.slice none 0 0, .slice none 0 0], .int .i64 n])) w' := ⟨nilL, nilL, rfl, nil_ok _, nil_ok _, rfl, rfl, h⟩
theorem ra_err {w w' : World} {n : Int} (h : Below w.heap.size w w') : RaPost w (n, []) (.returned (.tuple #[.slice none 0 0, .int .i64 n])) w' := ⟨nilL, rfl, nil_ok _, rfl, h⟩
theorem rrises_b (x : LV) (w : World) (h : x.Ok w) (R : Bool) (hR : risB (tus x.ts) = R) : Calls Try.prog 16 #[.slice x.A x.ts.length x.c] w fun e w' => e = .returned (.bool R) ∧ Below w.heap.size w w' := by
  rw [← hR]
  exact (rrises_any x w h).mono fun _ _ h => ⟨h.1, below_drawn h.2⟩
theorem resRDiff {w : World} {b : Nat} {v0 v1 : Value} (h : w.heap[b]? = some (.cells #[v0, v1] 35 (0, 0))) (tmps : Array Value) (h2 : tmps.getD 4 undef = .pointer (some ⟨b, 0, none⟩)) :
    (results Try.f23 tmps).run Try.prog w = .ok (.tuple #[.agg #[v0, v1], tmps.getD 5 undef]) w := by
  have e0 : w.cell? ⟨b, 0, none⟩ = some v0 := cell_of_row w b 0 _ _ _ h
  have e1 : w.cell? ⟨b, 1, none⟩ = some v1 := cell_of_row w b 1 _ _ _ h
  have h2' := h2
  simp only [Array.getD_eq_getD_getElem?] at h2'
  simp [results, Try.results23, go_sem, h2', e0, e1]
theorem resRThen {w : World} {b : Nat} {v0 v1 : Value} (h : w.heap[b]? = some (.cells #[v0, v1] 35 (0, 0))) (tmps : Array Value) (h2 : tmps.getD 4 undef = .pointer (some ⟨b, 0, none⟩)) :
    (results Try.f30 tmps).run Try.prog w = .ok (.tuple #[.agg #[v0, v1], tmps.getD 5 undef]) w := by
  have e0 : w.cell? ⟨b, 0, none⟩ = some v0 := cell_of_row w b 0 _ _ _ h
  have e1 : w.cell? ⟨b, 1, none⟩ = some v1 := cell_of_row w b 1 _ _ _ h
  have h2' := h2
  simp only [Array.getD_eq_getD_getElem?] at h2'
  simp [results, Try.results30, go_sem, h2', e0, e1]
/-- A row of the call's own, of tuples out of elder lists, is answered. -/
def WoQ (w : World) (args : List TV) (R : List Tu) (e : Ending) (w' : World) : Prop :=
  ∃ x : LV, e = .returned (.slice x.A x.ts.length x.c) ∧ OwnT w' w.heap.size x.val x.ts ∧ (∀ t ∈ x.ts, t ∈ args) ∧ x.ts.length ≤ 1000 ∧ tus x.ts = R ∧ Below w.heap.size w w'
/-- It reads as a list wherever its tuples still do. -/
theorem lv_end {w0 w' : World} {x : LV} {lo : Nat} {args : List TV} (ho : OwnT w' lo x.val x.ts) (hm : ∀ t ∈ x.ts, t ∈ args) (hs : x.ts.length ≤ 1000) (ha : ∀ t ∈ args, t.Ok w0) (hb : Below w0.heap.size w0 w') : x.Ok w' := by
  obtain ⟨A, c, e, hL⟩ := ho.lst (fun t ht => (ha t (hm t ht)).below hb) hs
  unfold LV.val at e
  injection e with e1 e2 e3
  unfold LV.Ok
  rw [e1, e3]
  exact hL
theorem rwithout_q (a b : LV) (w : World) (ha : a.Ok w) (hb : b.Ok w) :
    Calls Try.prog 40 #[.slice a.A a.ts.length a.c, .slice b.A b.ts.length b.c] w (WoQ w a.ts (woL (tus a.ts) (tus b.ts))) := by
  refine (rwithout_any a b w ha hb).mono ?_
  rintro e w' ⟨v, O, rfl, h1, h2, h3, h4⟩
  have hl : O.length ≤ 1000 := by
    have e1 := congrArg List.length h2
    have e2 := wo_len (tus a.ts) (tus b.ts)
    have e3 := ha.sm
    rw [tus_len] at e1 e2
    omega
  obtain ⟨A, c, rfl, _, _⟩ := h1.shape
  exact ⟨⟨A, O, c⟩, rfl, h1, h3, hl, h2, h4⟩
set_option maxRecDepth 100000 in
set_option maxHeartbeats 2000000 in
/-- both, with whose tuples they are. -/
theorem rboth_q (a b : LV) (w : World) (ha : a.Ok w) (hb : b.Ok w) (hs : a.ts.length + b.ts.length ≤ 1000) :
    Calls Try.prog 44 #[.slice a.A a.ts.length a.c, .slice b.A b.ts.length b.c] w (WoQ w (a.ts ++ b.ts) (setL (tus a.ts ++ tus b.ts))) := by
  have h0 : OwnT (w.alloc (.cells #[] 24)) w.heap.size (.slice (some ⟨w.heap.size, 0, none⟩) 0 0) [] := own_lit0 w (Nat.le_refl _)
  have hb1 : Below w.heap.size w (w.alloc (.cells #[] 24)) := (Below.refl _ _).alloc (Nat.le_refl _) _
  obtain ⟨na, hna⟩ : ∃ n, n = a.ts.length := ⟨_, rfl⟩
  obtain ⟨nb, hnb⟩ : ∃ n, n = b.ts.length := ⟨_, rfl⟩
  obtain ⟨W1, hW1⟩ : ∃ W1, W1 = w.alloc (.cells #[] 24) := ⟨_, rfl⟩
  rw [← hW1] at h0 hb1
  obtain ⟨v2, w2, hr2, ho2, hb2⟩ := run_appT W1 w.heap.size _ [] h0 W1.heap.size a.A a.c a.ts na hna (ha.below hb1).rd (by simp; omega) hb1.size
  rw [List.nil_append] at ho2
  obtain ⟨v3, w3, hr3, ho3, hb3⟩ := run_appT w2 w.heap.size v2 a.ts ho2 w2.heap.size b.A b.c b.ts nb hnb (hb.below (hb1.trans hb2)).rd (by omega) (Nat.le_trans hb1.size hb2.size)
  have hb4 := (hb1.trans hb2).trans hb3
  obtain ⟨A, c, rfl, hL⟩ := ho3.lst (fun t ht => by
    rcases List.mem_append.1 ht with h | h
    · exact (ha.ok t h).below hb4
    · exact (hb.ok t h).below hb4) (by rw [List.length_append]; exact hs)
  have hset : Calls Try.prog 14 #[.slice A (a.ts ++ b.ts).length c] w3 (WoQ w3 (a.ts ++ b.ts) (setL (tus a.ts ++ tus b.ts))) := by
    refine (rset_any ⟨A, a.ts ++ b.ts, c⟩ w3 hL).mono ?_
    rintro e w' ⟨v, O, rfl, h1, h2, h3, h4⟩
    have hl : O.length ≤ 1000 := by
      have e1 := congrArg List.length h2
      have e2 := setL_len (tus (a.ts ++ b.ts))
      have e3 : (a.ts ++ b.ts).length ≤ 1000 := by rw [List.length_append]; exact hs
      rw [tus_len] at e1 e2
      dsimp only at e1
      omega
    obtain ⟨A', c', rfl, _, _⟩ := h1.shape
    exact ⟨⟨A', O, c'⟩, rfl, h1, h3, hl, by rw [h2, tus_app], h4⟩
  obtain ⟨n3, hn3⟩ : ∃ n, n = (a.ts ++ b.ts).length := ⟨_, rfl⟩
  rw [← hn3] at hset hr3
  rw [← hna, ← hnb]
  rw [hW1] at hr2
  have HS := Lib.hid hset
  have HB := Lib.hid hb4
  clear ha hb hs h0 hb1 hna hnb hW1 ho2 hb2 ho3 hb3 hb4 hL hset hn3
  go_enter Try.func44, Try.ntmps44
  go_wp2_with (first
    | (at_builtin; refine wpL_appK _ rfl (.tmp 5) (.tmp 6) 22 rfl rfl _ _ _ _ rfl rfl hr2 ?_)
    | (at_builtin; refine wpL_appK _ rfl (.tmp 7) (.tmp 8) 22 rfl rfl _ _ _ _ rfl rfl hr3 ?_)
    | (go_at_call 14; (with_reducible refine HS.out.mono ?_); rintro e w4 ⟨x4, rfl, o4, m4, l4, e4, b4⟩; have E4 := Lib.hid (And.intro o4 (And.intro m4 (And.intro l4 (And.intro e4 b4)))); clear o4 m4 l4 e4 b4))
  go_ret
  exact ⟨x4, rfl, own_mono E4.out.1 HB.out.size, E4.out.2.1, E4.out.2.2.1, E4.out.2.2.2.1, HB.out.trans (lower E4.out.2.2.2.2 HB.out.size)⟩
theorem OwnT.fr {w w' : World} {lo : Nat} {v : Value} {ts : List TV} {S : List Nat} (h : OwnT w lo v ts) (hf : Fr w w' S) (hS : ∀ s ∈ S, s < lo) : OwnT w' lo v ts :=
  rowFrS h hf fun s hs hm => by have := (World.ownsRow.lt h s (by simpa using hs)).1; have := hS s hm; omega
set_option maxRecDepth 100000 in
set_option maxHeartbeats 2000000 in
theorem rdiff_a (a b : LV) (w : World) (ha : a.Ok w) (hb : b.Ok w) (ra : risB (tus a.ts) = false) :
    Calls Try.prog 23 #[.slice a.A a.ts.length a.c, .slice b.A b.ts.length b.c] w (RdPost w (1, [], [])) := by
  have hb1 : Below w.heap.size w (w.alloc (.cells #[.slice none 0 0, .slice none 0 0] 35)) := (Below.refl _ _).alloc (Nat.le_refl _) _
  have hg1 := heap_alloc_new w (.cells #[.slice none 0 0, .slice none 0 0] 35)
  have HG := Lib.hid (And.intro hg1 hb1)
  have HO := Lib.hid (And.intro ha hb)
  have HR1 := Lib.hid fun W (h : Below w.heap.size w W) => rrises_b a W (ha.below h) false ra
  clear hb1 hg1 ha hb ra
  go_enter Try.func23, Try.ntmps23
  go_upto_region 1 with (fail)
  generalize w.alloc (.cells #[.slice none 0 0, .slice none 0 0] 35) = W1 at HG ⊢
  have HN1 := Lib.hid (HR1.out W1 HG.out.2)
  go_wp2_with (go_at_call 16; (with_reducible refine HN1.out.mono ?_); rintro e w2 ⟨rfl, hb2⟩; have B2 := Lib.hid (HG.out.2.trans (lower hb2 HG.out.2.size)); have G2 := Lib.hid ((hb2.block _ (heap_lt HG.out.1)).trans HG.out.1); have c0 := cell_of_row w2 w.heap.size 0 _ _ _ G2.out; have c1 := cell_of_row w2 w.heap.size 1 _ _ _ G2.out; have f0 := frozen_of_row w2 w.heap.size 0 _ _ G2.out; have f1 := frozen_of_row w2 w.heap.size 1 _ _ G2.out; clear hb2 HN1)
  exact bodyPost_ret (resRDiff (set2 G2.out _ _) _ rfl) rfl (rd_err (below_set2 B2.out (Nat.le_refl _) _ _))
set_option maxRecDepth 100000 in
set_option maxHeartbeats 2000000 in
theorem rdiff_b (a b : LV) (w : World) (ha : a.Ok w) (hb : b.Ok w) (ra : risB (tus a.ts) = true) (rb : risB (tus b.ts) = false) :
    Calls Try.prog 23 #[.slice a.A a.ts.length a.c, .slice b.A b.ts.length b.c] w (RdPost w (1, [], [])) := by
  have hb1 : Below w.heap.size w (w.alloc (.cells #[.slice none 0 0, .slice none 0 0] 35)) := (Below.refl _ _).alloc (Nat.le_refl _) _
  have hg1 := heap_alloc_new w (.cells #[.slice none 0 0, .slice none 0 0] 35)
  have HG := Lib.hid (And.intro hg1 hb1)
  have HO := Lib.hid (And.intro ha hb)
  have HR1 := Lib.hid fun W (h : Below w.heap.size w W) => rrises_b a W (ha.below h) true ra
  have HR2 := Lib.hid fun W (h : Below w.heap.size w W) => rrises_b b W (hb.below h) false rb
  clear hb1 hg1 ha hb ra rb
  go_enter Try.func23, Try.ntmps23
  go_upto_region 1 with (fail)
  generalize w.alloc (.cells #[.slice none 0 0, .slice none 0 0] 35) = W1 at HG ⊢
  have HN1 := Lib.hid (HR1.out W1 HG.out.2)
  go_wp2_with (first
    | (go_at_call 16; (with_reducible refine HN1.out.mono ?_); rintro e w2 ⟨rfl, hb2⟩; have B2 := Lib.hid (HG.out.2.trans (lower hb2 HG.out.2.size)); have G2 := Lib.hid ((hb2.block _ (heap_lt HG.out.1)).trans HG.out.1); have HN2 := Lib.hid (HR2.out w2 B2.out); clear hb2 HN1)
    | (go_at_call 16; (with_reducible refine HN2.out.mono ?_); rintro e w3 ⟨rfl, hb3⟩; have B3 := Lib.hid (B2.out.trans (lower hb3 B2.out.size)); have G3 := Lib.hid ((hb3.block _ (heap_lt G2.out)).trans G2.out); have c0 := cell_of_row w3 w.heap.size 0 _ _ _ G3.out; have c1 := cell_of_row w3 w.heap.size 1 _ _ _ G3.out; have f0 := frozen_of_row w3 w.heap.size 0 _ _ G3.out; have f1 := frozen_of_row w3 w.heap.size 1 _ _ G3.out; clear hb3 HN2))
  exact bodyPost_ret (resRDiff (set2 G3.out _ _) _ rfl) rfl (rd_err (below_set2 B3.out (Nat.le_refl _) _ _))
set_option maxRecDepth 100000 in
set_option maxHeartbeats 2000000 in
theorem rdiff_c (a b : LV) (w : World) (ha : a.Ok w) (hb : b.Ok w) (ra : risB (tus a.ts) = true) (rb : risB (tus b.ts) = true) :
    Calls Try.prog 23 #[.slice a.A a.ts.length a.c, .slice b.A b.ts.length b.c] w (RdPost w (0, woL (tus b.ts) (tus a.ts), woL (tus a.ts) (tus b.ts))) := by
  have hb1 : Below w.heap.size w (w.alloc (.cells #[.slice none 0 0, .slice none 0 0] 35)) := (Below.refl _ _).alloc (Nat.le_refl _) _
  have hg1 := heap_alloc_new w (.cells #[.slice none 0 0, .slice none 0 0] 35)
  have HG := Lib.hid (And.intro hg1 hb1)
  have HO := Lib.hid (And.intro ha hb)
  have HR1 := Lib.hid fun W (h : Below w.heap.size w W) => rrises_b a W (ha.below h) true ra
  have HR2 := Lib.hid fun W (h : Below w.heap.size w W) => rrises_b b W (hb.below h) true rb
  have HWA := Lib.hid fun W (h : Below w.heap.size w W) => rwithout_q b a W (hb.below h) (ha.below h)
  have HWB := Lib.hid fun W (h : Below w.heap.size w W) => rwithout_q a b W (ha.below h) (hb.below h)
  clear hb1 hg1 ha hb ra rb
  go_enter Try.func23, Try.ntmps23
  go_upto_region 1 with (fail)
  generalize w.alloc (.cells #[.slice none 0 0, .slice none 0 0] 35) = W1 at HG ⊢
  have HN1 := Lib.hid (HR1.out W1 HG.out.2)
  go_wp2_with (first
    | (go_at_call 16; (with_reducible refine HN1.out.mono ?_); rintro e w2 ⟨rfl, hb2⟩; have B2 := Lib.hid (HG.out.2.trans (lower hb2 HG.out.2.size)); have G2 := Lib.hid ((hb2.block _ (heap_lt HG.out.1)).trans HG.out.1); have HN2 := Lib.hid (HR2.out w2 B2.out); clear hb2 HN1)
    | (go_at_call 16; (with_reducible refine HN2.out.mono ?_); rintro e w3 ⟨rfl, hb3⟩; have B3 := Lib.hid (B2.out.trans (lower hb3 B2.out.size)); have G3 := Lib.hid ((hb3.block _ (heap_lt G2.out)).trans G2.out); have HN3 := Lib.hid (HWA.out w3 B3.out); clear hb3 HN2)
    | (go_at_call 40; (with_reducible refine HN3.out.mono ?_); rintro e w4 ⟨x4, rfl, o4, m4, l4, e4, b4⟩; have B4 := Lib.hid (B3.out.trans (lower b4 B3.out.size)); have G4 := Lib.hid ((b4.block _ (heap_lt G3.out)).trans G3.out); have E4 := Lib.hid (And.intro o4 (And.intro m4 (And.intro l4 e4))); have HN4 := Lib.hid (HWB.out w4 B4.out); clear o4 m4 l4 e4 b4 HN3)
    | (go_at_call 40; (with_reducible refine HN4.out.mono ?_); rintro e w5 ⟨x5, rfl, o5, m5, l5, e5, b5⟩; have B5 := Lib.hid (B4.out.trans (lower b5 B4.out.size)); have G5 := Lib.hid ((b5.block _ (heap_lt G4.out)).trans G4.out); have E5 := Lib.hid (And.intro o5 (And.intro m5 (And.intro l5 e5))); have D5 := Lib.hid b5; have c0 := cell_of_row w5 w.heap.size 0 _ _ _ G5.out; have c1 := cell_of_row w5 w.heap.size 1 _ _ _ G5.out; have f0 := frozen_of_row w5 w.heap.size 0 _ _ G5.out; have f1 := frozen_of_row w5 w.heap.size 1 _ _ G5.out; clear o5 m5 l5 e5 b5 HN4))
  have hfr := fr_set2 w5 w.heap.size (.slice x4.A x4.ts.length x4.c) (.slice x5.A x5.ts.length x5.c)
  have l3 := heap_lt G3.out
  have l4 := heap_lt G4.out
  have q4 : OwnT w5 w3.heap.size x4.val x4.ts := OwnT.below E4.out.1 D5.out
  have q4' := q4.fr hfr (by simpa using l3)
  have q5' := OwnT.fr E5.out.1 hfr (by simpa using l4)
  have hbe := below_set2 B5.out (Nat.le_refl _) (.slice x4.A x4.ts.length x4.c) (.slice x5.A x5.ts.length x5.c)
  exact bodyPost_ret (resRDiff (set2 G5.out _ _) _ rfl) rfl ⟨x4, x5, rfl, lv_end q4' E4.out.2.1 E4.out.2.2.1 HO.out.2.ok hbe, lv_end q5' E5.out.2.1 E5.out.2.2.1 HO.out.1.ok hbe, E4.out.2.2.2, E5.out.2.2.2, hbe⟩
theorem rdiff_any (a b : LV) (w : World) (ha : a.Ok w) (hb : b.Ok w) : Calls Try.prog 23 #[.slice a.A a.ts.length a.c, .slice b.A b.ts.length b.c] w (RdPost w (diffP (tus a.ts) (tus b.ts))) := by
  unfold diffP
  cases ra : risB (tus a.ts) with
  | false => exact rdiff_a a b w ha hb ra
  | true =>
    cases rb : risB (tus b.ts) with
    | false => exact rdiff_b a b w ha hb ra rb
    | true => exact rdiff_c a b w ha hb ra rb
end Go.Proofs.Ytpfkkmfhafejfaa
