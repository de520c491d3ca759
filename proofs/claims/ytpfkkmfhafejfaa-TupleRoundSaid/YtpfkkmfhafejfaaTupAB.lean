/- From set to set, plainly; and the calls as TupleRound has them. -/
import Derived.Test.YtpfkkmfhafejfaaTupU
import Derived.Test.YtpfkkmfhafejfaaTupZ
namespace Go.Proofs.Ytpfkkmfhafejfaa
open Go.RowKit Go.Maps

theorem ris_b {l : List Tu} (h : Ris l) : risB l = true := ris_iff.2 h
theorem round_diff {X Y : List Tu} (hx : Ris X) (hy : Ris Y) : diffP X Y = (0, woL Y X, woL X Y) := by
  unfold diffP
  rw [ris_b hx, ris_b hy]
  rfl
theorem wo_meet {X Y Z : List Tu} (h : ∀ t, t ∈ Z → t ∈ X) : meetL (woL Y X) Z = false := meet_no.2 fun t ht hz => (mem_wo.1 ht).2 (h t hz)
theorem round_apply {X Y : List Tu} (hx : Ris X) (hy : Ris Y) : applyP X (woL Y X) (woL X Y) = (0, Y) := by
  unfold applyP
  rw [ris_b hx, ris_b (ris_wo X hy), ris_b (ris_wo Y hx), wo_meet fun _ h => h]
  have h0 : woL (woL X Y) X = [] := List.eq_nil_iff_forall_not_mem.2 fun t ht => (mem_wo.1 ht).2 (mem_wo.1 (mem_wo.1 ht).1).1
  rw [h0]
  have h1 : setL (woL X (woL X Y) ++ woL Y X) = Y := ris_ext (ris_set _) hy fun q => by
    rw [mem_set, List.mem_append, mem_wo, mem_wo, mem_wo]
    by_cases h1 : q ∈ X <;> by_cases h2 : q ∈ Y <;> simp [h1, h2]
  rw [h1]
  rfl
theorem round_then {X Y Z : List Tu} (hx : Ris X) (hy : Ris Y) (hz : Ris Z) : thenP (woL Y X) (woL X Y) (woL Z Y) (woL Y Z) = (0, woL Z X, woL X Z) := by
  unfold thenP
  have m1 : meetL (woL Y X) (woL Z Y) = false := meet_no.2 fun t h k => (mem_wo.1 k).2 (mem_wo.1 h).1
  have m2 : meetL (woL X Y) (woL Y Z) = false := meet_no.2 fun t h k => (mem_wo.1 h).2 (mem_wo.1 k).1
  have m3 : meetL (woL Y X) (woL X Y) = false := meet_no.2 fun t h k => (mem_wo.1 h).2 (mem_wo.1 k).1
  have m4 : meetL (woL Z Y) (woL Y Z) = false := meet_no.2 fun t h k => (mem_wo.1 h).2 (mem_wo.1 k).1
  rw [ris_b (ris_wo X hy), ris_b (ris_wo Y hx), ris_b (ris_wo Y hz), ris_b (ris_wo Z hy), m1, m2, m3, m4]
  have h1 : setL (woL (woL Y X) (woL Y Z) ++ woL (woL Z Y) (woL X Y)) = woL Z X := ris_ext (ris_set _) (ris_wo X hz) fun q => by
    rw [mem_set, List.mem_append]
    simp only [mem_wo]
    by_cases h1 : q ∈ X <;> by_cases h2 : q ∈ Y <;> by_cases h3 : q ∈ Z <;> simp [h1, h2, h3]
  have h2 : setL (woL (woL X Y) (woL Z Y) ++ woL (woL Y Z) (woL Y X)) = woL X Z := ris_ext (ris_set _) (ris_wo Z hx) fun q => by
    rw [mem_set, List.mem_append]
    simp only [mem_wo]
    by_cases h1 : q ∈ X <;> by_cases h2 : q ∈ Y <;> by_cases h3 : q ∈ Z <;> simp [h1, h2, h3]
  rw [h1, h2]
  rfl
/-- A delta is answered, and no error. -/
def De2 (w : World) (P Q : List Tu) (e : Ending) (w' : World) : Prop :=
  ∃ (x y : LV), e = .returned (.tuple #[.agg #[.slice x.A x.ts.length x.c, .slice y.A y.ts.length y.c], .int .i64 0]) ∧ x.Ok w' ∧ y.Ok w' ∧ tus x.ts = P ∧ tus y.ts = Q ∧ Below w.heap.size w w'
/-- A list is answered, and no error. -/
def Ap2 (w : World) (R : List Tu) (e : Ending) (w' : World) : Prop :=
  ∃ x : LV, e = .returned (.tuple #[.slice x.A x.ts.length x.c, .int .i64 0]) ∧ x.Ok w' ∧ tus x.ts = R ∧ Below w.heap.size w w'
/-- A delta alone. -/
def Ba2 (w : World) (P Q : List Tu) (e : Ending) (w' : World) : Prop :=
  ∃ (x y : LV), e = .returned (.agg #[.slice x.A x.ts.length x.c, .slice y.A y.ts.length y.c]) ∧ x.Ok w' ∧ y.Ok w' ∧ tus x.ts = P ∧ tus y.ts = Q ∧ Below w.heap.size w w'
theorem len_le {x : LV} {P : List Tu} (e : tus x.ts = P) (h : P.length ≤ 40) : x.ts.length ≤ 40 := by
  have := congrArg List.length e
  rw [tus_len] at this
  omega
theorem wo_le (P Q : List Tu) (h : P.length ≤ 40) : (woL P Q).length ≤ 40 := Nat.le_trans (wo_len _ _) h
theorem diff2 (x y : LV) (w : World) (P Q : List Tu) (hx : x.Ok w) (hy : y.Ok w) (ex : tus x.ts = P) (ey : tus y.ts = Q) (rp : Ris P) (rq : Ris Q) :
    Calls Try.prog 22 #[.slice x.A x.ts.length x.c, .slice y.A y.ts.length y.c] w (De2 w (woL Q P) (woL P Q)) := by
  have h := diff_any x y w hx hy
  rw [ex, ey, round_diff rp rq] at h
  refine h.mono ?_
  rintro e w' ⟨a, b, m, rfl, _, p2, _, _, _, p6, p7, p8, p9⟩
  exact ⟨a, b, rfl, p2, p6, p7, p8, p9⟩
theorem apply2 (s a d : LV) (w : World) (P Q : List Tu) (hs : s.Ok w) (ha : a.Ok w) (hd : d.Ok w) (es : tus s.ts = P) (ea : tus a.ts = woL Q P) (ed : tus d.ts = woL P Q) (rp : Ris P) (rq : Ris Q) (lp : P.length ≤ 40) (lq : Q.length ≤ 40) :
    Calls Try.prog 26 #[.slice s.A s.ts.length s.c, .agg #[.slice a.A a.ts.length a.c, .slice d.A d.ts.length d.c]] w (Ap2 w Q) := by
  have l1 := len_le es lp
  have l2 := len_le ea (wo_le Q P lq)
  have h := apply_any s a d w hs ha hd (by omega)
  rw [es, ea, ed, round_apply rp rq] at h
  refine h.mono ?_
  rintro e w' ⟨x, rfl, _, p2, p3, p4⟩
  exact ⟨x, rfl, p2, p3, p4⟩
theorem then2 (a1 a2 b1 b2 : LV) (w : World) (P Q R : List Tu) (h1 : a1.Ok w) (h2 : a2.Ok w) (h3 : b1.Ok w) (h4 : b2.Ok w) (e1 : tus a1.ts = woL Q P) (e2 : tus a2.ts = woL P Q) (e3 : tus b1.ts = woL R Q) (e4 : tus b2.ts = woL Q R) (rp : Ris P) (rq : Ris Q) (rr : Ris R) (lp : P.length ≤ 40) (lq : Q.length ≤ 40) (lr : R.length ≤ 40) :
    Calls Try.prog 29 #[.agg #[.slice a1.A a1.ts.length a1.c, .slice a2.A a2.ts.length a2.c], .agg #[.slice b1.A b1.ts.length b1.c, .slice b2.A b2.ts.length b2.c]] w (De2 w (woL R P) (woL P R)) := by
  have l1 := len_le e1 (wo_le Q P lq)
  have l2 := len_le e2 (wo_le P Q lp)
  have l3 := len_le e3 (wo_le R Q lr)
  have l4 := len_le e4 (wo_le Q R lq)
  have h := then_any a1 a2 b1 b2 w h1 h2 h3 h4 (by omega) (by omega)
  rw [e1, e2, e3, e4, round_then rp rq rr] at h
  refine h.mono ?_
  rintro e w' ⟨a, b, m, rfl, _, p2, _, _, _, p6, p7, p8, p9⟩
  exact ⟨a, b, rfl, p2, p6, p7, p8, p9⟩
theorem back2 (x y : LV) (w : World) (P Q : List Tu) (hx : x.Ok w) (hy : y.Ok w) (ex : tus x.ts = P) (ey : tus y.ts = Q) :
    Calls Try.prog 28 #[.agg #[.slice x.A x.ts.length x.c, .slice y.A y.ts.length y.c]] w (Ba2 w Q P) := by
  have h := back_any x y w hx hy
  rw [ex, ey] at h
  refine h.mono ?_
  rintro e w' ⟨a, b, rfl, _, p2, _, p6, p7, p8, p9⟩
  exact ⟨a, b, rfl, p2, p6, p7, p8, p9⟩
theorem same2 (x y : LV) (w : World) (P : List Tu) (hx : x.Ok w) (hy : y.Ok w) (ex : tus x.ts = P) (ey : tus y.ts = P) :
    Calls Try.prog 13 #[.slice x.A x.ts.length x.c, .slice y.A y.ts.length y.c] w fun e w' => e = .returned (.bool true) ∧ Below w.heap.size w w' :=
  (same10_any x y w hx hy).mono fun e w' h => ⟨by rw [h.1, ex, ey, decide_eq_true rfl], below_drawn h.2⟩
theorem sameD2 (a b c d : LV) (w : World) (P Q : List Tu) (ha : a.Ok w) (hb : b.Ok w) (hc : c.Ok w) (hd : d.Ok w) (ea : tus a.ts = P) (eb : tus b.ts = Q) (ec : tus c.ts = P) (ed : tus d.ts = Q) :
    Calls Try.prog 24 #[.agg #[.slice a.A a.ts.length a.c, .slice b.A b.ts.length b.c], .agg #[.slice c.A c.ts.length c.c, .slice d.A d.ts.length d.c]] w fun e w' => e = .returned (.bool true) ∧ Below w.heap.size w w' :=
  (sameD_any a b c d w ha hb hc hd).mono fun e w' h => ⟨by rw [h.1, ea, eb, ec, ed, decide_eq_true ⟨rfl, rfl⟩], h.2⟩
end Go.Proofs.Ytpfkkmfhafejfaa
