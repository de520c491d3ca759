/- TupR, what this seat can fill of it. -/
import Derived.Test.YtobieolonlddlaaJoTQ
namespace Go.Proofs.Ytobieolonlddlaa
/- The law's few and Own. -/
open Go.RowKit Go.Maps

/-- A list of whatever length. -/
structure LV.Raw (w : World) (x : LV) : Prop where
  rd : Rd w w.heap.size x.A (vals x.ts)
  tup : ∀ t ∈ x.ts, Rd w w.heap.size t.A (intsV t.l) ∧ t.l.length ≤ t.c
  cap : x.ts.length ≤ x.c
def fewL (x : LV) : Bool := decide (x.ts.length ≤ 40) && x.ts.all fun t => decide (t.l.length ≤ 40)
def fewB (ls : List LV) : Bool := ls.all fewL
theorem LV.Raw.ok {w : World} {x : LV} (h : x.Raw w) (hf : fewL x = true) : x.Ok w ∧ x.ts.length ≤ 40 := by
  unfold fewL at hf
  rw [Bool.and_eq_true, decide_eq_true_eq, List.all_eq_true] at hf
  refine ⟨⟨h.rd, fun t ht => ?_, h.cap, by omega⟩, hf.1⟩
  have h1 := h.tup t ht
  have h2 := hf.2 t ht
  rw [decide_eq_true_eq] at h2
  exact ⟨h1.1, h1.2, by omega⟩
theorem LV.Raw.below {w w' : World} {x : LV} (h : x.Raw w) (hb : Below w.heap.size w w') : x.Raw w' :=
  ⟨(h.rd.below hb (Nat.le_refl _)).more hb.size, fun t ht => ⟨((h.tup t ht).1.below hb (Nat.le_refl _)).more hb.size, (h.tup t ht).2⟩, h.cap⟩
theorem LV.Raw.cell {w : World} {x : LV} (h : x.Raw w) {k : Nat} (hk : k < x.ts.length) : ∃ b o, x.A = some ⟨b, o, none⟩ ∧ b < w.heap.size ∧ w.cell? ⟨b, o + k, none⟩ = some (.slice x.ts[k].A x.ts[k].l.length x.ts[k].c) := by
  obtain ⟨b, o, e, hb, hc⟩ := h.rd.get (k := k) (by rw [vals_len]; exact hk)
  refine ⟨b, o, e, hb, hc.trans ?_⟩
  simp [vals, TV.val]
/-- append of a tuple onto an empty one just made. -/
theorem run_appI0 (W : World) (x : TV) (hx : x.Ok W) :
    ∃ u : TV, ∃ w', (Builtin.append_ #[43, 43] 43 #[.slice (some ⟨W.heap.size, 0, none⟩) 0 0, .slice x.A x.l.length x.c]).run Try.prog (W.alloc (.cells #[] 3)) = .ok (.slice u.A u.l.length u.c) w' ∧ u.l = x.l ∧ OwnI w' W.heap.size u ∧ Below W.heap.size W w' := by
  obtain ⟨i0, hi, hz0, hz1, hz2⟩ := info_parts infoInt
  have hb1 : Below W.heap.size W (W.alloc (.cells #[] 3)) := (Below.refl _ _).alloc (Nat.le_refl _) _
  have h0 : (W.alloc (.cells #[] 3)).ownsRow W.heap.size 3 1 (.slice (some ⟨W.heap.size, 0, none⟩) 0 0) 0 [] := own_lit0 W (Nat.le_refl _)
  obtain ⟨v', w', h1, h2, h3, _⟩ := run_appR (P := Try.prog) (W.alloc (.cells #[] 3)) W.heap.size 43 43 3 i0 _ 1 8 Try.underlying43 hi hz0 hz1 hz2 rfl (by omega) _ 0 [] h0 (W.alloc (.cells #[] 3)).heap.size x.A x.l.length x.c (intsV x.l) (by rw [intsV_len]; omega) (hx.below hb1).rd (intsV_one _) (by have := hx.sm; omega) (by omega) hb1.size
  rw [Nat.zero_add, List.nil_append] at h2
  obtain ⟨A, c, rfl, _, _, _⟩ := own_shape h2
  exact ⟨⟨A, x.l, c⟩, w', h1, rfl, h2, append0_below h3⟩
/-- Own's state behind k tuples. -/
structure OwAt (w wr : World) (ts us : List TV) (k : Nat) (out : Value) : Prop where
  len : us.length = k
  row : OwnT wr w.heap.size out us
  eq : tus us = (tus ts).take k
  tup : ∀ u ∈ us, OwnI wr w.heap.size u
  off : us.Pairwise Off
  below : Below w.heap.size w wr
theorem OwAt.next {w wr w5 w6 : World} {ts us : List TV} {k : Nat} {u : TV} {out out' : Value} (h : OwAt w wr ts us k out) (hk : k < ts.length) (hu : u.l = ts[k].l) (ho : OwnI w5 wr.heap.size u) (hb : Below wr.heap.size wr w5)
    (hr : OwnT w6 w.heap.size out' (us ++ [u])) (hg : (w5.alloc (.cells #[.slice u.A u.l.length u.c] 43)).grownBy w6 out.ownBlock) : OwAt w w6 ts (us ++ [u]) (k + 1) out' := by
  have hsz := h.below.size
  have hr5 := own_below h.row hb (Nat.le_refl _)
  have hb6 : Below w5.heap.size w5 (w5.alloc (.cells #[.slice u.A u.l.length u.c] 43)) := (Below.refl _ _).alloc (Nat.le_refl _) _
  have hr6 := own_below hr5 hb6 (Nat.le_refl _)
  have hfr : Fr (w5.alloc (.cells #[.slice u.A u.l.length u.c] 43)) w6 out.ownBlock.toList := by
    rcases ho' : out.ownBlock with _ | g
    · rw [ho'] at hg; exact Fr.of_grown0 hg _
    · rw [ho'] at hg; exact Fr.of_grown hg
  have hapart : ∀ t : TV, OwnI (w5.alloc (.cells #[.slice u.A u.l.length u.c] 43)) w.heap.size t → ∀ a, t.A = some a → a.block ∉ out.ownBlock.toList := fun t ht a ha hm =>
    own_apart ht hr6 (by decide) a.block (by unfold TV.val; rw [ha]; simp [Value.ownBlock]) hm
  have tu : OwnI (w5.alloc (.cells #[.slice u.A u.l.length u.c] 43)) w.heap.size u := own_mono (OwnI.below ho hb6) hsz
  have tt : ∀ t ∈ us, OwnI (w5.alloc (.cells #[.slice u.A u.l.length u.c] 43)) w.heap.size t := fun t ht => ((h.tup t ht).below hb).below hb6
  refine ⟨by rw [List.length_append, h.len]; rfl, hr, ?_, fun t ht => ?_, ?_, ?_⟩
  · rw [tus_app, h.eq, List.take_succ_eq_append_getElem (by rw [tus_len]; exact hk), tus_at ts k hk]
    show _ ++ [u.l] = _
    rw [hu]
  · rcases List.mem_append.1 ht with ht | ht
    · exact (tt t ht).fr hfr (hapart t (tt t ht))
    · rw [List.mem_singleton.1 ht]
      exact tu.fr hfr (hapart u tu)
  · rw [List.pairwise_append]
    refine ⟨h.off, List.pairwise_singleton _ _, fun x hx y hy a b ha hb' e => ?_⟩
    rw [List.mem_singleton.1 hy] at hb'
    have h1 := OwnI.lo ho b hb'
    have h2 := (h.tup x hx).lo a ha
    omega
  · refine (h.below.trans (lower hb hsz)).trans ((lower hb6 (Nat.le_trans hsz hb.size)).trans (hfr.below (Nat.le_trans (Nat.le_trans hsz hb.size) hb6.size) fun x hx => ?_))
    exact own_ge h.row x hx
end Go.Proofs.Ytobieolonlddlaa
