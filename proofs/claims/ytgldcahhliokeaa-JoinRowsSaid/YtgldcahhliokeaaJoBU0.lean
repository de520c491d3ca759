/- What the document's Rows wants, plainly. -/
import Derived.Test.YtgldcahhliokeaaJoBT
import Derived.Test.YtgldcahhliokeaaJoBQ
import Derived.Test.YtgldcahhliokeaaJoBJ
namespace Go.Proofs.Ytgldcahhliokeaa
open Go.RowKit Go.Maps

/-- What the document's Rows answers. -/
def RdPost (w : World) (code : Int) (R : List Tu) (e : Ending) (w' : World) : Prop := ∃ y : LV, e = .returned (.tuple #[.slice y.A y.ts.length y.c, .int .i64 code]) ∧ y.Ok w' ∧ tus y.ts = R ∧ Below w.heap.size w w'
theorem refRow_take {s : Stp} {row : Tu} {es : List Ed} {m : Nat} (h : m < es.length) : refRow s (es.take (m + 1)) row = refRow s (es.take m) row ++ refOne s row es[m] := by
  unfold refRow
  rw [List.take_succ_eq_append_getElem h, List.flatMap_append]
  simp
theorem refRow_ge {s : Stp} {row : Tu} {es : List Ed} {m : Nat} (h : m < es.length) : (refRow s (es.take m) row).length + (refOne s row es[m]).length ≤ (refRow s es row).length := by
  have h1 := refRow_take (s := s) (row := row) h
  have h2 : refRow s es row = refRow s (es.take (m + 1)) row ++ refRow s (es.drop (m + 1)) row := by
    unfold refRow
    rw [← List.flatMap_append, List.take_append_drop]
  rw [h2, h1, List.length_append, List.length_append]
  omega
theorem refWith_take {s : Stp} {rows : List Tu} {es : List Ed} {r : Nat} (h : r < rows.length) : refWith s (rows.take (r + 1)) es = refWith s (rows.take r) es ++ refRow s es rows[r] := by
  unfold refWith
  rw [List.take_succ_eq_append_getElem h, List.flatMap_append]
  simp
theorem refWith_ge {s : Stp} {rows : List Tu} {es : List Ed} {r : Nat} (h : r < rows.length) : (refWith s (rows.take r) es).length + (refRow s es rows[r]).length ≤ (refWith s rows es).length := by
  have h1 := refWith_take (s := s) (es := es) h
  have h2 : refWith s rows es = refWith s (rows.take (r + 1)) es ++ refWith s (rows.drop (r + 1)) es := by
    unfold refWith
    rw [← List.flatMap_append, List.take_append_drop]
  rw [h2, h1, List.length_append, List.length_append]
  omega
theorem refOne_eq {s : Stp} {row : Tu} {ed : Ed} (h : ed.lab = s.lab) : refOne s row ed = if (withS s row (ed.f, ed.t)).getD s.fr 0 = ed.f ∧ (withS s row (ed.f, ed.t)).getD s.to 0 = ed.t then [withS s row (ed.f, ed.t)] else [] := by
  unfold refOne
  rw [if_pos h]
  have e : (edgeAt s (withS s row (ed.f, ed.t)) = ed) ↔ ((withS s row (ed.f, ed.t)).getD s.fr 0 = ed.f ∧ (withS s row (ed.f, ed.t)).getD s.to 0 = ed.t) := by
    unfold edgeAt
    constructor
    · intro h1
      exact ⟨congrArg Ed.f h1, congrArg Ed.t h1⟩
    · rintro ⟨h1, h2⟩
      rw [h1, h2, ← h]
  by_cases h1 : edgeAt s (withS s row (ed.f, ed.t)) = ed
  · rw [if_pos h1, if_pos (e.1 h1)]
  · rw [if_neg h1, if_neg (fun h2 => h1 (e.2 h2))]
/-- The rows' code and the rows, by the document's way. -/
def RowsCode (v : Vw) (es : List Ed) : Prop := ∀ R, refRows (onceL es) (stepsL v.atoms) [[]] = R → (R = none → rowsC v es = 5 ∧ rowsR v es = []) ∧ (∀ l, R = some l → rowsC v es = 0 ∧ rowsR v es = setL l)
theorem rowsC_ref (v : Vw) (es : List Ed) (hg : goodP v = true) : RowsCode v es := by
  intro R hR
  rw [refRows_eq _ 0 _ (chain_ok v.atoms) (by simp) (by simp)] at hR
  have e : rowsN (onceL es) (stepsL v.atoms) [[]] = rowsOfL v.atoms es := rfl
  rw [e] at hR
  unfold rowsC rowsR
  rw [if_pos hg, if_pos hg]
  by_cases h : (rowsOfL v.atoms es).length ≤ 3000
  · rw [if_pos h] at hR ⊢
    rw [if_pos h]
    subst hR
    exact ⟨(fun h => (nomatch h)), (fun l hl => by injection hl with hl; exact ⟨rfl, by rw [hl]⟩)⟩
  · rw [if_neg h] at hR ⊢
    rw [if_neg h]
    subst hR
    exact ⟨(fun _ => ⟨rfl, rfl⟩), (fun l hl => (nomatch hl))⟩
/-- Where the document's Rows is, behind k atoms. -/
structure RdAt (ats : List Atm) (es : List Ed) (k : Nat) (y : LV) (wr : World) : Prop where
  ok : y.Ok wr
  rows : refRows (onceL es) ((stepsL ats).drop k) (tus y.ts) = refRows (onceL es) (stepsL ats) [[]]
  kn : ChainOk (knEnd 0 ((stepsL ats).take k)) ((stepsL ats).drop k) ∧ knEnd (knEnd 0 ((stepsL ats).take k)) ((stepsL ats).drop k) ≤ 16 ∧ ∀ r ∈ tus y.ts, r.length = knEnd 0 ((stepsL ats).take k)
  low : y.ts.length ≤ 3000
theorem RdAt.start {ats : List Atm} {es : List Ed} {y : LV} {wr : World} (h : y.Ok wr ∧ tus y.ts = [[]]) (h8 : ats.length ≤ 8) : RdAt ats es 0 y wr := by
  refine ⟨h.1, by rw [h.2]; rfl, ⟨chain_ok _, ?_, ?_⟩, ?_⟩
  · have h1 : knEnd 0 ((stepsL ats).drop 0) = (varsL ats).length := knEnd_ok ats
    have h2 := varsL_len ats
    show knEnd 0 ((stepsL ats).drop 0) ≤ 16
    omega
  · rw [h.2]
    intro r hr
    rw [List.mem_singleton.1 hr]
    rfl
  · have := congrArg List.length h.2
    rw [tus_len] at this
    simp at this
    omega
theorem RdAt.step {ats : List Atm} {es : List Ed} {k : Nat} {y : LV} {wr : World} (h : RdAt ats es k y wr) (hk : k < ats.length) :
    ∃ s kn, s = stepOf (varsL ats) kn ats[k] ∧ (stepsL ats).drop k = s :: (stepsL ats).drop (k + 1) ∧ (knEnd 0 ((stepsL ats).take (k + 1)) = s.next ∧ s.fr ≤ s.kn ∧ s.to ≤ max s.kn (s.fr + 1) ∧ s.kn ≤ 16 ∧ s.next ≤ 16) ∧ ∀ r ∈ tus y.ts, r.length = s.kn := by
  have hlt : k < (stepsL ats).length := by unfold stepsL; rw [stepsK_len]; exact hk
  have hd : (stepsL ats).drop k = (stepsL ats)[k] :: (stepsL ats).drop (k + 1) := List.drop_eq_getElem_cons hlt
  obtain ⟨p1, p2⟩ := steps_at (varsL ats) ats 0 k hk
  have e : (stepsL ats)[k] = stepOf (varsL ats) (knEnd 0 ((stepsL ats).take k)) ats[k] := by
    have : (stepsL ats)[k]? = some (stepOf (varsL ats) (knEnd 0 ((stepsL ats).take k)) ats[k]) := p1
    rw [List.getElem?_eq_getElem hlt] at this
    injection this
  obtain ⟨c1, c2, c3⟩ := h.kn
  rw [hd] at c1 c2
  obtain ⟨q0, q1, q2, q3⟩ := c1
  have c2 : knEnd (stepsL ats)[k].next ((stepsL ats).drop (k + 1)) ≤ 16 := c2
  have hkl := knEnd_le _ _ q3
  have hsk : (stepsL ats)[k].kn ≤ (stepsL ats)[k].next := by unfold Stp.next; omega
  exact ⟨(stepsL ats)[k], _, e, hd, ⟨by rw [e]; exact p2, q1, q2, by omega, by omega⟩, fun r hr => by rw [q0]; exact c3 r hr⟩
theorem RdAt.next {ats : List Atm} {es : List Ed} {k : Nat} {y z : LV} {wr w' : World} {s : Stp} (h : RdAt ats es k y wr) (hs : (stepsL ats).drop k = s :: (stepsL ats).drop (k + 1))
    (hs3 : knEnd 0 ((stepsL ats).take (k + 1)) = s.next ∧ s.fr ≤ s.kn ∧ s.to ≤ max s.kn (s.fr + 1) ∧ s.kn ≤ 16 ∧ s.next ≤ 16) (hz : z.Ok w') (he : tus z.ts = refWith s (tus y.ts) (onceL es)) (hl : z.ts.length ≤ 3000) : RdAt ats es (k + 1) z w' := by
  obtain ⟨c1, c2, c3⟩ := h.kn
  have hr := h.rows
  obtain ⟨Z, hZ⟩ : ∃ Z, Z = refRows (onceL es) (stepsL ats) [[]] := ⟨_, rfl⟩
  rw [← hZ] at hr
  rw [hs] at c1 c2 hr
  obtain ⟨q0, q1, q2, q3⟩ := c1
  have hl' : (refWith s (tus y.ts) (onceL es)).length ≤ 3000 := by rw [← he, tus_len]; exact hl
  unfold refRows at hr
  rw [if_neg (by omega), ← he] at hr
  have hrl : ∀ r ∈ tus y.ts, r.length = s.kn := fun r hr => by rw [q0]; exact c3 r hr
  refine ⟨hz, hr.trans hZ, ⟨by rw [hs3.1]; exact q3, by rw [hs3.1]; exact c2, fun r hrr => ?_⟩, hl⟩
  · rw [he, refWith_eq hrl q1 q2] at hrr
    rw [hs3.1]
    exact with_lens hrl q1 q2 r hrr
theorem RdAt.done {v : Vw} {es : List Ed} {k : Nat} {y : LV} {wr : World} (h : RdAt v.atoms es k y wr) (hk : v.atoms.length ≤ k) (hc : RowsCode v es) : rowsC v es = 0 ∧ rowsR v es = setL (tus y.ts) := by
  have hr := h.rows
  have hlen : (stepsL v.atoms).length = v.atoms.length := by unfold stepsL; rw [stepsK_len]
  rw [List.drop_of_length_le (by omega)] at hr
  exact (hc _ hr.symm).2 _ rfl
/-- Too many. -/
theorem RdAt.big {v : Vw} {es : List Ed} {k : Nat} {y : LV} {wr : World} {s : Stp} (h : RdAt v.atoms es k y wr) (hs : (stepsL v.atoms).drop k = s :: (stepsL v.atoms).drop (k + 1)) (hc : RowsCode v es) (hb : 3000 < (refWith s (tus y.ts) (onceL es)).length) : rowsC v es = 5 ∧ rowsR v es = [] := by
  have hr := h.rows
  obtain ⟨Z, hZ⟩ : ∃ Z, Z = refRows (onceL es) (stepsL v.atoms) [[]] := ⟨_, rfl⟩
  rw [← hZ] at hr
  rw [hs] at hr
  unfold refRows at hr
  rw [if_pos hb] at hr
  exact (hc none (hZ.symm.trans hr.symm)).1 rfl
theorem two_below (w : World) (o1 o2 : Obj) : Below w.heap.size w ((w.alloc o1).alloc o2) := ((Below.refl _ _).alloc (Nat.le_refl _) _).alloc (by rw [alloc1_size]; omega) _
theorem rows_start (w : World) : (LV.Ok ((w.alloc (.cells #[] 3)).alloc (.cells #[.slice (some ⟨w.heap.size, 0, none⟩) 0 0] 43)) ⟨some ⟨w.heap.size + 1, 0, none⟩, [⟨some ⟨w.heap.size, 0, none⟩, [], 0⟩], 1⟩ ∧ tus [⟨some ⟨w.heap.size, 0, none⟩, [], 0⟩] = [[]]) ∧ Below w.heap.size w ((w.alloc (.cells #[] 3)).alloc (.cells #[.slice (some ⟨w.heap.size, 0, none⟩) 0 0] 43)) := by
  refine ⟨⟨⟨?_, fun t ht => ?_, Nat.le_refl _, (by decide : 1 ≤ 5000)⟩, rfl⟩, two_below w _ _⟩
  · have h := Rd.new (w.alloc (.cells #[] 3)) #[.slice (some ⟨w.heap.size, 0, none⟩) 0 0] 43 (0, 0)
    rw [alloc1_size] at h
    exact h.more (by rw [alloc1_size, alloc1_size]; exact Nat.le_refl _)
  · rw [List.mem_singleton.1 ht]
    exact ⟨Rd.emp _ _ _, Nat.le_refl _, Nat.zero_le _⟩
/-- A row's push, behind draws. -/
theorem push_drew {w : World} {lo : Nat} {v : Value} {us : List TV} {u : TV} (h : RowsAt w lo v us) (hu : OwnI w lo u) (hul : u.l.length ≤ 100) (hl : us.length ≤ 5000) (hlo : lo ≤ w.heap.size) (n : Nat) :
    ∃ A5 c5 w5, (Builtin.append_ #[30, 30] 30 #[v, .slice (some ⟨(w.drewN n).heap.size, 0, none⟩) 1 1]).run Try.prog ((w.drewN n).alloc (.cells #[.slice u.A u.l.length u.c] 43)) = .ok (.slice A5 (us.length + 1) c5) w5 ∧ RowsAt w5 lo (.slice A5 (us.length + 1) c5) (us ++ [u]) ∧ Below lo w w5 := by
  have hd : Below w.heap.size w (w.drewN n) := Below.drewN' (Below.refl _ _) n
  obtain ⟨A5, c5, w5, h1, h2, h3⟩ := (h.kept hd).push (hu.below hd) hul hl (Nat.le_trans hlo hd.size)
  exact ⟨A5, c5, w5, h1, h2, (lower' hd hlo).trans h3⟩
end Go.Proofs.Ytgldcahhliokeaa
