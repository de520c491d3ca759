/- Joined: JoU JoV JoW JoX JoY JoZ. -/
import Derived.Test.YtmldiojlglpoiaaJnE
import Derived.Laws.Shifts
import Derived.Test.YtmldiojlglpoiaaOrdM
/- JoU, what this seat can fill of it. -/
namespace Go.Proofs.Ytmldiojlglpoiaa
/- join.with: the walk. -/
open Go.RowKit Go.Maps

end Go.Proofs.Ytmldiojlglpoiaa
/- JoV, what this seat can fill of it. -/
namespace Go.Proofs.Ytmldiojlglpoiaa
/- join.rowsOf, join.Rows. -/
open Go.RowKit Go.Maps

theorem with_i64 {s : Stp} {ahead : List Tu} {es : List Ed} (he : ∀ e ∈ es, e.Ok) (ha : ∀ r ∈ ahead, ∀ v ∈ r, I64 v) : ∀ r ∈ withL s ahead es, ∀ v ∈ r, I64 v := by
  intro r hr v hv
  unfold withL at hr
  obtain ⟨q, hq, hr⟩ := List.mem_flatMap.1 hr
  obtain ⟨e, hm, rfl⟩ := List.mem_map.1 hr
  have hi := fit_i64 (s := s) he e (List.mem_filter.1 hm).1
  have hp : ∀ (row : Tu) (p : Nat) (z : Int), v ∈ push1 row p z → v ∈ row ∨ v = z := by
    intro row p z h
    unfold push1 at h
    split at h
    · rcases List.mem_append.1 h with h | h
      · exact .inl h
      · exact .inr (by simpa using h)
    · exact .inl h
  unfold withS at hv
  rcases hp _ _ _ hv with h | h
  · rcases hp _ _ _ h with h | h
    · exact ha q hq v h
    · rw [h]; exact hi.1
  · rw [h]; exact hi.2
/-- Where rowsOf is, behind k steps. -/
structure RoAt (w wr : World) (ats : List Atm) (es : List Ed) (k : Nat) (y : LV) : Prop where
  ok : y.Ok wr
  rows : rowsN (onceL es) ((stepsL ats).drop k) (tus y.ts) = rowsOfL ats es
  kn : ∃ kn, ChainOk kn ((stepsL ats).drop k) ∧ knEnd kn ((stepsL ats).drop k) ≤ 16 ∧ ∀ r ∈ tus y.ts, r.length = kn
  i64 : ∀ r ∈ tus y.ts, ∀ v ∈ r, I64 v
  low : y.ts.length ≤ 3000
  below : Below w.heap.size w wr
theorem stepsC_cell {w : World} {A : Option Addr} {ss : List Stp} (h : Rd w w.heap.size A (stsC ss)) {k : Nat} (hk : k < ss.length) : ∃ b o, A = some ⟨b, o, none⟩ ∧ b < w.heap.size ∧ w.cell? ⟨b, o + k * 4, none⟩ = some (.string ⟨ss[k].lab.toArray⟩) ∧ w.cell? ⟨b, o + k * 4 + 1, none⟩ = some (.int .i64 (ss[k].fr : Int)) ∧ w.cell? ⟨b, o + k * 4 + 2, none⟩ = some (.int .i64 (ss[k].to : Int)) ∧ w.cell? ⟨b, o + k * 4 + 3, none⟩ = some (.int .i64 (ss[k].kn : Int)) := by
  have hne : stsC ss ≠ [] := fun e => by have := stsC_len ss; rw [e] at this; simp at this; omega
  obtain ⟨b, o, e, hb, hc⟩ := h hne
  have hat := fun j hj => flat4_at stC (fun _ => rfl) ss k j hk hj
  refine ⟨b, o, e, hb, hc (k * 4) _ (hat 0 (by omega)), ?_, ?_, ?_⟩
  · rw [Nat.add_assoc]; exact hc (k * 4 + 1) _ (hat 1 (by omega))
  · rw [Nat.add_assoc]; exact hc (k * 4 + 2) _ (hat 2 (by omega))
  · rw [Nat.add_assoc]; exact hc (k * 4 + 3) _ (hat 3 (by omega))
end Go.Proofs.Ytmldiojlglpoiaa
/- JoW, what this seat can fill of it. -/
namespace Go.Proofs.Ytmldiojlglpoiaa
/- join.Rows. -/
open Go.RowKit Go.Maps

/-- The rows' code and list. -/
def rowsC (v : Vw) (es : List Ed) : Int := if goodP v = true then (if (rowsOfL v.atoms es).length ≤ 3000 then 0 else 5) else 1
def rowsR (v : Vw) (es : List Ed) : List Tu := if goodP v = true then (if (rowsOfL v.atoms es).length ≤ 3000 then setL (rowsOfL v.atoms es) else []) else []
theorem rowsR_len (v : Vw) (es : List Ed) : (rowsR v es).length ≤ 3000 := by
  unfold rowsR
  split
  · split
    · have := setL_len (rowsOfL v.atoms es); omega
    · simp
  · simp
/-- What Rows answers. -/
def RoPost (w : World) (code : Int) (R : List Tu) (e : Ending) (w' : World) : Prop := ∃ y : LV, e = .returned (.tuple #[.slice y.A y.ts.length y.c, .int .i64 code]) ∧ OwnL w' w.heap.size y.val y.ts ∧ y.Ok w' ∧ tus y.ts = R ∧ Below w.heap.size w w'
theorem ownL_nil (w : World) (lo : Nat) : OwnL w lo (LV.val ⟨none, [], 0⟩) [] := ⟨World.ownsRow_nil _ _ _ _, fun _ h => (nomatch h), fun _ h => (nomatch h), .nil⟩
theorem okL_nil (w : World) : LV.Ok w ⟨none, [], 0⟩ := ⟨Rd.emp _ _ _, fun _ h => (nomatch h), Nat.le_refl _, by simp⟩
end Go.Proofs.Ytmldiojlglpoiaa
/- JoX, what this seat can fill of it. -/
namespace Go.Proofs.Ytmldiojlglpoiaa
/- slices.BinarySearchFunc of tuples, by tuple.Cmp, for one that is there. -/
open Go.RowKit Go.Maps

end Go.Proofs.Ytmldiojlglpoiaa
/- JoY, what this seat can fill of it. -/
namespace Go.Proofs.Ytmldiojlglpoiaa
/- join.outputsOf. -/
open Go.RowKit Go.Maps

/-- append of one number to a tuple of the call's own: what else stays. -/
theorem run_app1F (w : World) (lo : Nat) (u : TV) (x : Int) (h : OwnI w lo u) (hb : lo ≤ w.heap.size) (hl : u.l.length ≤ 900) :
    ∃ u' : TV, ∃ w', (Builtin.append_ #[32, 32] 32 #[.slice u.A u.l.length u.c, .slice (some ⟨w.heap.size, 0, none⟩) 1 1]).run Try.prog (w.alloc (.cells #[.int .i64 x] 3)) = .ok (.slice u'.A u'.l.length u'.c) w' ∧ u'.l = u.l ++ [x] ∧ OwnI w' lo u' ∧ Fr (w.alloc (.cells #[.int .i64 x] 3)) w' u.val.ownBlock.toList ∧ (u'.val.ownBlock = u.val.ownBlock ∨ u'.val.ownBlock = some (w.heap.size + 1)) := by
  obtain ⟨i, hi, hz0, hz1, hz2⟩ := info_parts infoInt
  have hb4 : Below w.heap.size w (w.alloc (.cells #[.int .i64 x] 3)) := (Below.refl _ _).alloc (Nat.le_refl _) _
  have hr4 := own_below h hb4 (Nat.le_refl _)
  have hrd : Rd (w.alloc (.cells #[.int .i64 x] 3)) (w.heap.size + 1) (some ⟨w.heap.size, 0, none⟩) (intsV [x]) := Rd.new w #[.int .i64 x] 3 (0, 0)
  obtain ⟨v5, w5, hrun, g1, g2, g3⟩ := run_appR (P := Try.prog) _ lo 32 32 3 i _ 1 8 Try.underlying32 hi hz0 hz1 hz2 rfl (by omega) u.val u.l.length (intsV u.l) hr4 (w.heap.size + 1) (some ⟨w.heap.size, 0, none⟩) 1 1 (intsV [x]) rfl hrd (intsV_one _) (by omega) (by omega) (Nat.le_trans hb hb4.size)
  have e1 : intsV u.l ++ intsV [x] = intsV (u.l ++ [x]) := (List.map_append).symm
  rw [e1] at g1
  rw [alloc1_size] at g3
  obtain ⟨A, c, rfl, _, _, _⟩ := own_shape g1
  refine ⟨⟨A, u.l ++ [x], c⟩, w5, ?_, rfl, ?_, fr_grown g2, ?_⟩
  · rw [List.length_append]
    exact hrun
  · unfold OwnI TV.val
    rw [List.length_append]
    exact g1
  · rcases g3 with g3 | g3
    · exact .inl (by unfold TV.val; rw [List.length_append]; exact g3)
    · exact .inr (by unfold TV.val; rw [List.length_append]; exact g3)
theorem LV.Ok.cell' {w : World} {x : LV} (h : x.Ok w) {k : Nat} (hk : k < x.ts.length) : ∃ b o, x.A = some ⟨b, o, none⟩ ∧ b < w.heap.size ∧ w.cell? ⟨b, o + k, none⟩ = some (.slice x.ts[k].A x.ts[k].l.length x.ts[k].c) := Lst.cell h hk
/-- Where outputsOf is: the tuples that are done, the one under way. -/
structure OuAt (lo : Nat) (wr : World) (g n : Nat) (us : List TV) (cu : TV) : Prop where
  lt : us.length < n
  row : wr.ownsRow lo 32 1 (.slice (some ⟨g, 0, none⟩) n n) n (vals us ++ cu.val :: List.replicate (n - us.length - 1) nilV)
  tup : ∀ u ∈ us, OwnI wr lo u
  own : OwnI wr lo cu
  off : ∀ u ∈ us, ∀ q ∈ u.val.ownBlock.toList, q ∉ cu.val.ownBlock.toList
theorem OuAt.cell {lo : Nat} {wr : World} {g n : Nat} {us : List TV} {cu : TV} (h : OuAt lo wr g n us cu) : wr.cell? ⟨g, us.length, none⟩ = some (.slice cu.A cu.l.length cu.c) ∧ wr.frozen? ⟨g, us.length, none⟩ = false := by
  refine ⟨?_, World.ownsRow.frozenAt h.row us.length⟩
  rw [World.ownsRow.cellAt h.row us.length (by rw [Nat.mul_one]; exact h.lt), List.getElem?_append_right (by rw [vals_len]; exact Nat.le_refl _), vals_len, Nat.sub_self]
  rfl
theorem OuAt.kept {lo : Nat} {wr w' : World} {g n : Nat} {us : List TV} {cu : TV} (h : OuAt lo wr g n us cu) (hb : Below wr.heap.size wr w') : OuAt lo w' g n us cu :=
  ⟨h.lt, own_below h.row hb (Nat.le_refl _), fun u hu => (h.tup u hu).below hb, h.own.below hb, h.off⟩
/-- One number more. -/
theorem OuAt.push {lo : Nat} {wr : World} {g n : Nat} {us : List TV} {cu : TV} (h : OuAt lo wr g n us cu) (hlo : lo ≤ wr.heap.size) (hl : cu.l.length ≤ 900) (x : Int) :
    ∃ u' : TV, ∃ w', (Builtin.append_ #[32, 32] 32 #[.slice cu.A cu.l.length cu.c, .slice (some ⟨wr.heap.size, 0, none⟩) 1 1]).run Try.prog (wr.alloc (.cells #[.int .i64 x] 3)) = .ok (.slice u'.A u'.l.length u'.c) w' ∧ u'.l = cu.l ++ [x] ∧ w'.cell? ⟨g, us.length, none⟩ = some (.slice cu.A cu.l.length cu.c) ∧ w'.frozen? ⟨g, us.length, none⟩ = false ∧
      OuAt lo (w'.setCell ⟨g, us.length, none⟩ (.slice u'.A u'.l.length u'.c)) g n us u' ∧ Below lo wr (w'.setCell ⟨g, us.length, none⟩ (.slice u'.A u'.l.length u'.c)) ∧ Below lo wr w' := by
  obtain ⟨u', w', hrun, hul, ho, hf, hbk⟩ := run_app1F wr lo cu x h.own hlo hl
  have hb4 : Below wr.heap.size wr (wr.alloc (.cells #[.int .i64 x] 3)) := (Below.refl _ _).alloc (Nat.le_refl _) _
  have h4 := h.kept hb4
  have hrw := rowFrS h4.row hf (own_apart h4.row h4.own (by decide))
  have htw : ∀ u ∈ us, OwnI w' lo u := fun u hu => rowFrS (h4.tup u hu) hf (h4.off u hu)
  have hc : w'.cell? ⟨g, us.length, none⟩ = some (.slice cu.A cu.l.length cu.c) := by
    rw [World.ownsRow.cellAt hrw us.length (by rw [Nat.mul_one]; exact h.lt), List.getElem?_append_right (by rw [vals_len]; exact Nat.le_refl _), vals_len, Nat.sub_self]
    rfl
  obtain ⟨hst, hgr⟩ := World.ownsRow.stored hrw us.length u'.val
  have hfr := Fr.of_grown hgr
  have hap : ∀ t : TV, OwnI w' lo t → ∀ s ∈ t.val.ownBlock.toList, s ∉ [g] := fun t ht s hs hm => by
    have := own_apart ht hrw (by decide) s hs
    exact this (by simp [Value.ownBlock] at hm ⊢; exact hm)
  refine ⟨u', w', hrun, hul, hc, World.ownsRow.frozenAt hrw us.length, ⟨h.lt, ?_, fun u hu => rowFrS (htw u hu) hfr (hap u (htw u hu)), rowFrS ho hfr (hap u' ho), fun u hu q hq hm => ?_⟩, ?_⟩
  · have e : (vals us ++ cu.val :: List.replicate (n - us.length - 1) nilV).set us.length u'.val = vals us ++ u'.val :: List.replicate (n - us.length - 1) nilV := by
      rw [List.set_append, if_neg (by rw [vals_len]; omega), vals_len, Nat.sub_self, List.set_cons_zero]
    rw [← e]
    exact hst
  · rcases hbk with e | e
    · rw [e] at hm
      exact h.off u hu q hq hm
    · rw [e] at hm
      have h5 := own_lt' (h.tup u hu) q hq
      simp at hm
      omega
  · have h1 : Below lo (wr.alloc (.cells #[.int .i64 x] 3)) w' := hf.below (Nat.le_trans hlo hb4.size) (own_ge h4.own)
    have h2 := (World.ownsRow.lt hrw g rfl).1
    exact ⟨((lower' hb4 hlo).trans h1).setCell h2 _, (lower' hb4 hlo).trans h1⟩
/-- Tuples that are done, and room for the others. -/
def OuRow (lo : Nat) (wr : World) (g n : Nat) (us : List TV) : Prop := wr.ownsRow lo 32 1 (.slice (some ⟨g, 0, none⟩) n n) n (vals us ++ List.replicate (n - us.length) nilV) ∧ ∀ u ∈ us, OwnI wr lo u
theorem OuRow.start {lo : Nat} {wr : World} {g n : Nat} {us : List TV} (h : OuRow lo wr g n us) (hl : us.length < n) : OuAt lo wr g n us ⟨none, [], 0⟩ := by
  refine ⟨hl, ?_, h.2, World.ownsRow_nil _ _ _ _, fun u hu q hq hm => by simp [TV.val, Value.ownBlock] at hm⟩
  have e : n - us.length = (n - us.length - 1) + 1 := by omega
  have h1 := h.1
  rw [e, List.replicate_succ] at h1
  exact h1
theorem OuAt.done {lo : Nat} {wr : World} {g n : Nat} {us : List TV} {cu : TV} (h : OuAt lo wr g n us cu) : OuRow lo wr g n (us ++ [cu]) := by
  refine ⟨?_, fun u hu => ?_⟩
  · rw [vals_app, List.append_assoc, List.length_append]
    exact h.row
  · rcases List.mem_append.1 hu with hu | hu
    · exact h.tup u hu
    · rw [List.mem_singleton.1 hu]; exact h.own
theorem OuRow.made (w : World) (n : Nat) (hn : n ≤ 20000) : OuRow w.heap.size (w.alloc (.cells (Array.replicate n nilV) 32)) w.heap.size n [] := by
  refine ⟨?_, fun _ h => nomatch h⟩
  have := World.ownsRow_lit (base := w.heap.size) (size := 1) (e := 32) w (Array.replicate n nilV) n (Nat.le_refl _) (by simp [maxLen]; omega) (by simp)
  simpa [vals] using this
theorem OuRow.kept {lo : Nat} {wr w' : World} {g n : Nat} {us : List TV} (h : OuRow lo wr g n us) (hb : Below wr.heap.size wr w') : OuRow lo w' g n us := ⟨own_below h.1 hb (Nat.le_refl _), fun u hu => (h.2 u hu).below hb⟩
theorem index_at {l : List Nm} {s : Nm} (h : s ∈ l) : indexL l s = (l.idxOf s : Int) := if_pos h
end Go.Proofs.Ytmldiojlglpoiaa
/- JoZ, what this seat can fill of it. -/
namespace Go.Proofs.Ytmldiojlglpoiaa
/- join.Result. -/
open Go.RowKit Go.Maps

/-- How many of the tuples are each of a set. -/
def cnt (R all : List Tu) : List Int := R.map fun t => ((all.filter fun u => decide (u = t)).length : Int)
theorem cnt_len (R all : List Tu) : (cnt R all).length = R.length := List.length_map _
theorem cnt_nil (R : List Tu) : cnt R [] = List.replicate R.length 0 := by
  unfold cnt
  rw [List.eq_replicate_iff]
  exact ⟨List.length_map _, fun x hx => by obtain ⟨t, _, rfl⟩ := List.mem_map.1 hx; rfl⟩
theorem cnt_at {R all : List Tu} {p : Nat} (h : p < R.length) : (cnt R all)[p]'(by rw [cnt_len]; exact h) = ((all.filter fun u => decide (u = R[p])).length : Int) := by simp [cnt]
theorem cnt_snoc {R all : List Tu} {t : Tu} {p : Nat} (hn : R.Nodup) (h : p < R.length) (ht : R[p] = t) : cnt R (all ++ [t]) = (cnt R all).set p ((cnt R all)[p]'(by rw [cnt_len]; exact h) + 1) := by
  apply List.ext_getElem
  · rw [cnt_len, List.length_set, cnt_len]
  · intro j h1 h2
    rw [cnt_len] at h1
    rw [List.getElem_set, cnt_at h1]
    by_cases e : p = j
    · subst e
      rw [if_pos rfl, cnt_at h, List.filter_append, ht]
      simp
    · rw [if_neg e, cnt_at h1, List.filter_append]
      have : decide (t = R[j]) = false := decide_eq_false fun h3 => e ((List.getElem_inj hn).1 (ht.trans h3))
      simp [this]
theorem cnt_le (R all : List Tu) : ∀ x ∈ cnt R all, 0 ≤ x ∧ x ≤ all.length := by
  intro x hx
  obtain ⟨t, _, rfl⟩ := List.mem_map.1 hx
  have := List.length_filter_le (fun u => decide (u = t)) all
  omega
def outsOf (v : Vw) (es : List Ed) : List Tu := (rowsR v es).map (outL (varsL v.atoms) v.out)
def resR (v : Vw) (es : List Ed) : List Tu := if rowsC v es = 0 then setL (outsOf v es) else []
def resN (v : Vw) (es : List Ed) : List Int := if rowsC v es = 0 then countsL (outsOf v es) else []
theorem countsL_eq (all : List Tu) : countsL all = cnt (setL all) all := rfl
/-- What Result answers. -/
def RePost (w : World) (code : Int) (R : List Tu) (C : List Int) (e : Ending) (w' : World) : Prop := ∃ (y : LV) (n : TV), e = .returned (.tuple #[.slice y.A y.ts.length y.c, .slice n.A n.l.length n.c, .int .i64 code]) ∧ OwnL w' w.heap.size y.val y.ts ∧ y.Ok w' ∧ tus y.ts = R ∧ OwnI w' w.heap.size n ∧ n.Ok w' ∧ n.l = C ∧ Below w.heap.size w w'
theorem madeI (n : Nat) : madeCells #[.int .i64 0] n = (intsV (List.replicate n 0)).toArray := by
  apply Array.toList_inj.1
  rw [toList_madeCells_one, List.toList_toArray]
  simp [intsV, List.map_replicate]
theorem makeI (n : Nat) (hn : n ≤ 20000) (w : World) : (Instr.makeSlice 31 (.int .i64 (n : Int)) (.int .i64 (n : Int))).run Try.prog w = .ok (.slice (some ⟨w.heap.size, 0, none⟩) n n) (w.alloc (.cells (intsV (List.replicate n 0)).toArray 3)) := by
  have h := run_make_row' (P := Try.prog) 31 3 (.int .i64 0) 8 Try.underlying31 infoInt rfl .i64 .i64 n (by omega) (by omega) w
  rw [madeI] at h
  exact h
theorem rows_good {v : Vw} {es : List Ed} (h : rowsC v es = 0) : goodP v = true := by
  unfold rowsC at h
  by_cases hg : goodP v = true
  · exact hg
  · rw [if_neg hg] at h; omega
theorem rowsR_lens {v : Vw} {es : List Ed} : ∀ r ∈ rowsR v es, r.length = (varsL v.atoms).length := by
  intro r hr
  unfold rowsR at hr
  split at hr
  · split at hr
    · rename_i hl
      rw [mem_set] at hr
      have h1 := lowP_iff.2 hl
      unfold rowsOfL at hr
      rw [rowsN_low _ _ h1] at hr
      exact (mem_rows.1 hr).1
    · cases hr
  · cases hr
theorem rowsC_rng (v : Vw) (es : List Ed) : rowsC v es = 0 ∨ rowsC v es = 1 ∨ rowsC v es = 5 := by
  unfold rowsC
  split
  · split <;> simp
  · simp
/-- Where Result counts. -/
structure CnAt (lo : Nat) (wr : World) (g : Nat) (C : List Int) : Prop where
  row : OwnI wr lo ⟨some ⟨g, 0, none⟩, C, C.length⟩
theorem CnAt.step {lo : Nat} {wr : World} {g : Nat} {C : List Int} (h : CnAt lo wr g C) {p : Nat} (hp : p < C.length) (v : Int) :
    wr.cell? ⟨g, p, none⟩ = some (.int .i64 C[p]) ∧ wr.frozen? ⟨g, p, none⟩ = false ∧ CnAt lo (wr.setCell ⟨g, p, none⟩ (.int .i64 v)) g (C.set p v) ∧ Below lo wr (wr.setCell ⟨g, p, none⟩ (.int .i64 v)) := by
  have h0 := h.row
  unfold OwnI TV.val at h0
  dsimp only at h0
  obtain ⟨hst, hgr⟩ := World.ownsRow.stored h0 p (.int .i64 v)
  have hlo := (World.ownsRow.lt h0 g rfl).1
  refine ⟨?_, World.ownsRow.frozenAt h0 p, ⟨?_⟩, (Below.refl lo wr).setCell hlo _⟩
  · rw [World.ownsRow.cellAt h0 p (by rw [Nat.mul_one]; exact hp), intsV_at C p hp]
  · unfold OwnI TV.val
    dsimp only
    rw [List.length_set]
    have e : (intsV C).set p (.int .i64 v) = intsV (C.set p v) := by unfold intsV; rw [List.map_set]
    rw [← e]
    exact hst
theorem CnAt.made (w : World) (n : Nat) (hn : n ≤ 20000) : CnAt w.heap.size (w.alloc (.cells (intsV (List.replicate n 0)).toArray 3)) w.heap.size (List.replicate n 0) := by
  refine ⟨?_⟩
  unfold OwnI TV.val
  dsimp only
  rw [List.length_replicate]
  have hl : (intsV (List.replicate n 0)).toArray.size = n := by simp [intsV]
  have := World.ownsRow_lit (base := w.heap.size) (size := 1) (e := 3) w (intsV (List.replicate n 0)).toArray n (Nat.le_refl _) (by simp [maxLen]; omega) (by rw [hl]; omega)
  simpa using this
theorem nodup_ris {l : List Tu} (h : Ris l) : l.Nodup := by
  unfold Ris at h
  exact h.imp fun hc e => by rw [e, cmpI_refl] at hc; omega
theorem nodup_set (l : List Tu) : (setL l).Nodup := nodup_ris (ris_set l)
end Go.Proofs.Ytmldiojlglpoiaa
