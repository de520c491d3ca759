/- TupV, what this seat can fill of it. -/
import Derived.Lib.SlicesCompact
import Derived.Test.YtmldiojlglpoiaaJnD
import Derived.Test.YtmldiojlglpoiaaShelf
namespace Go.Proofs.Ytmldiojlglpoiaa
/- A row of tuples, sorted by the library: slices.SortFunc(out, Cmp). -/
open Go.RowKit Go.Maps Go.Shelf Go.Sort Go.Lib

theorem TV.Ok.frS {w w' : World} {t : TV} {S : List Nat} (h : t.Ok w) (hf : Fr w w' S) (hS : ∀ a, t.A = some a → a.block ∉ S) : t.Ok w' := by
  refine ⟨fun hn => ?_, h.cap, h.sm⟩
  obtain ⟨b, o, e, hb, hc⟩ := h.rd hn
  refine ⟨b, o, e, Nat.lt_of_lt_of_le hb hf.size, fun j u hu => ?_⟩
  rw [← hc j u hu]
  unfold World.cell?
  rw [hf.block b hb (hS _ e)]
theorem fr_put {α : Type} [Inhabited α] (enc : α → Value) (w : World) (blk off n : Nat) (d : Array α) (os : Array Obj) : Fr w (grow (putRow enc (Sort.ahead w n) blk off d) os) [blk] := by
  refine ⟨rfl, rfl, rfl, ?_, fun k hk hs => ?_⟩
  · rw [size_grow, size_putRow]; exact Nat.le_add_right _ _
  · rw [heap_grow_old _ _ (by rw [size_putRow]; exact hk)]
    have hne : blk ≠ k := fun e => hs (by rw [e]; exact List.mem_singleton.2 rfl)
    simp [putRow, mapBlock, Array.getElem?_modify, hne, Sort.ahead]
/-- A list's row as the library's contracts want it. -/
theorem OwnT.row {w : World} {base blk n cap : Nat} {ts : List TV} (h : OwnT w base (.slice (some ⟨blk, 0, none⟩) n cap) ts) : n = ts.length ∧ n ≤ cap ∧ cap ≤ maxLen ∧ base ≤ blk ∧ ∃ cur, w.heap[blk]? = some (.cells cur 32 (0, 0)) ∧ cur.size = cap ∧ cur.toList.take n = vals ts := by
  unfold OwnT World.ownsRow at h
  obtain ⟨h1, h2⟩ := h
  rcases h2 with ⟨e, _⟩ | ⟨g, cap', cur, hv, hb, hh, hle, hm, hs, ht⟩
  · cases e
  · injection hv with e1 e2 e3
    injection e1 with e1
    injection e1 with e1 _ _
    subst e1 e2 e3
    exact ⟨rfl, hle, hm, hb, cur, hh, by omega, by rw [Nat.mul_one] at ht; exact ht⟩
theorem OwnT.holds {α : Type} [Inhabited α] (f : α → TV) {w : World} {base blk n cap : Nat} {ts : List TV} (h : OwnT w base (.slice (some ⟨blk, 0, none⟩) n cap) ts) (d : Array α) (hd : d.toList.map f = ts) : Holds (fun x => (f x).val) w blk 0 d := by
  obtain ⟨hn, hle, _, _, cur, hh, hs, ht⟩ := h.row
  intro j hj
  refine ⟨?_, frozen_of_row w blk _ _ _ hh⟩
  rw [Nat.zero_add, cell_of_row w blk j _ _ _ hh]
  have e : cur.toList[j]? = (cur.toList.take n)[j]? := by
    rw [List.getElem?_take, if_pos]
    have := congrArg List.length hd
    simp at this
    omega
  rw [← Array.getElem?_toList, e, ht, ← hd]
  simp only [vals, List.map_map, List.getElem?_map, Array.getElem?_toList]
  rw [Array.getElem?_eq_getElem hj, Option.map_some, getElem!_pos d j hj]
  rfl
/-- .. and back, cut to its first k. -/
theorem OwnT.put {α : Type} [Inhabited α] (f : α → TV) {w : World} {base blk n cap : Nat} {ts : List TV} (h : OwnT w base (.slice (some ⟨blk, 0, none⟩) n cap) ts) (hb : blk < w.heap.size) (q : Nat) (d : Array α) (os : Array Obj) (hd : d.size = n) (k : Nat) (hk : k ≤ n) :
    OwnT (grow (putRow (fun x => (f x).val) (Sort.ahead w q) blk 0 d) os) base (.slice (some ⟨blk, 0, none⟩) k cap) ((d.toList.map f).take k) := by
  obtain ⟨hn, hle, hm, hbase, cur, hh, hs, ht⟩ := h.row
  have hlen : ((d.toList.map f).take k).length = k := by simp; omega
  unfold OwnT
  rw [hlen]
  refine ⟨by rw [vals_len, hlen, Nat.mul_one], .inr ⟨blk, cap, putCells (fun x => (f x).val) 0 d cur, rfl, hbase, ?_, by omega, hm, by rw [Nat.mul_one]; simp [putCells, hs], ?_⟩⟩
  · rw [heap_grow_old _ _ (by rw [size_putRow]; exact hb)]
    simp [putRow, mapBlock, Array.getElem?_modify, onCells, Sort.ahead, hh]
  · rw [Nat.mul_one]
    apply List.ext_getElem?
    intro j
    simp only [vals, List.getElem?_map, List.getElem?_take, Array.getElem?_toList]
    by_cases hj : j < k
    · rw [if_pos hj, if_pos hj]
      have hjd : j < d.size := by omega
      have hjc : j < cur.size := by omega
      simp only [putCells, Array.getElem?_mapIdx]
      rw [Array.getElem?_eq_getElem hjc, Option.map_some, if_pos ⟨by omega, by omega⟩, Nat.sub_zero, getElem!_pos d j hjd]
      rw [Array.getElem?_eq_getElem hjd]
      rfl
    · rw [if_neg hj, if_neg hj]; rfl
/-- The order is a weak one. -/
theorem swo_cmp {α : Type} (f : α → Tu) : SWO (ltOf fun x y : α => cmpI (f x) (f y)) where
  irrefl x := decide_eq_false (by show ¬ cmpI (f x) (f x) < 0; rw [cmpI_refl]; omega)
  trans x y z h k := by simp only [ltOf] at *; rw [decide_eq_true_eq] at *; exact cmpI_trans h k
  ntrans x y z h k := by
    simp only [ltOf] at *
    rw [decide_eq_false_iff_not] at *
    have h' : cmpI (f y) (f x) ≤ 0 := by rw [cmpI_swap]; omega
    have k' : cmpI (f z) (f y) ≤ 0 := by rw [cmpI_swap]; omega
    have := cmpI_le k' h'
    rw [cmpI_swap] at this
    omega
/-- A list that doesn't fall. -/
def UpL (ts : List TV) : Prop := ts.Pairwise fun a b => cmpI a.l b.l ≤ 0
theorem enter20 : ∀ args w, (callFunc 70 args).run Try.prog w = .ok (.enter 70 args) w := enters_of Try.func70 (by kernel_rfl) rfl
/-- slices.SortFunc of a row of tuples, by Cmp. -/
theorem sort_any (w : World) (base blk cap : Nat) (ts : List TV) (h : OwnT w base (.slice (some ⟨blk, 0, none⟩) ts.length cap) ts) (hb : blk < w.heap.size) (hok : ∀ t ∈ ts, t.Ok w ∧ ∀ a, t.A = some a → a.block ≠ blk) (hsm : ts.length ≤ 5000) :
    Calls Try.prog 69 #[.slice (some ⟨blk, 0, none⟩) ts.length cap, .func (.func 70) #[] #[]] w fun e w' =>
      e = .returned (.tuple #[]) ∧ ∃ us, us.Perm ts ∧ UpL us ∧ OwnT w' base (.slice (some ⟨blk, 0, none⟩) us.length cap) us ∧ Fr w w' [blk] := by
  let α := {t : TV // t.Ok w ∧ ∀ a, t.A = some a → a.block ≠ blk}
  letI : Inhabited α := ⟨⟨⟨none, [], 0⟩, ⟨Rd.emp _ _ _, Nat.le_refl _, by simp⟩, fun a ha => nomatch ha⟩⟩
  let d : Array α := (ts.attach.map fun t => (⟨t.1, hok t.1 t.2⟩ : α)).toArray
  have hd : d.toList.map Subtype.val = ts := by simp [d, Function.comp_def]
  have hds : d.size = ts.length := by simp [d]
  have hH := h.holds (α := α) Subtype.val d hd
  have hcmp : CmpReads Try.prog 70 #[] (fun x : α => x.1.val) (fun x y => cmpI x.1.l y.1.l) blk 0 d.size w := by
    intro m os dk _ x y
    have hf := fr_put (fun x : α => x.1.val) w blk 0 m dk os
    refine (cmpT_any x.1 y.1 _ (x.2.1.frS hf fun a ha hm => x.2.2 a ha (List.mem_singleton.1 hm)) (y.2.1.frS hf fun a ha hm => y.2.2 a ha (List.mem_singleton.1 hm))).mono ?_
    rintro e w' ⟨rfl, rfl⟩
    exact ⟨rfl, 0, rfl⟩
  have hc := Any.slices_SortFunc Try.sortT (fun x : α => x.1.val) (fun _ => rfl) (fun x y => cmpI x.1.l y.1.l) (swo_cmp fun x : α => x.1.l) 70 #[] blk 0 cap d w enter20 hcmp.lays hH hb (by omega)
  rw [hds] at hc
  refine hc.mono ?_
  rintro e w' ⟨rfl, d', n, os, ⟨hsz, _, hp⟩, hso, rfl⟩
  have hall : ∀ x : Array α, x.size = ts.length → (x.extract 0 ts.length).toList = x.toList := by
    intro x hx
    rw [← hx]
    simp
  rw [hall d' (by omega), hall d hds] at hp
  have hl : (d'.toList.map Subtype.val).length = ts.length := by simp; omega
  refine ⟨rfl, d'.toList.map Subtype.val, hd ▸ hp.map _, ?_, ?_, fr_put _ _ _ _ _ _ _⟩
  · unfold UpL
    rw [List.pairwise_iff_getElem]
    intro i j hi hj hij
    rw [hl] at hi hj
    have := hso i j (Nat.zero_le _) hij hj
    rw [getElem!_pos d' i (by omega), getElem!_pos d' j (by omega)] at this
    simp only [ltOf] at this
    rw [decide_eq_false_iff_not] at this
    simp only [List.getElem_map, Array.getElem_toList]
    rw [cmpI_swap]
    omega
  · have hq := h.put (α := α) Subtype.val hb n d' os (by omega) ts.length (Nat.le_refl _)
    rw [List.take_of_length_le (Nat.le_of_eq hl)] at hq
    rw [hl]
    exact hq
/-- .. of no tuple. -/
theorem sort_none (w : World) (A : Option Addr) (cap : Nat) : Calls Try.prog 69 #[.slice A 0 cap, .func (.func 70) #[] #[]] w fun e w' => e = .returned (.tuple #[]) ∧ w' = w :=
  AnyF.slices_SortFunc_none (P := Try.prog) (ρ := Try.sortT_ren) { Try.sortT with } A cap _ w
end Go.Proofs.Ytmldiojlglpoiaa
