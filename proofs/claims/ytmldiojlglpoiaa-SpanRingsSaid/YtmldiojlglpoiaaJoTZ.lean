/- TupZ, what this seat can fill of it. -/
import Derived.Test.YtmldiojlglpoiaaJoTY
namespace Go.Proofs.Ytmldiojlglpoiaa
/- tuple.Set: copied, sorted, of the same one kept. -/
open Go.RowKit Go.Maps Go.Shelf Go.Sort Go.Lib

/-- A row of the call's own has a block, or no tuple. -/
theorem OwnL.blk {w : World} {base : Nat} {y : LV} (h : OwnL w base y.val y.ts) (hn : y.ts.length ≠ 0) : ∃ g, y.A = some ⟨g, 0, none⟩ ∧ base ≤ g ∧ g < w.heap.size ∧ ∀ t ∈ y.ts, ∀ a, t.A = some a → a.block ≠ g := by
  rcases h.row.2 with ⟨_, e⟩ | ⟨g, cap, cur, hv, hb, hh, _⟩
  · exact absurd e hn
  · unfold LV.val at hv
    injection hv with e1 _ _
    refine ⟨g, e1, hb, heap_lt hh, fun t ht a ha e => ?_⟩
    refine own_apart (h.tup t ht) h.row (by decide) a.block (by unfold TV.val; rw [ha]; simp [Value.ownBlock]) ?_
    unfold LV.val
    rw [e1, e]
    simp [Value.ownBlock]
theorem Fr.lower1 {w w' : World} {g base : Nat} (h : Fr w w' [g]) (hb : base ≤ g) (hw : base ≤ w.heap.size) : Below base w w' := h.below hw fun x hx => by rw [List.mem_singleton.1 hx]; exact hb
/-- A list of some of its tuples, in the row's block. -/
theorem OwnL.turned {w w' : World} {base g n c : Nat} {y : LV} {us : List TV} (h : OwnL w base y.val y.ts) (hf : Fr w w' [g]) (ho : ∀ t ∈ y.ts, ∀ a, t.A = some a → a.block ≠ g) (hu : OwnT w' base (.slice (some ⟨g, 0, none⟩) n c) us) (hs : ∃ zs, zs.Perm y.ts ∧ us.Sublist zs) :
    OwnL w' base (.slice (some ⟨g, 0, none⟩) n c) us := by
  obtain ⟨zs, hp, hsub⟩ := hs
  have hm : ∀ t, t ∈ us → t ∈ y.ts := fun t ht => hp.subset (hsub.subset ht)
  refine ⟨hu, fun t ht => (h.tup t (hm t ht)).fr hf fun a ha hx => ho t (hm t ht) a ha (List.mem_singleton.1 hx), fun t ht => h.sm t (hm t ht), ?_⟩
  exact ((hp.pairwise_iff Off.symm).2 h.off).sublist hsub
/-- slices.SortFunc(out, Cmp). -/
def SoPost (w : World) (base : Nat) (y : LV) (e : Ending) (w' : World) : Prop :=
  e = .returned (.tuple #[]) ∧ ∃ us, us.Perm y.ts ∧ UpL us ∧ OwnL w' base (.slice y.A y.ts.length y.c) us ∧ Below base w w'
theorem sort_l (w : World) (base : Nat) (y : LV) (h : OwnL w base y.val y.ts) (hk : y.Ok w) (hw : base ≤ w.heap.size) :
    Calls Try.prog 69 #[.slice y.A y.ts.length y.c, .func (.func 70) #[] #[]] w (SoPost w base y) := by
  by_cases hn : y.ts.length = 0
  · have h0 : y.ts = [] := List.eq_nil_of_length_eq_zero hn
    have hc := sort_none w y.A y.c
    rw [← hn] at hc
    refine hc.mono ?_
    rintro e w' ⟨rfl, rfl⟩
    refine ⟨rfl, y.ts, List.Perm.refl _, by rw [h0]; exact .nil, h, Below.refl _ _⟩
  · obtain ⟨g, hA, hb, hg, ho⟩ := h.blk hn
    have hr : OwnT w base (.slice (some ⟨g, 0, none⟩) y.ts.length y.c) y.ts := by rw [← hA]; exact h.row
    rw [hA]
    refine (sort_any w base g y.c y.ts hr hg (fun t ht => ⟨hk.ok t ht, ho t ht⟩) hk.sm).mono ?_
    rintro e w' ⟨rfl, us, hp, hu, hO, hf⟩
    refine ⟨rfl, us, hp, hu, ?_, hf.lower1 hb hw⟩
    rw [hA, ← hp.length_eq]
    exact h.turned hf ho hO ⟨us, hp, List.Sublist.refl _⟩
set_option maxRecDepth 100000 in
/-- slices.CompactFunc of no tuple. -/
theorem compact_none (w : World) (A : Option Addr) (cap : Nat) (fv : Value) : Calls Try.prog 71 #[.slice A 0 cap, fv] w fun e w' => e = .returned (.slice A 0 cap) ∧ w' = w := by
  go_enter Try.func71, Try.ntmps71
  go_wp2_with (fail)
  go_ret
  exact ⟨rfl, rfl⟩
/-- slices.CompactFunc(out, same), of a row that doesn't fall. -/
def CfPost (w : World) (base : Nat) (R : List Tu) (e : Ending) (w' : World) : Prop :=
  ∃ u : LV, e = .returned (.slice u.A u.ts.length u.c) ∧ OwnL w' base u.val u.ts ∧ u.Ok w' ∧ tus u.ts = R ∧ Below base w w'
theorem compact_l (w : World) (base : Nat) (y : LV) (h : OwnL w base y.val y.ts) (hk : y.Ok w) (hu : UpL y.ts) (hw : base ≤ w.heap.size) :
    Calls Try.prog 71 #[.slice y.A y.ts.length y.c, .func (.func 72) #[] #[]] w (CfPost w base (setL (tus y.ts))) := by
  by_cases hn : y.ts.length = 0
  · have h0 : y.ts = [] := List.eq_nil_of_length_eq_zero hn
    have hc := compact_none w y.A y.c (.func (.func 72) #[] #[])
    rw [← hn] at hc
    refine hc.mono ?_
    rintro e w' ⟨rfl, rfl⟩
    exact ⟨y, rfl, h, hk, by rw [h0]; rfl, Below.refl _ _⟩
  · obtain ⟨g, hA, hb, hg, ho⟩ := h.blk hn
    have hr : OwnT w base (.slice (some ⟨g, 0, none⟩) y.ts.length y.c) y.ts := by rw [← hA]; exact h.row
    have hds : y.ts.toArray.size = y.ts.length := by simp
    have hget : ∀ j, j < y.ts.toArray.size → y.ts.toArray[j]! ∈ y.ts := fun j hj => by rw [getElem!_pos _ j hj]; simp
    rw [hA]
    have hcore := compact_core w g 0 y.c y.ts.toArray (hr.holds id y.ts.toArray (by simp)) (fun j hj => ⟨hk.ok _ (hget j hj), ho _ (hget j hj)⟩) (by rw [hds]; exact hk.sm) (by rw [hds]; exact hk.cap)
    rw [hds] at hcore
    refine hcore.mono ?_
    rintro e w' ⟨rfl, q, dk, hdk, hlow, rfl⟩
    have hsub := cpN_sub y.ts.toArray
    rw [hds] at hsub
    have hset := cpN_set y.ts.toArray hu (tus y.ts) (List.Perm.refl _)
    rw [hds] at hset
    generalize cpN y.ts.toArray y.ts.length = R at *
    have hRl : R.length ≤ y.ts.length := hsub.length_le
    have hf : Fr w (putRow TV.val (Sort.ahead w q) g 0 dk) [g] := by
      have := fr_put TV.val w g 0 q dk #[]
      rwa [grow_empty] at this
    have hput := hr.put id hg q dk #[] (by rw [hdk]) R.length hRl
    rw [grow_empty, List.map_id] at hput
    have hR : dk.toList.take R.length = R := by
      apply List.ext_getElem?
      intro j
      rw [List.getElem?_take]
      by_cases hj : j < R.length
      · rw [if_pos hj, hlow j hj, Array.getElem?_toList, getElem!_pos dk j (by omega), Array.getElem?_eq_getElem (by omega)]
      · rw [if_neg hj, List.getElem?_eq_none (by omega)]
    rw [hR] at hput
    have hO := h.turned hf ho hput ⟨y.ts, List.Perm.refl _, hsub⟩
    exact ⟨⟨some ⟨g, 0, none⟩, R, y.c⟩, rfl, hO, OwnL.ok' (x := ⟨some ⟨g, 0, none⟩, R, y.c⟩) hO (Nat.le_trans hRl hk.sm) rfl, hset, hf.lower1 hb hw⟩
set_option maxRecDepth 100000 in
set_option maxHeartbeats 1000000 in
/-- tuple.Set. -/
theorem set_l (x : LV) (w : World) (hx : x.Ok w) : Calls Try.prog 40 #[.slice x.A x.ts.length x.c] w (CoL w (setL (tus x.ts))) := by
  have HC := Lib.hid (copied_l x w hx)
  clear hx
  go_enter Try.func40, Try.ntmps40
  go_wp2_with (first
    | (go_at_call 61; (with_reducible refine HC.out.mono ?_); rintro e w1 ⟨y, rfl, o1, k1, e1, b1⟩; have HS := Lib.hid (sort_l w1 w.heap.size y o1 k1 b1.size); have E1 := Lib.hid (And.intro k1 (And.intro e1 b1)); clear o1 k1 e1 b1 HC)
    | (go_at_call 69; (with_reducible refine HS.out.mono ?_); rintro e w2 ⟨rfl, us, p2, u2, o2, b2⟩; have q2 := p2.length_eq; rw [← q2] at o2; have s2 : us.length ≤ 5000 := (by have := E1.out.1.sm; omega); have HF : Hid (Calls Try.prog 71 #[.slice y.A y.ts.length y.c, .func (.func 72) #[] #[]] w2 (CfPost w2 w.heap.size (setL (tus us)))) := Lib.hid (by rw [← q2]; exact compact_l w2 w.heap.size ⟨y.A, us, y.c⟩ o2 (OwnL.ok' (x := ⟨y.A, us, y.c⟩) o2 s2 rfl) u2 (Nat.le_trans E1.out.2.2.size b2.size)))
    | (go_at_call 71; (with_reducible refine HF.out.mono ?_); rintro e w3 ⟨v, rfl, o3, k3, e3, b3⟩))
  go_ret
  refine ⟨v, rfl, o3, k3, ?_, E1.out.2.2.trans (b2.trans b3)⟩
  rw [e3, ← E1.out.2.1]
  exact ris_ext (ris_set _) (ris_set _) fun q => by rw [mem_set, mem_set]; exact (p2.map TV.l).mem_iff
end Go.Proofs.Ytmldiojlglpoiaa
