/- Joined: SpLA SpR SpU. -/
import Derived.Test.YtmldiojlglpoiaaJnF
import Derived.Test.YtmldiojlglpoiaaSpR0
/- A walk that stands in a list, plainly: what it has left, on whom it stands, where it may go yet. -/
namespace Go.Proofs.Ytmldiojlglpoiaa

/-- The way on which the walk stands, its end first. -/
def ChainTo (O : Rows) : List Nat → Prop
  | [] => True
  | [_] => True
  | b :: a :: l => AtR O a b ∧ ChainTo O (a :: l)
theorem ChainTo.tail {O : Rows} {a : Nat} {l : List Nat} (h : ChainTo O (a :: l)) : ChainTo O l := by
  cases l with
  | nil => trivial
  | cons b l => exact h.2
theorem ChainTo.cons {O : Rows} {a b : Nat} {l : List Nat} (h : ChainTo O (a :: l)) (k : AtR O a b) : ChainTo O (b :: a :: l) := ⟨k, h⟩
theorem ChainTo.lead {O : Rows} : ∀ {l : List Nat} {a q : Nat}, ChainTo O (a :: l) → q ∈ l → Lead (AtR O) q a
  | [], _, _, _, h => nomatch h
  | b :: l, a, q, h, hq => by
    rcases List.mem_cons.1 hq with rfl | hq
    · exact .one h.1
    · exact (ChainTo.lead h.2 hq).snoc h.1
/-- What has been left (L), on whom the walk stands (R, its end first), where each may lead it yet (M). -/
structure Dfs (O : Rows) (n : Nat) (L R : List Nat) (M : Rows) : Prop where
  ml : M.length = n
  nd : (L ++ R).Nodup
  bnd : ∀ q, q ∈ L ++ R → q < n
  tk : ∀ p, ∃ T, O.getD p [] = T ++ M.getD p [] ∧ ∀ q ∈ T, q ∈ L ++ R
  fin : ∀ p ∈ L, M.getD p [] = []
  chain : ChainTo O R
  back : ∀ (i : Nat) (hi : i < L.length), ∀ x ∈ L.take (i + 1), ∀ q, AtR O x q → q ∉ L.take (i + 1) → Lead (AtR O) q L[i]
theorem Dfs.start {O : Rows} {n : Nat} (h : O.length = n) : Dfs O n [] [] O :=
  ⟨h, .nil, fun _ h => by simp at h, fun p => ⟨[], rfl, fun _ h => by simp at h⟩, fun _ h => by simp at h, trivial, fun i hi => absurd hi (Nat.not_lt_zero _)⟩
theorem Dfs.push {O : Rows} {n : Nat} {L : List Nat} {M : Rows} (h : Dfs O n L [] M) {q : Nat} (hq : q < n) (hn : q ∉ L) : Dfs O n L [q] M := by
  refine ⟨h.ml, ?_, fun z hz => ?_, fun p => ?_, h.fin, trivial, h.back⟩
  · have h1 := h.nd
    rw [List.append_nil] at h1
    rw [List.nodup_append]
    exact ⟨h1, List.pairwise_singleton _ _, fun a ha b hb => by rw [List.mem_singleton.1 hb]; exact fun e => hn (e ▸ ha)⟩
  · rcases List.mem_append.1 hz with hz | hz
    · exact h.bnd z (List.mem_append.2 (.inl hz))
    · rw [List.mem_singleton.1 hz]; exact hq
  · obtain ⟨T, h1, h2⟩ := h.tk p
    exact ⟨T, h1, fun z hz => by have := h2 z hz; rw [List.append_nil] at this; exact List.mem_append.2 (.inl this)⟩
/-- The walk leaves a place. -/
theorem Dfs.leave {O : Rows} {n a : Nat} {L R : List Nat} {M : Rows} (h : Dfs O n L (a :: R) M) (hm : M.getD a [] = []) : Dfs O n (L ++ [a]) R M := by
  have hmem : ∀ q, q ∈ L ++ (a :: R) ↔ q ∈ (L ++ [a]) ++ R := fun q => by simp
  have hgone : ∀ x ∈ L ++ [a], ∀ q, AtR O x q → q ∉ L ++ [a] → Lead (AtR O) q a := by
    intro x hx q hq hn
    obtain ⟨T, h1, h2⟩ := h.tk x
    have hmx : M.getD x [] = [] := by
      rcases List.mem_append.1 hx with hx | hx
      · exact h.fin x hx
      · rw [List.mem_singleton.1 hx]; exact hm
    unfold AtR at hq
    rw [h1, hmx, List.append_nil] at hq
    have h3 := h2 q hq
    rw [List.mem_append] at h3
    rcases h3 with h3 | h3
    · exact absurd (List.mem_append.2 (.inl h3)) hn
    · rcases List.mem_cons.1 h3 with rfl | h3
      · exact absurd (List.mem_append.2 (.inr (List.mem_singleton.2 rfl))) hn
      · exact h.chain.lead h3
  refine ⟨h.ml, ?_, fun z hz => h.bnd z ((hmem z).2 hz), fun p => ?_, fun p hp => ?_, h.chain.tail, fun i hi x hx q hq hn => ?_⟩
  · have h1 := h.nd
    rw [List.append_assoc]
    exact h1
  · obtain ⟨T, h1, h2⟩ := h.tk p
    exact ⟨T, h1, fun z hz => (hmem z).1 (h2 z hz)⟩
  · rcases List.mem_append.1 hp with hp | hp
    · exact h.fin p hp
    · rw [List.mem_singleton.1 hp]; exact hm
  · rw [List.length_append, List.length_singleton] at hi
    by_cases e : i < L.length
    · rw [List.take_append_of_le_length (by omega)] at hx hn
      rw [List.getElem_append_left e]
      exact h.back i e x hx q hq hn
    · have e2 : i = L.length := by omega
      subst e2
      rw [List.take_of_length_le (by simp)] at hx hn
      rw [show (L ++ [a])[L.length]'(by simp) = a from by simp]
      exact hgone x hx q hq hn
theorem getD_setR {M : Rows} {a : Nat} {m : List Nat} (ha : a < M.length) (p : Nat) : (M.set a m).getD p [] = if p = a then m else M.getD p [] := by
  rw [List.getD_eq_getElem?_getD, List.getElem?_set, List.getD_eq_getElem?_getD]
  by_cases e : a = p
  · subst e; rw [if_pos rfl, if_pos ha, if_pos rfl]; rfl
  · rw [if_neg e, if_neg (fun h => e h.symm)]
/-- It looks along an edge, to a place that is known. -/
theorem Dfs.skip {O : Rows} {n a q : Nat} {L R m : List Nat} {M : Rows} (h : Dfs O n L (a :: R) M) (hm : M.getD a [] = q :: m) (hq : q ∈ L ++ (a :: R)) : Dfs O n L (a :: R) (M.set a m) := by
  have ha : a < M.length := by rw [h.ml]; exact h.bnd a (by simp)
  refine ⟨by rw [List.length_set]; exact h.ml, h.nd, h.bnd, fun p => ?_, fun p hp => ?_, h.chain, h.back⟩
  · obtain ⟨T, h1, h2⟩ := h.tk p
    rw [getD_setR ha]
    by_cases e : p = a
    · subst e
      rw [if_pos rfl]
      exact ⟨T ++ [q], by rw [h1, hm, List.append_assoc]; rfl, fun z hz => by
        rcases List.mem_append.1 hz with hz | hz
        · exact h2 z hz
        · rw [List.mem_singleton.1 hz]; exact hq⟩
    · rw [if_neg e]; exact ⟨T, h1, h2⟩
  · rw [getD_setR ha]
    by_cases e : p = a
    · subst e
      have := h.fin p hp
      rw [hm] at this
      cases this
    · rw [if_neg e]; exact h.fin p hp
/-- .. to a place that is new. -/
theorem Dfs.go {O : Rows} {n a q : Nat} {L R m : List Nat} {M : Rows} (h : Dfs O n L (a :: R) M) (hm : M.getD a [] = q :: m) (hq : q < n) (hn : q ∉ L ++ (a :: R)) : Dfs O n L (q :: a :: R) (M.set a m) := by
  have ha : a < M.length := by rw [h.ml]; exact h.bnd a (by simp)
  have hmem : ∀ z, z ∈ L ++ (q :: a :: R) ↔ z = q ∨ z ∈ L ++ (a :: R) := fun z => by
    simp only [List.mem_append, List.mem_cons]
    constructor
    · rintro (h | h | h)
      · exact .inr (.inl h)
      · exact .inl h
      · exact .inr (.inr h)
    · rintro (h | h | h)
      · exact .inr (.inl h)
      · exact .inl h
      · exact .inr (.inr h)
  have hat : AtR O a q := by
    obtain ⟨T, h1, _⟩ := h.tk a
    unfold AtR
    rw [h1, hm]
    simp
  refine ⟨by rw [List.length_set]; exact h.ml, ?_, fun z hz => ?_, fun p => ?_, fun p hp => ?_, h.chain.cons hat, h.back⟩
  · have h1 := List.nodup_append.1 h.nd
    rw [List.nodup_append]
    refine ⟨h1.1, List.nodup_cons.2 ⟨fun hm => hn (List.mem_append.2 (.inr hm)), h1.2.1⟩, fun x hx b hb => ?_⟩
    rcases List.mem_cons.1 hb with rfl | hb
    · exact fun e => hn (List.mem_append.2 (.inl (e ▸ hx)))
    · exact h1.2.2 x hx b hb
  · rcases (hmem z).1 hz with rfl | hz
    · exact hq
    · exact h.bnd z hz
  · obtain ⟨T, h1, h2⟩ := h.tk p
    rw [getD_setR ha]
    by_cases e : p = a
    · subst e
      rw [if_pos rfl]
      exact ⟨T ++ [q], by rw [h1, hm, List.append_assoc]; rfl, fun z hz => by
        rcases List.mem_append.1 hz with hz | hz
        · exact (hmem z).2 (.inr (h2 z hz))
        · rw [List.mem_singleton.1 hz]; exact (hmem q).2 (.inl rfl)⟩
    · rw [if_neg e]; exact ⟨T, h1, fun z hz => (hmem z).2 (.inr (h2 z hz))⟩
  · rw [getD_setR ha]
    by_cases e : p = a
    · subst e
      have := h.fin p hp
      rw [hm] at this
      cases this
    · rw [if_neg e]; exact h.fin p hp
/-- Behind the whole walk. -/
theorem Dfs.done {O : Rows} {n : Nat} {L : List Nat} {M : Rows} (h : Dfs O n L [] M) (hall : ∀ q, q < n → q ∈ L) : LeftOk O n L := by
  have h1 := h.nd
  rw [List.append_nil] at h1
  exact ⟨h1, fun q => ⟨fun hq => h.bnd q (List.mem_append.2 (.inl hq)), hall q⟩, h.back⟩
theorem Dfs.len {O : Rows} {n : Nat} {L R : List Nat} {M : Rows} (h : Dfs O n L R M) : L.length + R.length ≤ n := by
  have := nodup_len (m := List.range n) h.nd fun x hx => List.mem_range.2 (h.bnd x hx)
  rw [List.length_append, List.length_range] at this
  exact this
/-- How much is to do yet. -/
def leftM (M : Rows) (R : List Nat) : Nat := 2 * (M.map List.length).sum + R.length
theorem sum_set : ∀ {M : Rows} {a : Nat} {q : Nat} {m : List Nat}, M.getD a [] = q :: m → ((M.set a m).map List.length).sum + 1 = (M.map List.length).sum
  | [], a, q, m, h => by simp at h
  | x :: M, 0, q, m, h => by
    simp only [List.getD_cons_zero] at h
    subst h
    simp
    omega
  | x :: M, a + 1, q, m, h => by
    have ih := sum_set (M := M) (a := a) (q := q) (m := m) (by simpa using h)
    rw [List.set_cons_succ, List.map_cons, List.map_cons, List.sum_cons, List.sum_cons]
    omega
end Go.Proofs.Ytmldiojlglpoiaa
/- span.reached. -/
namespace Go.Proofs.Ytmldiojlglpoiaa
open Go.RowKit Go.Maps Go.Sort

set_option maxRecDepth 100000 in
set_option maxHeartbeats 8000000 in
theorem reached_any (x : RV) (E : List Pr) (w0 w : World) (hx : x.Ok w0) (hr : Rdy x E) (hb : Below w0.heap.size w0 w) (f : Nat) (hf : f < x.N.length) (s : TV) (hs : OwnI w w0.heap.size s) (hsl : s.l.length = x.N.length) (hsn : ∀ v ∈ s.l, v ≠ (f : Int)) :
    Calls Try.prog 68 #[.agg (rvA x), .int .i64 (f : Int), .slice s.A s.l.length s.c] w (RcPost (plR x.o.ts) x.N.length f w w0.heap.size s) := by
  obtain ⟨gs, cur, hsA, hgl, hgw, _⟩ := hs.blk (by omega)
  have hbx := two_bel w (.cells (rvA x) 76) (.cells #[.int .i64 (f : Int)] 3)
  have hg1 := heap_alloc_new w (.cells (rvA x) 76)
  have hg1' : ((w.alloc (.cells (rvA x) 76)).alloc (.cells #[.int .i64 (f : Int)] 3)).heap[w.heap.size]? = some (.cells (rvA x) 76 (0, 0)) := (((Below.refl _ _).alloc (Nat.le_refl _) _).block w.heap.size (by simp)).trans hg1
  have hg2 := heap_alloc_new (w.alloc (.cells (rvA x) 76)) (.cells #[.int .i64 (f : Int)] 3)
  rw [alloc1_size] at hg2
  have hfd : OwnI ((w.alloc (.cells (rvA x) 76)).alloc (.cells #[.int .i64 (f : Int)] 3)) w.heap.size ⟨some ⟨w.heap.size + 1, 0, none⟩, intsP [f], 1⟩ := own_heap (l := [(f : Int)]) hg2 (by omega) (by show 1 ≤ 5000; omega)
  have hs2 := hs.below hbx
  have hnl := hr.nl
  unfold rvA at hbx hg1' ⊢
  unfold rvA at hfd hs2
  have HX := Lib.hid (And.intro hx (And.intro hr (And.intro hb (And.intro hf (And.intro hsl hsn)))))
  have HSB := Lib.hid (And.intro hgl hgw)
  have HIN := Lib.hid (And.intro hbx (And.intro hg1' (And.intro hfd hs2)))
  have HSA := Lib.hid hsA
  rw [hsA]
  clear hx hr hb hs hsl hsn hgl hgw hbx hg1 hg1' hg2 hfd hs2 hsA
  have hfI : (f : Int) ≤ 2000 := by omega
  go_enter Try.func68, Try.ntmps68
  go_upto_region 2 with (fail)
  generalize ((w.alloc (.cells #[.slice x.nA x.N.length x.nc, .slice x.o.A x.o.ts.length x.o.c, .slice x.i.A x.i.ts.length x.i.c] 76)).alloc (.cells #[.int .i64 (f : Int)] 3)) = w1 at HIN ⊢
  go_wp2_with (fail)
  go_loopw [7, 8] (fun v7 v8 wr => ∃ (i : Nat) (g c : Nat) (F : List Nat) (sl : List Int), i ≤ F.length + 1 ∧ F.length ≤ x.N.length ∧ v7 = .slice (some ⟨g, 0, none⟩) (F.length + 1) c ∧ v8 = .int .i64 (i : Int) ∧ Hid (OwnI wr w.heap.size ⟨some ⟨g, 0, none⟩, intsP (f :: F), c⟩ ∧ OwnI wr w0.heap.size ⟨some ⟨gs, 0, none⟩, sl, s.c⟩ ∧ Bfs (plR x.o.ts) x.N.length f F i ∧ sl.length = x.N.length ∧ (∀ q, q < x.N.length → (sl.getD q 0 = (f : Int) ↔ q ∈ F)) ∧ (∀ v ∈ sl, v ∈ s.l ∨ v = (f : Int)) ∧ Below w0.heap.size w wr ∧ Fr w wr [gs] ∧ wr.heap[w.heap.size]? = some (.cells #[.slice x.nA x.N.length x.nc, .slice x.o.A x.o.ts.length x.o.c, .slice x.i.A x.i.ts.length x.i.c] 76 (0, 0)))) (fun _ v8 _ => x.N.length + 1 - (intOf v8).toNat)
  case atStart =>
    refine ⟨0, w.heap.size + 1, 1, [], s.l, by omega, by simp, rfl, rfl, Lib.hid ⟨HIN.out.2.2.1, by have := HIN.out.2.2.2; unfold OwnI TV.val at this ⊢; rw [HSA.out] at this; exact this, Bfs.start _ _ _, HX.out.2.2.2.2.1, fun q hq => ⟨fun h => absurd h (HX.out.2.2.2.2.2 _ ?_), fun h => nomatch h⟩, fun v hv => .inl hv, lower' HIN.out.1 HX.out.2.2.1.size, Fr.of_below HIN.out.1 _, HIN.out.2.1⟩⟩
    rw [List.getD_eq_getElem?_getD, List.getElem?_eq_getElem (by rw [HX.out.2.2.2.2.1]; exact hq)]
    exact List.getElem_mem _
  case round =>
    obtain ⟨i, g, c, F, sl, hi, hFn, rfl, rfl, hrel⟩ := hrel
    by_cases hlt : i < F.length + 1
    · have hlI : (i : Int) < (F.length : Int) + 1 := by omega
      obtain ⟨p, hp⟩ : ∃ p, p = (f :: F).getD i f := ⟨_, rfl⟩
      have hpm : p ∈ f :: F := by
        rw [hp, List.getD_eq_getElem?_getD, List.getElem?_eq_getElem (by simpa using hlt)]
        exact List.getElem_mem _
      have hpn : p < x.N.length := by
        rcases List.mem_cons.1 hpm with e | h
        · rw [e]; exact HX.out.2.2.2.1
        · exact (hrel.out.2.2.1.lead p h).1
      have hpo : p < x.o.ts.length := by rw [HX.out.2.1.ol]; exact hpn
      have hbw := HX.out.2.2.1.trans hrel.out.2.2.2.2.2.2.1
      have hxw := HX.out.1.below hbw
      obtain ⟨-, d1, -⟩ := bx3 hrel.out.2.2.2.2.2.2.2.2
      obtain ⟨ob, oo, hoA, _, r0⟩ := LV.Ok.cel hxw.o hpo
      rw [hoA] at d1
      obtain ⟨eb, eo, heA, _, e0⟩ := (OwnI.ok hrel.out.1 (by dsimp only; rw [intsP_len]; simp; omega)).cell (k := i) (by dsimp only; rw [intsP_len]; simpa using hlt)
      dsimp only at heA e0
      injection heA with heA
      injection heA with e8 e9
      subst e8 e9
      rw [Nat.zero_add, intsP_at (by simpa using hlt), show (f :: F)[i]'(by simpa using hlt) = p from by rw [hp, List.getD_eq_getElem?_getD, List.getElem?_eq_getElem (by simpa using hlt)]; rfl] at e0
      have hat := fun q => atR_int hpo HX.out.2.1.po q
      have htb := HX.out.2.1.po _ (List.getElem_mem hpo)
      have hto := fun W (hW : Below w0.heap.size w0 W) => LV.Ok.att (HX.out.1.below hW).o hpo
      generalize x.o.ts[p] = t at r0 hat htb hto
      have htl : t.l.length ≤ 5000 := (hto _ hbw).sm
      have hpI : (p : Int) < (x.o.ts.length : Int) := by omega
      have HP := Lib.hid (And.intro hp (And.intro hpm (And.intro hat (And.intro htb hto))))
      have HR := Lib.hid hrel.out
      clear hp hpm hpo hbw hxw hoA hat htb hto hrel
      go_upto_region 5 with (fail)
      go_quiet (fail)
      have HR2 := Lib.hid (And.intro (OwnI.below HR.out.1 (Below.drewN' (Below.refl _ _) nq)) (And.intro (OwnI.below HR.out.2.1 (Below.drewN' (Below.refl _ _) nq)) (And.intro HR.out.2.2.1 (And.intro HR.out.2.2.2.1 (And.intro HR.out.2.2.2.2.1 (And.intro HR.out.2.2.2.2.2.1 (And.intro (Below.drewN' HR.out.2.2.2.2.2.2.1 nq) (And.intro (HR.out.2.2.2.2.2.2.2.1.drewN nq) (show (wr.drewN nq).heap[w.heap.size]? = some (.cells #[.slice x.nA x.N.length x.nc, .slice x.o.A x.o.ts.length x.o.c, .slice x.i.A x.i.ts.length x.i.c] 76 (0, 0)) from HR.out.2.2.2.2.2.2.2.2)))))))))
      generalize wr.drewN nq = wa at HR2 ⊢
      clear HR d1 r0 e0 hpI
      go_wp2_with (fail)
      go_loopw [7, 28] (fun v7 v28 wq => ∃ (j g c : Nat) (F : List Nat) (sl : List Int), j ≤ t.l.length ∧ i < F.length + 1 ∧ F.length ≤ x.N.length ∧ v28 = .int .i64 (j : Int) ∧ v7 = .slice (some ⟨g, 0, none⟩) (F.length + 1) c ∧ Hid (OwnI wq w.heap.size ⟨some ⟨g, 0, none⟩, intsP (f :: F), c⟩ ∧ OwnI wq w0.heap.size ⟨some ⟨gs, 0, none⟩, sl, s.c⟩ ∧ Bfs (plR x.o.ts) x.N.length f F i ∧ sl.length = x.N.length ∧ (∀ q, q < x.N.length → (sl.getD q 0 = (f : Int) ↔ q ∈ F)) ∧ (∀ v ∈ sl, v ∈ s.l ∨ v = (f : Int)) ∧ Below w0.heap.size w wq ∧ Fr w wq [gs] ∧ wq.heap[w.heap.size]? = some (.cells #[.slice x.nA x.N.length x.nc, .slice x.o.A x.o.ts.length x.o.c, .slice x.i.A x.i.ts.length x.i.c] 76 (0, 0)) ∧ p ∈ f :: F ∧ p = (f :: F).getD i f ∧ ∀ q : Nat, (q : Int) ∈ t.l.take j → q ∈ F)) (fun _ v28 _ => t.l.length - (intOf v28).toNat)
      case atStart => exact ⟨0, g, c, F, sl, by omega, hlt, hFn, rfl, rfl, Lib.hid ⟨HR2.out.1, HR2.out.2.1, HR2.out.2.2.1, HR2.out.2.2.2.1, HR2.out.2.2.2.2.1, HR2.out.2.2.2.2.2.1, HR2.out.2.2.2.2.2.2.1, HR2.out.2.2.2.2.2.2.2.1, HR2.out.2.2.2.2.2.2.2.2, HP.out.2.1, HP.out.1, fun q hq => by simp at hq⟩⟩
      case round =>
        clear HR2
        obtain ⟨j, g, c, F, sl, hj, hiF, hFn, rfl, rfl, hrel⟩ := hrel
        rename World => wq
        by_cases hjt : j < t.l.length
        · have hjI : (j : Int) < (t.l.length : Int) := by omega
          have htb := HP.out.2.2.2.1 _ (List.getElem_mem hjt)
          obtain ⟨q, hq⟩ : ∃ q : Nat, t.l[j] = (q : Int) := ⟨t.l[j].toNat, by omega⟩
          have hqn : q < x.N.length := by omega
          have htk : t.l.take (j + 1) = t.l.take j ++ [(q : Int)] := by rw [List.take_succ_eq_append_getElem hjt, hq]
          have hAt : AtR (plR x.o.ts) p q := (HP.out.2.2.1 q).2 (by rw [← hq]; exact List.getElem_mem hjt)
          obtain ⟨tb, tof, htA, _, t0⟩ := (HP.out.2.2.2.2 _ (HX.out.2.2.1.trans hrel.out.2.2.2.2.2.2.1)).cell hjt
          rw [hq] at t0
          rw [htA]
          have hqs : q < sl.length := by rw [hrel.out.2.2.2.1]; exact hqn
          have hset := OwnI.setAt hrel.out.2.1 (g := gs) rfl (p := q) hqs (f : Int)
          obtain ⟨s0, s1, s2, s3, s4, s5⟩ := hset
          dsimp only at s0 s1 s2
          have hin := hrel.out.2.2.2.2.1 q hqn
          have hgd : sl.getD q 0 = sl[q] := by rw [List.getD_eq_getElem?_getD, List.getElem?_eq_getElem hqs]; rfl
          rw [hgd] at hin
          have hslI : (q : Int) < (s.l.length : Int) := by rw [HX.out.2.2.2.2.1]; omega
          by_cases hqF : q ∈ F
          · have hsv : (sl[q] != (f : Int)) = false := by rw [hin.2 hqF]; simp
            generalize sl[q] = sv at s0 hsv
            have HN := Lib.hid (And.intro hrel.out (show ∀ z : Nat, (z : Int) ∈ t.l.take (j + 1) → z ∈ F from fun z hz => by
              rw [htk] at hz
              rcases List.mem_append.1 hz with hz | hz
              · exact hrel.out.2.2.2.2.2.2.2.2.2.2.2 z hz
              · have : z = q := by have := List.mem_singleton.1 hz; omega
                rw [this]; exact hqF))
            clear htb hq htk hAt htA hqs s1 s2 s3 s4 s5 hin hgd hqF hrel
            go_wp2_with (fail)
            go_roundw
            case rel => exact ⟨j + 1, g, c, F, sl, by omega, hiF, hFn, by go_num, rfl, Lib.hid ⟨HN.out.1.1, HN.out.1.2.1, HN.out.1.2.2.1, HN.out.1.2.2.2.1, HN.out.1.2.2.2.2.1, HN.out.1.2.2.2.2.2.1, HN.out.1.2.2.2.2.2.2.1, HN.out.1.2.2.2.2.2.2.2.1, HN.out.1.2.2.2.2.2.2.2.2.1, HN.out.1.2.2.2.2.2.2.2.2.2.1, HN.out.1.2.2.2.2.2.2.2.2.2.2.1, HN.out.2⟩⟩
            case measure => simp [intOf]; omega
          · have hsv : (sl[q] != (f : Int)) = true := by simp only [bne_iff_ne]; exact fun e => hqF (hin.1 e)
            generalize sl[q] = sv at s0 hsv
            have hge := (OwnI.lo hrel.out.1 _ rfl).1
            dsimp only at hge
            have hgne : g ≠ gs := by have := HSB.out.2; omega
            have hfd := OwnI.fr hrel.out.1 s3 (fun a ha hm => by injection ha with ha; rw [← ha] at hm; exact hgne (List.mem_singleton.1 hm))
            have hwle : w.heap.size ≤ (wq.setCell ⟨gs, q, none⟩ (.int .i64 (f : Int))).heap.size := by have h1 := hrel.out.2.2.2.2.2.2.2.1.size; have h2 := s3.size; omega
            obtain ⟨u, w5, hrun, hul, hou, hfr, _, hb5⟩ := run_appN (wq.setCell ⟨gs, q, none⟩ (.int .i64 (f : Int))) w.heap.size ⟨some ⟨g, 0, none⟩, intsP (f :: F), c⟩ [(q : Int)] hfd hwle (by dsimp only; rw [intsP_len]; simp; omega)
            obtain ⟨g', cur', huA, _⟩ := hou.blk (by rw [hul]; simp)
            obtain ⟨uA, ul, uc⟩ := u
            dsimp only at hul huA hrun
            subst hul huA
            have hb1 : Below (wq.setCell ⟨gs, q, none⟩ (.int .i64 (f : Int))).heap.size (wq.setCell ⟨gs, q, none⟩ (.int .i64 (f : Int))) ((wq.setCell ⟨gs, q, none⟩ (.int .i64 (f : Int))).alloc (.cells #[.int .i64 (q : Int)] 3)) := (Below.refl _ _).alloc (Nat.le_refl _) _
            have hf5 : Fr (wq.setCell ⟨gs, q, none⟩ (.int .i64 (f : Int))) w5 [g] := (Fr.of_below hb1 _).trans hfr
            have hs5 := OwnI.fr s2 hf5 (fun a ha hm => by injection ha with ha; rw [← ha] at hm; exact hgne (List.mem_singleton.1 hm).symm)
            obtain ⟨F', hF'⟩ : ∃ F', F' = F ++ [q] := ⟨_, rfl⟩
            have eF : intsP (f :: F) ++ [(q : Int)] = intsP (f :: F') := by rw [hF']; simp [intsP]
            have hbf := hrel.out.2.2.1.add (by omega) hqn hqF (hrel.out.2.2.1.src hrel.out.2.2.2.2.2.2.2.2.2.1 hAt)
            rw [← hF'] at hbf
            have hFl : F'.length = F.length + 1 := by rw [hF', List.length_append]; rfl
            rw [eF] at hrun hou
            rw [intsP_len, intsP_len] at hrun
            simp only [List.length_cons, hFl] at hrun
            have hszs : (wq.setCell ⟨gs, q, none⟩ (.int .i64 (f : Int))).heap.size = wq.heap.size := by simp
            have hrun : (Builtin.append_ #[31, 31] 31 #[.slice (some ⟨g, 0, none⟩) (F.length + 1) c, .slice (some ⟨(wq.setCell ⟨gs, q, none⟩ (.int .i64 (f : Int))).heap.size, 0, none⟩) 1 1]).run Try.prog ((wq.setCell ⟨gs, q, none⟩ (.int .i64 (f : Int))).alloc (.cells #[.int .i64 (q : Int)] 3)) = .ok (.slice (some ⟨g', 0, none⟩) (F.length + 1 + 1) uc) w5 := hrun
            rw [hszs] at hrun
            have hbxx : w5.heap[w.heap.size]? = some (.cells #[.slice x.nA x.N.length x.nc, .slice x.o.A x.o.ts.length x.o.c, .slice x.i.A x.i.ts.length x.i.c] 76 (0, 0)) := (hf5.block w.heap.size (Nat.lt_of_lt_of_le (heap_lt hrel.out.2.2.2.2.2.2.2.2.1) s3.size) (fun hm => by
              have h1 := List.mem_singleton.1 hm
              have h2 := row_neq hrel.out.1 hrel.out.2.2.2.2.2.2.2.2.1 (by decide)
              exact h2 (by unfold TV.val; rw [h1]; simp [Value.ownBlock]))).trans ((s3.block w.heap.size (heap_lt hrel.out.2.2.2.2.2.2.2.2.1) (fun hm => by have := List.mem_singleton.1 hm; have := HSB.out.2; omega)).trans hrel.out.2.2.2.2.2.2.2.2.1)
            have hsl2 : ∀ z, z < x.N.length → ((sl.set q (f : Int)).getD z 0 = (f : Int) ↔ z ∈ F') := fun z hz => by
              have hzl : z < sl.length := by rw [hrel.out.2.2.2.1]; exact hz
              rw [List.getD_eq_getElem?_getD, List.getElem?_set, hF', List.mem_append, List.mem_singleton]
              by_cases e : q = z
              · subst e
                simp [hqs]
              · rw [if_neg e]
                have h1 := hrel.out.2.2.2.2.1 z hz
                rw [List.getD_eq_getElem?_getD] at h1
                rw [h1]
                constructor
                · exact .inl
                · rintro (h | h)
                  · exact h
                  · exact absurd h.symm e
            have hmv : ∀ v ∈ sl.set q (f : Int), v ∈ s.l ∨ v = (f : Int) := fun v hv => by
              rcases List.mem_or_eq_of_mem_set hv with h | h
              · exact hrel.out.2.2.2.2.2.1 v h
              · exact .inr h
            have hfrw : Fr w w5 [gs] := (hrel.out.2.2.2.2.2.2.2.1.trans s3).more hf5 (fun z hz => .inr (by rw [List.mem_singleton.1 hz]; exact hge))
            have hbel : Below w0.heap.size w w5 := hrel.out.2.2.2.2.2.2.1.trans ((s3.below (Nat.le_trans HX.out.2.2.1.size (Nat.le_trans hrel.out.2.2.2.2.2.2.2.1.size (Nat.le_refl _))) (fun z hz => by rw [List.mem_singleton.1 hz]; exact HSB.out.1)).trans (lower' hb5 HX.out.2.2.1.size))
            have HN := Lib.hid (show OwnI w5 w.heap.size ⟨some ⟨g', 0, none⟩, intsP (f :: F'), uc⟩ ∧ OwnI w5 w0.heap.size ⟨some ⟨gs, 0, none⟩, sl.set q (f : Int), s.c⟩ ∧ Bfs (plR x.o.ts) x.N.length f F' i ∧ (sl.set q (f : Int)).length = x.N.length ∧ (∀ z, z < x.N.length → ((sl.set q (f : Int)).getD z 0 = (f : Int) ↔ z ∈ F')) ∧ (∀ v ∈ sl.set q (f : Int), v ∈ s.l ∨ v = (f : Int)) ∧ Below w0.heap.size w w5 ∧ Fr w w5 [gs] ∧ w5.heap[w.heap.size]? = some (.cells #[.slice x.nA x.N.length x.nc, .slice x.o.A x.o.ts.length x.o.c, .slice x.i.A x.i.ts.length x.i.c] 76 (0, 0)) ∧ p ∈ f :: F' ∧ p = (f :: F').getD i f ∧ ∀ z : Nat, (z : Int) ∈ t.l.take (j + 1) → z ∈ F' from ⟨hou, hs5, hbf, by rw [List.length_set]; exact hrel.out.2.2.2.1, hsl2, hmv, hbel, hfrw, hbxx, by
                have h1 := hrel.out.2.2.2.2.2.2.2.2.2.1
                rw [hF']
                rcases List.mem_cons.1 h1 with h | h
                · rw [h]; exact List.mem_cons_self ..
                · exact List.mem_cons_of_mem _ (List.mem_append.2 (.inl h)), by
                have h2 : f :: F' = (f :: F) ++ [q] := by rw [hF']; rfl
                rw [h2, getD_app (by simpa using hiF)]
                exact hrel.out.2.2.2.2.2.2.2.2.2.2.1, fun z hz => by
                rw [htk] at hz
                rw [hF']
                rcases List.mem_append.1 hz with hz | hz
                · exact List.mem_append.2 (.inl (hrel.out.2.2.2.2.2.2.2.2.2.2.2 z hz))
                · have : z = q := by have := List.mem_singleton.1 hz; omega
                  rw [this]; exact List.mem_append.2 (.inr (List.mem_singleton.2 rfl))⟩)
            have HFl := Lib.hid (And.intro hFl hbf.len)
            clear htb hq htk hAt htA hqs s2 s3 s4 s5 hin hgd hqF hge hgne hfd hwle hou hfr hb5 hb1 hf5 hs5 hF' eF hbf hFl hbxx hsl2 hmv hfrw hbel hszs hrel
            go_wp2_with (at_builtin; refine wpL_appK _ rfl (.tmp 42) (.tmp 44) 31 rfl rfl _ _ _ _ rfl rfl hrun ?_)
            go_roundw
            case rel => exact ⟨j + 1, g', uc, F', sl.set q (f : Int), by omega, by have := HFl.out.1; omega, HFl.out.2, by go_num, by rw [HFl.out.1], HN⟩
            case measure => simp [intOf]; omega
        · have hjI : ¬ (j : Int) < (t.l.length : Int) := by omega
          have hd : ∀ q, AtR (plR x.o.ts) ((f :: F).getD i f) q → q ∈ F := fun q hq => by
            rw [← hrel.out.2.2.2.2.2.2.2.2.2.2.1] at hq
            have h1 := (HP.out.2.2.1 q).1 hq
            refine hrel.out.2.2.2.2.2.2.2.2.2.2.2 q ?_
            rw [List.take_of_length_le (by omega)]
            exact h1
          have HN := Lib.hid (And.intro hrel.out (hrel.out.2.2.1.next hd))
          clear hd hrel
          go_wp2_with (fail)
          go_roundw
          case rel => exact ⟨i + 1, g, c, F, sl, by omega, hFn, rfl, by go_num, Lib.hid ⟨HN.out.1.1, HN.out.1.2.1, HN.out.2, HN.out.1.2.2.2.1, HN.out.1.2.2.2.2.1, HN.out.1.2.2.2.2.2.1, HN.out.1.2.2.2.2.2.2.1, HN.out.1.2.2.2.2.2.2.2.1, HN.out.1.2.2.2.2.2.2.2.2.1⟩⟩
          case measure => simp [intOf]; omega
    · have hlI : ¬ (i : Int) < (F.length : Int) + 1 := by omega
      have hcap : F.length + 1 ≤ c := by
        obtain ⟨_, _, _, _, _, hcap, _⟩ := OwnI.blk hrel.out.1 (by dsimp only; rw [intsP_len]; simp)
        dsimp only at hcap
        rw [intsP_len] at hcap
        simpa using hcap
      have h1I : (1 : Int) ≤ (F.length : Int) + 1 := by omega
      have h1c : (1 : Int) ≤ (c : Int) := by omega
      have HF := Lib.hid (And.intro hrel.out (And.intro (hrel.out.2.2.1.fin (by omega)) hcap))
      clear hrel hcap
      have hob : s.val.ownBlock.toList = [gs] := ownBlock_at HSA.out
      have HOB := Lib.hid hob
      clear hob
      by_cases hc1 : c = 1
      · have HF0 := Lib.hid (show F = [] from List.length_eq_zero_iff.1 (by have := HF.out.2.2; omega))
        have HC1 := Lib.hid hc1
        go_wp2_with (fail)
        go_ret
        exact ⟨some ⟨g, 0, none⟩, g, c, F, sl, by (try rw [HC1.out]); (try simp), fun h => absurd HF0.out h, HF.out.1.1, HF.out.1.2.2.1.nodup, HF.out.2.1, fun q hq => (HF.out.1.2.2.1.lead q hq).1, by rw [HSA.out]; exact HF.out.1.2.1, HF.out.1.2.2.2.1, HF.out.1.2.2.2.2.2.1, HF.out.1.2.2.2.2.2.2.1, by rw [HOB.out]; exact HF.out.1.2.2.2.2.2.2.2.1⟩
      · go_wp2_with (fail)
        go_ret
        exact ⟨some ⟨g, 1, none⟩, g, c, F, sl, by (try simp), fun _ => rfl, HF.out.1.1, HF.out.1.2.2.1.nodup, HF.out.2.1, fun q hq => (HF.out.1.2.2.1.lead q hq).1, by rw [HSA.out]; exact HF.out.1.2.1, HF.out.1.2.2.2.1, HF.out.1.2.2.2.2.2.1, HF.out.1.2.2.2.2.2.2.1, by rw [HOB.out]; exact HF.out.1.2.2.2.2.2.2.2.1⟩
end Go.Proofs.Ytmldiojlglpoiaa
/- span.pairs. -/
namespace Go.Proofs.Ytmldiojlglpoiaa
open Go.RowKit Go.Maps Go.Sort

theorem RowsAt.frS {w w' : World} {lo : Nat} {v : Value} {us : List TV} {S : List Nat} (h : RowsAt w lo v us) (hf : Fr w w' S) (hS : ∀ s ∈ S, s < lo) : RowsAt w' lo v us :=
  ⟨rowFrS h.row hf fun s hs hm => by
    have h1 := (World.ownsRow.lt h.row s (by simpa using hs)).1
    have h2 := hS s hm
    omega, fun t ht => ⟨(h.tup t ht).1.fr hf fun a ha hm => by
    have h1 := ((h.tup t ht).1.lo a ha).1
    have h2 := hS _ hm
    omega, (h.tup t ht).2⟩⟩
/-- A row more, and what it leaves alone. -/
theorem RowsAt.pushF {w : World} {lo : Nat} {v : Value} {us : List TV} {u : TV} (h : RowsAt w lo v us) (hu : OwnI w lo u) (hul : u.l.length ≤ 100) (hl : us.length ≤ 5000) (hlo : lo ≤ w.heap.size) :
    ∃ A5 c5 w5, (Builtin.append_ #[24, 24] 24 #[v, .slice (some ⟨w.heap.size, 0, none⟩) 1 1]).run Try.prog (w.alloc (.cells #[.slice u.A u.l.length u.c] 32)) = .ok (.slice A5 (us.length + 1) c5) w5 ∧ RowsAt w5 lo (.slice A5 (us.length + 1) c5) (us ++ [u]) ∧ Below lo w w5 ∧ Fr w w5 v.ownBlock.toList ∧ (∀ lo' t, OwnI w lo' t → OwnI w5 lo' t) ∧ (∀ {b : Nat} {cs : Array Value} {t : TypeId} {fr : Nat × Nat}, w.heap[b]? = some (.cells cs t fr) → 32 ≠ t → w5.heap[b]? = some (.cells cs t fr)) := by
  obtain ⟨i0, hi, hz0, hz1, hz2⟩ := info_parts infoTup
  have hb4 : Below w.heap.size w (w.alloc (.cells #[.slice u.A u.l.length u.c] 32)) := (Below.refl _ _).alloc (Nat.le_refl _) _
  have h4 := h.kept hb4
  have hu4 := hu.below hb4
  have hrd : Rd (w.alloc (.cells #[.slice u.A u.l.length u.c] 32)) (w.heap.size + 1) (some ⟨w.heap.size, 0, none⟩) (vals [u]) := Rd.new w #[.slice u.A u.l.length u.c] 32 (0, 0)
  obtain ⟨v5, w5, hrun, g1, g2, g3⟩ := run_appR (P := Try.prog) _ lo 24 24 32 i0 _ 1 24 Try.underlying24 hi hz0 hz1 hz2 rfl (by omega) v us.length (vals us) h4.row (w.heap.size + 1) (some ⟨w.heap.size, 0, none⟩) 1 1 (vals [u]) rfl hrd (vals_one _) (by omega) (by omega) (Nat.le_trans hlo hb4.size)
  rw [← vals_app] at g1
  obtain ⟨A, c, rfl, _, _, _⟩ := own_shape g1
  have hfr := fr_grown g2
  have hap : ∀ (lo : Nat) (t : TV), OwnI (w.alloc (.cells #[.slice u.A u.l.length u.c] 32)) lo t → ∀ a, t.A = some a → a.block ∉ v.ownBlock.toList := fun lo t ht a ha hm =>
    own_apart ht h4.row (by decide) a.block (by unfold TV.val; rw [ha]; simp [Value.ownBlock]) hm
  refine ⟨A, c, w5, hrun, ⟨by unfold OwnT; rw [List.length_append]; exact g1, fun t ht => ?_⟩, (lower' hb4 hlo).trans (hfr.below (Nat.le_trans hlo hb4.size) (own_ge h4.row)), (Fr.of_below hb4 _).trans hfr, fun lo' t ht => (ht.below hb4).fr hfr (hap lo' t (ht.below hb4)), fun {b} {cs} {t} {fr} hb hne => (hfr.block b (Nat.lt_of_lt_of_le (heap_lt hb) hb4.size) fun hm => row_neq h4.row ((hb4.block b (heap_lt hb)).trans hb) hne hm).trans ((hb4.block b (heap_lt hb)).trans hb)⟩
  rcases List.mem_append.1 ht with ht | ht
  · exact ⟨(h4.tup t ht).1.fr hfr (hap lo t (h4.tup t ht).1), (h4.tup t ht).2⟩
  · rw [List.mem_singleton.1 ht]
    exact ⟨hu4.fr hfr (hap lo u hu4), hul⟩
def tupN (N : List Int) (z : Nat × Nat) : Tu := [N.getD z.1 0, N.getD z.2 0]
/-- Pairs of places, of the first f ones. -/
structure QOk (O : Rows) (Q : List (Nat × Nat)) (f : Nat) : Prop where
  nodup : Q.Nodup
  mem : ∀ p q, (p, q) ∈ Q ↔ p < f ∧ Lead (AtR O) p q
theorem QOk.start (O : Rows) : QOk O [] 0 := ⟨.nil, fun p q => by simp⟩
theorem QOk.next {O : Rows} {Q : List (Nat × Nat)} {f : Nat} (h : QOk O Q f) {F : List Nat} (hn : F.Nodup) (hF : ∀ q, q ∈ F ↔ Lead (AtR O) f q) : QOk O (Q ++ F.map fun q => (f, q)) (f + 1) := by
  refine ⟨?_, fun p q => ?_⟩
  · rw [List.nodup_append]
    refine ⟨h.nodup, ?_, fun a ha b hb e => ?_⟩
    · rw [List.Nodup, List.pairwise_map]
      exact hn.imp fun h e => h (congrArg Prod.snd e)
    · obtain ⟨q, _, rfl⟩ := List.mem_map.1 hb
      rw [e] at ha
      have := ((h.mem f q).1 ha).1
      omega
  · rw [List.mem_append, h.mem, List.mem_map]
    constructor
    · rintro (⟨h1, h2⟩ | ⟨z, hz, e⟩)
      · exact ⟨by omega, h2⟩
      · injection e with e1 e2
        subst e1 e2
        exact ⟨by omega, (hF z).1 hz⟩
    · rintro ⟨h1, h2⟩
      by_cases e : p = f
      · subst e
        exact .inr ⟨q, (hF q).2 h2, rfl⟩
      · exact .inl ⟨by omega, h2⟩
theorem QOk.part {O : Rows} {Q : List (Nat × Nat)} {f : Nat} (h : QOk O Q f) {F : List Nat} (hn : F.Nodup) (hF : ∀ q, q ∈ F ↔ Lead (AtR O) f q) (j : Nat) : (Q ++ (F.take j).map fun q => (f, q)).Nodup ∧ ∀ p q, (p, q) ∈ (Q ++ (F.take j).map fun q => (f, q)) → p < f + 1 ∧ Lead (AtR O) p q := by
  have h1 := h.next hn hF
  have hsub : (Q ++ (F.take j).map fun q => (f, q)).Sublist (Q ++ F.map fun q => (f, q)) := List.Sublist.append (List.Sublist.refl _) ((List.take_sublist j F).map _)
  exact ⟨h1.nodup.sublist hsub, fun p q hm => (h1.mem p q).1 (hsub.subset hm)⟩
/-- What pairs answers. -/
def PaPost (x : RV) (w : World) (e : Ending) (w' : World) : Prop := ∃ (y : LV) (Q : List (Nat × Nat)), e = .returned (.slice y.A y.ts.length y.c) ∧ y.Ok w' ∧ tus y.ts = Q.map (tupN x.N) ∧ Q.Nodup ∧ (∀ p q, (p, q) ∈ Q → p < x.N.length ∧ Lead (AtR (plR x.o.ts)) p q) ∧ Q.length ≤ 4001 ∧ (Q.length ≤ 4000 → ∀ p q, p < x.N.length → Lead (AtR (plR x.o.ts)) p q → (p, q) ∈ Q) ∧ Below w.heap.size w w'
set_option maxRecDepth 100000 in
set_option maxHeartbeats 8000000 in
theorem pairs_any (x : RV) (E : List Pr) (w : World) (hx : x.Ok w) (hr : Rdy x E) : Calls Try.prog 39 #[.agg (rvA x)] w (PaPost x w) := by
  have hb1 : Below w.heap.size w (w.alloc (.cells (rvA x) 76)) := (Below.refl _ _).alloc (Nat.le_refl _) _
  have hg1 := heap_alloc_new w (.cells (rvA x) 76)
  have hun := unknown_any x _ (hx.below hb1)
  have hrc := fun f hf W (hW : Below w.heap.size w W) s hs hsl hsn => reached_any x E w W hx hr hW f hf s hs hsl hsn
  have hnl := hr.nl
  unfold rvA at hb1 hg1 hun hrc ⊢
  obtain ⟨q0, q1, q2⟩ := bx3 hg1
  have HB := Lib.hid (And.intro hb1 hg1)
  have HUN := Lib.hid hun
  have HRC := Lib.hid hrc
  have HX := Lib.hid (And.intro hx hr)
  clear hx hr hb1 hg1 hun hrc
  go_enter Try.func39, Try.ntmps39
  go_upto_region 3 with (go_at_call 67; (with_reducible refine HUN.out.mono ?_); rintro e w2 ⟨⟨sA, sl, sc⟩, rfl, h2, o2, b2⟩; dsimp only at h2; subst h2; have H2 := Lib.hid (And.intro o2 (And.intro (HB.out.1.trans (lower' b2 HB.out.1.size)) ((b2.block w.heap.size (by simp)).trans HB.out.2))); clear o2 b2 q0 q1 q2)
  clear HUN HB
  obtain ⟨q0, -, -⟩ := bx3 H2.out.2.2
  have hsn0 : (List.replicate x.N.length (-1 : Int)).length = x.N.length := List.length_replicate ..
  obtain ⟨sl0, hsl0⟩ : ∃ l, l = List.replicate x.N.length (-1 : Int) := ⟨_, rfl⟩
  have HS0 := Lib.hid (And.intro (show OwnI w2 w.heap.size ⟨sA, sl0, sc⟩ from by rw [hsl0]; exact own_mono H2.out.1 (by simp)) (And.intro (show sl0.length = x.N.length from by rw [hsl0, hsn0]) (show ∀ v ∈ sl0, v < ((0 : Nat) : Int) from fun v hv => by rw [hsl0] at hv; rw [(List.mem_replicate.1 hv).2]; decide)))
  clear hsn0 hsl0
  have hlo : Hid (w.heap.size < w2.heap.size ∧ ∀ a, sA = some a → a.block < w2.heap.size) := Lib.hid ⟨heap_lt H2.out.2.2, fun a ha => (HS0.out.1.lo a ha).2⟩
  obtain ⟨lo, hloE⟩ : ∃ lo, lo = w2.heap.size := ⟨_, rfl⟩
  rw [← hloE] at hlo
  have HLE := Lib.hid hloE
  clear hloE
  go_wp2_with (fail)
  clear q0
  go_loopw [3, 13] (fun v3 v13 wr => ∃ (f : Nat) (us : List TV) (sl : List Int) (Q : List (Nat × Nat)), f ≤ x.N.length ∧ v13 = .int .i64 (f : Int) ∧ Hid (RowsAt wr lo v3 us ∧ tus us = Q.map (tupN x.N) ∧ QOk (plR x.o.ts) Q f ∧ Q.length ≤ 4000 ∧ OwnI wr w.heap.size ⟨sA, sl, sc⟩ ∧ sl.length = x.N.length ∧ (∀ v ∈ sl, v < (f : Int)) ∧ wr.heap[w.heap.size]? = some (.cells #[.slice x.nA x.N.length x.nc, .slice x.o.A x.o.ts.length x.o.c, .slice x.i.A x.i.ts.length x.i.c] 76 (0, 0)) ∧ Below w.heap.size w wr ∧ lo ≤ wr.heap.size)) (fun _ v13 _ => x.N.length - (intOf v13).toNat)
  case atStart => exact ⟨0, [], sl0, [], by omega, rfl, Lib.hid ⟨RowsAt.nil _ _, rfl, QOk.start _, by simp, HS0.out.1, HS0.out.2.1, HS0.out.2.2, H2.out.2.2, H2.out.2.1, Nat.le_of_eq HLE.out⟩⟩
  case round =>
    obtain ⟨f, us, sl, Q, hf, rfl, hrel⟩ := hrel
    by_cases hft : f < x.N.length
    · have hfI : (f : Int) < (x.N.length : Int) := by omega
      obtain ⟨q0, q1, q2⟩ := bx3 hrel.out.2.2.2.2.2.2.2.1
      have hcall := HRC.out f hft wr hrel.out.2.2.2.2.2.2.2.2.1 ⟨sA, sl, sc⟩ hrel.out.2.2.2.2.1 hrel.out.2.2.2.2.2.1 (fun v hv e => by have := hrel.out.2.2.2.2.2.2.1 v hv; omega)
      dsimp only at hcall
      rw [hrel.out.2.2.2.2.2.1] at hcall
      have HC := Lib.hid hcall
      have HR := Lib.hid hrel.out
      obtain ⟨nb, no, hnA, hnb, _⟩ := (HX.out.1.nd).cell (k := f) hft
      dsimp only at hnA
      have HNA := Lib.hid (And.intro hnA hnb)
      clear hcall hrel hnA hnb
      go_upto_region 7 with (go_at_call 68; (with_reducible refine HC.out.mono ?_); rintro e wa ⟨A', g, fc, F, sl', rfl, hA', ofd, nF, mF, lF, os', ls', ms', bl, fr⟩; have HA := Lib.hid (And.intro hA' (And.intro ofd (And.intro nF (And.intro mF (And.intro lF (And.intro os' (And.intro ls' (And.intro ms' (And.intro bl fr))))))))); clear hA' ofd nF mF lF os' ls' ms' bl fr q0 q1 q2)
      clear HC
      have hseen : ∀ z ∈ (TV.val ⟨sA, sl, sc⟩).ownBlock.toList, z < lo := fun z hz => by
        obtain ⟨a, ha, e⟩ := (blk_at _ z).1 hz
        rw [← e]; exact hlo.out.2 a ha
      have hrow1 := HR.out.1.frS HA.out.2.2.2.2.2.2.2.2.2 hseen
      have hbox1 : wa.heap[w.heap.size]? = some (.cells #[.slice x.nA x.N.length x.nc, .slice x.o.A x.o.ts.length x.o.c, .slice x.i.A x.i.ts.length x.i.c] 76 (0, 0)) := (HA.out.2.2.2.2.2.2.2.2.2.block w.heap.size (heap_lt HR.out.2.2.2.2.2.2.2.1) (fun hm => row_neq HR.out.2.2.2.2.1 HR.out.2.2.2.2.2.2.2.1 (by decide) hm)).trans HR.out.2.2.2.2.2.2.2.1
      have hlw1 : lo ≤ wa.heap.size := Nat.le_trans HR.out.2.2.2.2.2.2.2.2.2 HA.out.2.2.2.2.2.2.2.2.2.size
      have hul0 : us.length = Q.length := by have := congrArg List.length HR.out.2.1; rw [tus_len, List.length_map] at this; exact this
      have HW := Lib.hid (show RowsAt wa lo u3 us ∧ tus us = (Q ++ (F.take 0).map fun q => (f, q)).map (tupN x.N) ∧ us.length ≤ 4000 ∧ OwnI wa w.heap.size ⟨sA, sl', sc⟩ ∧ OwnI wa wr.heap.size ⟨some ⟨g, 0, none⟩, intsP (f :: F), fc⟩ ∧ wa.heap[w.heap.size]? = some (.cells #[.slice x.nA x.N.length x.nc, .slice x.o.A x.o.ts.length x.o.c, .slice x.i.A x.i.ts.length x.i.c] 76 (0, 0)) ∧ Below w.heap.size w wa ∧ lo ≤ wa.heap.size from ⟨hrow1, by rw [HR.out.2.1]; simp, by rw [hul0]; exact HR.out.2.2.2.1, HA.out.2.2.2.2.2.1, HA.out.2.1, hbox1, HR.out.2.2.2.2.2.2.2.2.1.trans HA.out.2.2.2.2.2.2.2.2.1, hlw1⟩)
      have HQ := Lib.hid HR.out.2.2.1
      have hFn : F.length ≤ x.N.length := by
        have := nodup_len (m := List.range x.N.length) HA.out.2.2.1 (fun z hz => List.mem_range.2 (HA.out.2.2.2.2.1 z hz))
        rwa [List.length_range] at this
      have HQL := Lib.hid HR.out.2.2.2.1
      have HSN := Lib.hid HR.out.2.2.2.2.2.2.1
      have HWR := Lib.hid HR.out.2.2.2.2.2.2.2.2.1
      clear hseen hrow1 hbox1 hlw1 hul0 HR
      go_wp2_with (fail)
      go_loopw [3, 21] (fun v3 v21 wq => ∃ (j : Nat) (us : List TV), j ≤ F.length ∧ v21 = .int .i64 (j : Int) ∧ Hid (RowsAt wq lo v3 us ∧ tus us = (Q ++ (F.take j).map fun q => (f, q)).map (tupN x.N) ∧ us.length ≤ 4000 ∧ OwnI wq w.heap.size ⟨sA, sl', sc⟩ ∧ OwnI wq wr.heap.size ⟨some ⟨g, 0, none⟩, intsP (f :: F), fc⟩ ∧ wq.heap[w.heap.size]? = some (.cells #[.slice x.nA x.N.length x.nc, .slice x.o.A x.o.ts.length x.o.c, .slice x.i.A x.i.ts.length x.i.c] 76 (0, 0)) ∧ Below w.heap.size w wq ∧ lo ≤ wq.heap.size)) (fun _ v21 _ => F.length - (intOf v21).toNat)
      case atStart => exact ⟨0, us, by omega, rfl, HW⟩
      case round =>
        clear HW
        obtain ⟨j, us, hj, rfl, hrel⟩ := hrel
        rename World => wq
        by_cases hjF : j < F.length
        · have hjI : (j : Int) < (F.length : Int) := by omega
          have hA1 := HA.out.1 (fun e => by rw [e] at hjF; exact absurd hjF (Nat.not_lt_zero _))
          rw [hA1]
          clear hA1
          obtain ⟨q, hqE⟩ : ∃ q, q = F[j] := ⟨_, rfl⟩
          have hqn : q < x.N.length := by rw [hqE]; exact HA.out.2.2.2.2.1 _ (List.getElem_mem hjF)
          obtain ⟨eb, eo, heA, _, e0⟩ := (OwnI.ok hrel.out.2.2.2.2.1 (by dsimp only; rw [intsP_len]; simp; have := nodup_len (m := List.range x.N.length) HA.out.2.2.1 (fun z hz => List.mem_range.2 (HA.out.2.2.2.2.1 z hz)); rw [List.length_range] at this; omega)).cell (k := j + 1) (by dsimp only; rw [intsP_len]; simpa using hjF)
          dsimp only at heA e0
          injection heA with heA
          injection heA with e8 e9
          subst e8 e9
          rw [Nat.zero_add, intsP_at (by simpa using hjF), show (f :: F)[j + 1]'(by simpa using hjF) = q from by rw [hqE]; rfl, Nat.add_comm j 1] at e0
          have hnode : ∀ k, k < x.N.length → ∀ W, Below w.heap.size w W → W.cell? ⟨nb, no + k, none⟩ = some (.int .i64 (x.N.getD k 0)) := fun k hk W hW => by
            obtain ⟨b', o', hA', _, hcl⟩ := (HX.out.1.below hW).nd.cell (k := k) hk
            dsimp only at hA' hcl
            rw [HNA.out.1] at hA'
            injection hA' with hA'
            injection hA' with e8 e9
            subst e8 e9
            rw [hcl, List.getD_eq_getElem?_getD, List.getElem?_eq_getElem hk]
            rfl
          have hD : Below wq.heap.size wq wq.drew := (Below.refl wq.heap.size wq).drew
          have hrel := show RowsAt wq.drew lo u3 us ∧ tus us = (Q ++ (F.take j).map fun q => (f, q)).map (tupN x.N) ∧ us.length ≤ 4000 ∧ OwnI wq.drew w.heap.size ⟨sA, sl', sc⟩ ∧ OwnI wq.drew wr.heap.size ⟨some ⟨g, 0, none⟩, intsP (f :: F), fc⟩ ∧ wq.drew.heap[w.heap.size]? = some (.cells #[.slice x.nA x.N.length x.nc, .slice x.o.A x.o.ts.length x.o.c, .slice x.i.A x.i.ts.length x.i.c] 76 (0, 0)) ∧ Below w.heap.size w wq.drew ∧ lo ≤ wq.drew.heap.size from ⟨hrel.out.1.kept hD, hrel.out.2.1, hrel.out.2.2.1, hrel.out.2.2.2.1.below hD, hrel.out.2.2.2.2.1.below hD, hrel.out.2.2.2.2.2.1, hrel.out.2.2.2.2.2.2.1.trans (lower' hD hrel.out.2.2.2.2.2.2.1.size), hrel.out.2.2.2.2.2.2.2⟩
          clear hD
          have HSP := Lib.hid (show ∀ w', Below wq.drew.heap.size wq.drew w' → (fun w' => w'.cell? ⟨w.heap.size, 0, none⟩ = some (.slice (some ⟨nb, no, none⟩) x.N.length x.nc) ∧ w'.cell? ⟨nb, no + f, none⟩ = some (.int .i64 (x.N.getD f 0)) ∧ w'.cell? ⟨nb, no + q, none⟩ = some (.int .i64 (x.N.getD q 0))) w' from fun w' hw' => by
            have hb := hrel.2.2.2.2.2.2.1.trans (lower' hw' hrel.2.2.2.2.2.2.1.size)
            refine ⟨?_, hnode f hft w' hb, hnode q hqn w' hb⟩
            rw [← HNA.out.1]
            exact (bx3 ((hw'.block w.heap.size (heap_lt hrel.2.2.2.2.2.1)).trans hrel.2.2.2.2.2.1)).1)
          obtain ⟨Nf, hNf⟩ : ∃ z, z = x.N.getD f 0 := ⟨_, rfl⟩
          obtain ⟨Nq, hNq⟩ : ∃ z, z = x.N.getD q 0 := ⟨_, rfl⟩
          rw [← hNf, ← hNq] at HSP
          have hb1 : Below wq.drew.heap.size wq.drew (wq.drew.alloc (.cells #[.int .i64 Nf, .int .i64 Nq] 3)) := (Below.refl _ _).alloc (Nat.le_refl _) _
          have hb2 := hb1.alloc hb1.size (.cells #[.slice (some ⟨wq.drew.heap.size, 0, none⟩) 2 2] 32)
          have hu : OwnI (wq.drew.alloc (.cells #[.int .i64 Nf, .int .i64 Nq] 3)) lo ⟨some ⟨wq.drew.heap.size, 0, none⟩, [Nf, Nq], 2⟩ := own_heap (l := [Nf, Nq]) (heap_alloc_new wq.drew (.cells #[.int .i64 Nf, .int .i64 Nq] 3)) hrel.2.2.2.2.2.2.2 (by show 2 ≤ 5000; omega)
          obtain ⟨A6, c6, w6, hrun, g1, g2, _, g4, g5⟩ := (hrel.1.kept hb1).pushF hu (by show 2 ≤ 100; omega) (by have := hrel.2.2.1; omega) (Nat.le_trans hrel.2.2.2.2.2.2.2 hb1.size)
          obtain ⟨n, hn⟩ : ∃ n, n = us.length + 1 := ⟨_, rfl⟩
          obtain ⟨A5, c5, e5, _, _, _⟩ := own_shape hrel.1.row
          have hrun : (Builtin.append_ #[24, 24] 24 #[u3, .slice (some ⟨(wq.drew.alloc (.cells #[.int .i64 Nf, .int .i64 Nq] 3)).heap.size, 0, none⟩) 1 1]).run Try.prog ((wq.drew.alloc (.cells #[.int .i64 Nf, .int .i64 Nq] 3)).alloc (.cells #[.slice (some ⟨wq.drew.heap.size, 0, none⟩) 2 2] 32)) = .ok (.slice A6 (us.length + 1) c6) w6 := hrun
          rw [alloc1_size, ← hn] at hrun
          have htk : F.take (j + 1) = F.take j ++ [q] := by rw [List.take_succ_eq_append_getElem hjF, hqE]
          have htu : tus (us ++ [⟨some ⟨wq.drew.heap.size, 0, none⟩, [Nf, Nq], 2⟩]) = (Q ++ (F.take (j + 1)).map fun q => (f, q)).map (tupN x.N) := by
            rw [tus_app, hrel.2.1, htk, List.map_append (l₁ := F.take j), ← List.append_assoc, List.map_append (l₁ := Q ++ _)]
            unfold tupN tus
            simp [hNf, hNq]
          have hn1 : n ≤ 4001 := by have := hrel.2.2.1; omega
          have g2' : Below w.heap.size w w6 := hrel.2.2.2.2.2.2.1.trans ((lower' hb1 hrel.2.2.2.2.2.2.1.size).trans (lower' g2 (Nat.le_of_lt hlo.out.1)))
          have HN := Lib.hid (show RowsAt w6 lo (.slice A6 n c6) (us ++ [⟨some ⟨wq.drew.heap.size, 0, none⟩, [Nf, Nq], 2⟩]) ∧ tus (us ++ [⟨some ⟨wq.drew.heap.size, 0, none⟩, [Nf, Nq], 2⟩]) = (Q ++ (F.take (j + 1)).map fun q => (f, q)).map (tupN x.N) ∧ (us ++ [(⟨some ⟨wq.drew.heap.size, 0, none⟩, [Nf, Nq], 2⟩ : TV)]).length = n ∧ OwnI w6 w.heap.size ⟨sA, sl', sc⟩ ∧ OwnI w6 wr.heap.size ⟨some ⟨g, 0, none⟩, intsP (f :: F), fc⟩ ∧ w6.heap[w.heap.size]? = some (.cells #[.slice x.nA x.N.length x.nc, .slice x.o.A x.o.ts.length x.o.c, .slice x.i.A x.i.ts.length x.i.c] 76 (0, 0)) ∧ Below w.heap.size w w6 ∧ lo ≤ w6.heap.size from
            ⟨by rw [hn]; exact g1, htu, by rw [List.length_append, hn]; rfl, g4 _ _ (hrel.2.2.2.1.below hb1), g4 _ _ (hrel.2.2.2.2.1.below hb1), g5 ((hb1.block w.heap.size (heap_lt hrel.2.2.2.2.2.1)).trans hrel.2.2.2.2.2.1) (by decide), g2', Nat.le_trans hrel.2.2.2.2.2.2.2 (Nat.le_trans hb1.size g2.size)⟩)
          have B0 := Lib.hid (Below.refl wq.drew.heap.size wq.drew)
          have B1 := Lib.hid hb1
          have B2 := Lib.hid hb2
          have HNq := Lib.hid hNq
          obtain ⟨q0, q1, q2⟩ := bx3 hrel.2.2.2.2.2.1
          rw [HNA.out.1] at q0
          have d0 := (HSP.out wq.drew B0.out).2.1
          have d1 := (HSP.out wq.drew B0.out).2.2
          have hnl2 : x.N.length ≤ 5000 := by omega
          have hfc : F.length ≤ fc - 1 := by
            obtain ⟨_, _, _, _, _, hcap, _⟩ := OwnI.blk hrel.2.2.2.2.1 (by dsimp only; rw [intsP_len]; simp)
            dsimp only at hcap
            rw [intsP_len] at hcap
            simp at hcap
            omega
          have hqI : (q : Int) < (x.N.length : Int) := by omega
          subst e5
          clear hb1 hb2 hu g1 g2 g2' g4 g5 hNf hNq hqE hnode htk htu hn hrel
          have hcut : HQ = HQ := rfl
          clear hcut
          rw [HNA.out.1]
          go_upto_region 9 with (fail)
          refine wp_region_M (fun j => decide (j < 13)) (fun w' => w'.cell? ⟨w.heap.size, 0, none⟩ = some (.slice (some ⟨nb, no, none⟩) x.N.length x.nc) ∧ w'.cell? ⟨nb, no + f, none⟩ = some (.int .i64 Nf) ∧ w'.cell? ⟨nb, no + q, none⟩ = some (.int .i64 Nq)) (by kernel_rfl) ?_
          refine wpAnyM_take (i := 0) (v := ?_) rfl (by kernel_rfl) (by kernel_rfl) (by kernel_rfl) (by kernel_rfl) (fun _ _ _ h => h) (Or.inl ⟨by rfl, ?_⟩) (HSP.out _ B0.out) ?_
          rotate_left
          · intro w hSw; (try dsimp only at hSw); go_simp; (try with_reducible rfl)
          simp only [Act.put, List.getElem_toArray, List.getElem_cons_zero, List.getElem_cons_succ, List.setIfInBounds_toArray, List.set_cons_zero, List.set_cons_succ]
          refine wpAnyM_take (i := 1) (v := ?_) rfl (by kernel_rfl) (by kernel_rfl) (by kernel_rfl) (by kernel_rfl) (fun _ _ _ h => h) (Or.inl ⟨by rfl, ?_⟩) (HSP.out _ B0.out) ?_
          rotate_left
          · intro w hSw; (try dsimp only at hSw); go_simp; (try with_reducible rfl)
          simp only [Act.put, List.getElem_toArray, List.getElem_cons_zero, List.getElem_cons_succ, List.setIfInBounds_toArray, List.set_cons_zero, List.set_cons_succ]
          refine wpAnyM_take (i := 2) (v := ?_) rfl (by kernel_rfl) (by kernel_rfl) (by kernel_rfl) (by kernel_rfl) (fun _ _ _ h => h) (Or.inl ⟨by rfl, ?_⟩) (HSP.out _ B0.out) ?_
          rotate_left
          · intro w hSw; (try dsimp only at hSw); go_simp; (try with_reducible rfl)
          simp only [Act.put, List.getElem_toArray, List.getElem_cons_zero, List.getElem_cons_succ, List.setIfInBounds_toArray, List.set_cons_zero, List.set_cons_succ]
          refine wpAnyM_take (i := 3) (v := ?_) rfl (by kernel_rfl) (by kernel_rfl) (by kernel_rfl) (by kernel_rfl) (fun _ _ _ h => h) (Or.inl ⟨by rfl, ?_⟩) (HSP.out _ B0.out) ?_
          rotate_left
          · intro w hSw; (try dsimp only at hSw); go_simp; (try with_reducible rfl)
          simp only [Act.put, List.getElem_toArray, List.getElem_cons_zero, List.getElem_cons_succ, List.setIfInBounds_toArray, List.set_cons_zero, List.set_cons_succ]
          refine wpAnyM_take (i := 4) (v := ?_) rfl (by kernel_rfl) (by kernel_rfl) (by kernel_rfl) (by kernel_rfl) (fun _ _ _ h => h) (Or.inl ⟨by rfl, ?_⟩) (HSP.out _ B0.out) ?_
          rotate_left
          · intro w hSw; (try dsimp only at hSw); go_simp; (try with_reducible rfl)
          simp only [Act.put, List.getElem_toArray, List.getElem_cons_zero, List.getElem_cons_succ, List.setIfInBounds_toArray, List.set_cons_zero, List.set_cons_succ]
          refine wpAnyM_take (i := 5) (v := ?_) rfl (by kernel_rfl) (by kernel_rfl) (by kernel_rfl) (by kernel_rfl) (fun _ _ _ h => h) (Or.inl ⟨by rfl, ?_⟩) (HSP.out _ B0.out) ?_
          rotate_left
          · intro w hSw; (try dsimp only at hSw); go_simp; (try with_reducible rfl)
          simp only [Act.put, List.getElem_toArray, List.getElem_cons_zero, List.getElem_cons_succ, List.setIfInBounds_toArray, List.set_cons_zero, List.set_cons_succ]
          refine wpAnyM_take (i := 6) (v := ?_) rfl (by kernel_rfl) (by kernel_rfl) (by kernel_rfl) (by kernel_rfl) (fun _ _ _ h => h) (Or.inl ⟨by rfl, ?_⟩) (HSP.out _ B0.out) ?_
          rotate_left
          · intro w hSw; (try dsimp only at hSw); go_simp; (try with_reducible rfl)
          simp only [Act.put, List.getElem_toArray, List.getElem_cons_zero, List.getElem_cons_succ, List.setIfInBounds_toArray, List.set_cons_zero, List.set_cons_succ]
          refine wpAnyM_take (i := 7) (v := ?_) rfl (by kernel_rfl) (by kernel_rfl) (by kernel_rfl) (by kernel_rfl) (fun _ _ _ h => h) (Or.inl ⟨by rfl, ?_⟩) (HSP.out _ B0.out) ?_
          rotate_left
          · intro w hSw; (try dsimp only at hSw); go_simp; (try with_reducible rfl)
          simp only [Act.put, List.getElem_toArray, List.getElem_cons_zero, List.getElem_cons_succ, List.setIfInBounds_toArray, List.set_cons_zero, List.set_cons_succ]
          refine wpAnyM_take (i := 8) (v := ?_) rfl (by kernel_rfl) (by kernel_rfl) (by kernel_rfl) (by kernel_rfl) (fun _ _ _ h => h) (Or.inl ⟨by rfl, ?_⟩) (HSP.out _ B0.out) ?_
          rotate_left
          · intro w hSw; (try dsimp only at hSw); go_simp; (try with_reducible rfl)
          simp only [Act.put, List.getElem_toArray, List.getElem_cons_zero, List.getElem_cons_succ, List.setIfInBounds_toArray, List.set_cons_zero, List.set_cons_succ]
          refine wpAnyM_take (i := 9) (v := ?_) rfl (by kernel_rfl) (by kernel_rfl) (by kernel_rfl) (by kernel_rfl) (fun _ _ _ h => h) (Or.inl ⟨by rfl, ?_⟩) (HSP.out _ B0.out) ?_
          rotate_left
          · intro w hSw; (try dsimp only at hSw); go_simp; (try with_reducible rfl)
          simp only [Act.put, List.getElem_toArray, List.getElem_cons_zero, List.getElem_cons_succ, List.setIfInBounds_toArray, List.set_cons_zero, List.set_cons_succ]
          refine wpAnyM_take (i := 10) (v := ?_) rfl (by kernel_rfl) (by kernel_rfl) (by kernel_rfl) (by kernel_rfl) (fun _ _ _ h => h) (Or.inl ⟨by rfl, ?_⟩) (HSP.out _ B0.out) ?_
          rotate_left
          · intro w hSw; (try dsimp only at hSw); go_simp; (try with_reducible rfl)
          simp only [Act.put, List.getElem_toArray, List.getElem_cons_zero, List.getElem_cons_succ, List.setIfInBounds_toArray, List.set_cons_zero, List.set_cons_succ]
          refine wpAnyM_one (i := 11) (by kernel_rfl) rfl (fun K hK => ?_)
          go_simp
          refine hK.out _ _ (fun _ => HSP.out _ B1.out) ?_
          clear hK K
          refine wpAnyM_one (i := 12) (by kernel_rfl) rfl (fun K hK => ?_)
          go_simp
          refine hK.out _ _ (fun _ => HSP.out _ B2.out) ?_
          clear hK K
          refine wpAnyM_one (i := 13) (by kernel_rfl) rfl (fun K hK => ?_)
          refine step_appK _ (by rfl) (.tmp 25) (.tmp 37) 24 rfl rfl _ _ _ _ rfl rfl hrun ?_
          refine hK.out _ _ (fun h => absurd h (by decide)) ?_
          clear hK K
          refine wpAnyM_one (i := 14) (by kernel_rfl) rfl (fun K hK => ?_)
          go_simp
          refine hK.out _ _ (fun h => absurd h (by decide)) ?_
          clear hK K
          refine wpAnyM_done (by kernel_rfl) ?_ _
          by_cases hnl4 : n ≤ 4000
          · have hnI : ¬ (4000 : Int) < (n : Int) := by omega
            go_wp2_with (fail)
            rw [HNA.out.1] at HN
            go_roundw
            case rel => exact ⟨j + 1, us ++ [⟨some ⟨wq.drew.heap.size, 0, none⟩, [Nf, Nq], 2⟩], by omega, by go_num, Lib.hid ⟨HN.out.1, HN.out.2.1, by rw [HN.out.2.2.1]; exact hnl4, HN.out.2.2.2⟩⟩
            case measure => simp [intOf]; omega
          · have hnI : (4000 : Int) < (n : Int) := by omega
            have hQp := HQ.out.part HA.out.2.2.1 HA.out.2.2.2.1 (j + 1)
            have hln : (Q ++ (F.take (j + 1)).map fun q => (f, q)).length = n := by
              have := congrArg List.length HN.out.2.1
              rw [tus_len, List.length_map, HN.out.2.2.1] at this
              exact this.symm
            have h5 := (HN.out.2.2.1 ▸ HN.out.1.ok (by rw [HN.out.2.2.1]; omega) : n = n ∧ LV.Ok w6 ⟨A6, us ++ [⟨some ⟨wq.drew.heap.size, 0, none⟩, [Nf, Nq], 2⟩], c6⟩).2
            have HZ := Lib.hid (And.intro hQp (And.intro hln h5))
            clear hQp hln h5
            go_wp2_with (fail)
            go_ret
            exact ⟨⟨A6, us ++ [⟨some ⟨wq.drew.heap.size, 0, none⟩, [Nf, Nq], 2⟩], c6⟩, _, by dsimp only; rw [HN.out.2.2.1]; rfl, HZ.out.2.2, HN.out.2.1, HZ.out.1.1, fun p q hm => ⟨by have := (HZ.out.1.2 p q hm).1; omega, (HZ.out.1.2 p q hm).2⟩, by rw [HZ.out.2.1]; exact hn1, fun h => absurd (HZ.out.2.1 ▸ h) hnl4, HN.out.2.2.2.2.2.2.1⟩
        · have hjI : ¬ (j : Int) < (F.length : Int) := by omega
          have hQn := HQ.out.next HA.out.2.2.1 HA.out.2.2.2.1
          have hQl : (Q ++ F.map fun q => (f, q)).length = us.length := by
            have h1 := congrArg List.length hrel.out.2.1
            rw [tus_len, List.length_map, List.take_of_length_le (by omega)] at h1
            exact h1.symm
          have HN := Lib.hid (show RowsAt wq lo u3 us ∧ tus us = (Q ++ F.map fun q => (f, q)).map (tupN x.N) ∧ QOk (plR x.o.ts) (Q ++ F.map fun q => (f, q)) (f + 1) ∧ (Q ++ F.map fun q => (f, q)).length ≤ 4000 ∧ OwnI wq w.heap.size ⟨sA, sl', sc⟩ ∧ sl'.length = x.N.length ∧ (∀ v ∈ sl', v < ((f + 1 : Nat) : Int)) ∧ wq.heap[w.heap.size]? = some (.cells #[.slice x.nA x.N.length x.nc, .slice x.o.A x.o.ts.length x.o.c, .slice x.i.A x.i.ts.length x.i.c] 76 (0, 0)) ∧ Below w.heap.size w wq ∧ lo ≤ wq.heap.size from
            ⟨hrel.out.1, by have h1 := hrel.out.2.1; rw [List.take_of_length_le (by omega)] at h1; exact h1, hQn, by rw [hQl]; exact hrel.out.2.2.1, hrel.out.2.2.2.1, HA.out.2.2.2.2.2.2.1, fun v hv => by
              rcases HA.out.2.2.2.2.2.2.2.1 v hv with h | h
              · have := HSN.out v h; omega
              · rw [h]; omega, hrel.out.2.2.2.2.2.1, hrel.out.2.2.2.2.2.2.1, hrel.out.2.2.2.2.2.2.2⟩)
          clear hQn hQl hrel
          go_wp2_with (fail)
          go_roundw
          case rel => exact ⟨f + 1, us, sl', Q ++ F.map fun q => (f, q), by omega, by go_num, HN⟩
          case measure => simp [intOf]; omega
    · have hfI : ¬ (f : Int) < (x.N.length : Int) := by omega
      obtain rfl : f = x.N.length := by omega
      obtain ⟨A5, c5, e5, _, _, _⟩ := own_shape hrel.out.1.row
      have h5 := hrel.out.1
      rw [e5] at h5
      have hul : us.length = Q.length := by have := congrArg List.length hrel.out.2.1; rw [tus_len, List.length_map] at this; exact this
      have hok5 := (h5.ok (by have := hrel.out.2.2.2.1; omega)).2
      have HF := Lib.hid (And.intro hok5 hrel.out)
      rw [e5]
      clear e5 h5 hul hok5 hrel
      go_wp2_with (fail)
      go_ret
      exact ⟨⟨A5, us, c5⟩, Q, rfl, HF.out.1, HF.out.2.2.1, HF.out.2.2.2.1.nodup, fun p q hm => (HF.out.2.2.2.1.mem p q).1 hm, by have := HF.out.2.2.2.2.1; omega, fun _ p q hp hl => (HF.out.2.2.2.1.mem p q).2 ⟨hp, hl⟩, HF.out.2.2.2.2.2.2.2.2.2.1⟩
end Go.Proofs.Ytmldiojlglpoiaa
