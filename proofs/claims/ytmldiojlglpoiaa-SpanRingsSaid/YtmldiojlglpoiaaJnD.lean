/- Joined: JoL JoM JoN JoTS JoTT JoTU. -/
import Derived.Test.YtmldiojlglpoiaaJoK
import Derived.Test.YtmldiojlglpoiaaOrdM
import Derived.ProofKit
import Derived.SizedLaws
import Derived.Deep.Slices
import Derived.Deep.Grids
import Derived.ChangeSame
import Derived.OpenShut
import Derived.Test.YtmldiojlglpoiaaJnC
/- JoL, what this seat can fill of it. -/
namespace Go.Proofs.Ytmldiojlglpoiaa
/- The steps of a pattern: step.Of. -/
open Go.RowKit Go.Maps

abbrev stV (s : Stp) : Value := .agg #[.string ⟨s.lab.toArray⟩, .int .i64 (s.fr : Int), .int .i64 (s.to : Int), .int .i64 (s.kn : Int)]
def stC (s : Stp) : List Value := [.string ⟨s.lab.toArray⟩, .int .i64 (s.fr : Int), .int .i64 (s.to : Int), .int .i64 (s.kn : Int)]
def stsC (l : List Stp) : List Value := l.flatMap stC
theorem stsC_app (a b : List Stp) : stsC (a ++ b) = stsC a ++ stsC b := List.flatMap_append
theorem stsC_len (l : List Stp) : (stsC l).length = l.length * 4 := by
  induction l with
  | nil => rfl
  | cons a l ih =>
    show (stC a ++ stsC l).length = _
    rw [List.length_append, ih, List.length_cons]
    show 4 + _ = _
    omega
theorem stsC_one (l : List Stp) : ∀ u ∈ stsC l, u.oneCell' = true := by
  intro u hu
  obtain ⟨s, _, hs⟩ := List.mem_flatMap.1 hu
  simp [stC] at hs
  rcases hs with rfl | rfl | rfl | rfl <;> rfl
theorem flat4_at {α : Type} (f : α → List Value) (hf : ∀ a, (f a).length = 4) : ∀ (l : List α) (k j : Nat) (hk : k < l.length), j < 4 → (l.flatMap f)[k * 4 + j]? = (f l[k])[j]?
  | [], k, _, hk, _ => absurd hk (by simp)
  | a :: l, 0, j, _, hj => by
    rw [List.flatMap_cons, Nat.zero_mul, Nat.zero_add, List.getElem?_append_left (by rw [hf]; exact hj)]
    rfl
  | a :: l, k + 1, j, hk, hj => by
    rw [List.flatMap_cons, List.getElem?_append_right (by rw [hf]; omega), hf]
    have e : (k + 1) * 4 + j - 4 = k * 4 + j := by omega
    rw [e, flat4_at f hf l k j (by simpa using hk) hj]
    rfl
theorem steps_at (vs : List Nm) : ∀ (ats : List Atm) (kn k : Nat) (hk : k < ats.length), (stepsK vs kn ats)[k]? = some (stepOf vs (knEnd kn ((stepsK vs kn ats).take k)) ats[k]) ∧ knEnd kn ((stepsK vs kn ats).take (k + 1)) = (stepOf vs (knEnd kn ((stepsK vs kn ats).take k)) ats[k]).next
  | [], _, k, hk => absurd hk (by simp)
  | a :: r, kn, 0, _ => ⟨rfl, rfl⟩
  | a :: r, kn, k + 1, hk => by
    have := steps_at vs r (stepOf vs kn a).next k (by simpa using hk)
    exact this
theorem steps_take {ats : List Atm} {k : Nat} (hk : k < ats.length) : (stepsL ats).take (k + 1) = (stepsL ats).take k ++ [stepOf (varsL ats) (knEnd 0 ((stepsL ats).take k)) ats[k]] := by
  have h := (steps_at (varsL ats) ats 0 k hk).1
  have hl : k < (stepsL ats).length := by unfold stepsL; rw [stepsK_len]; exact hk
  rw [List.take_succ_eq_append_getElem hl]
  congr 2
  have h2 := List.getElem?_eq_getElem hl
  unfold stepsL at h2 hl ⊢
  rw [h2] at h
  exact Option.some.inj h
theorem kn_take {ats : List Atm} {k : Nat} (hk : k < ats.length) : knEnd 0 ((stepsL ats).take (k + 1)) = (stepOf (varsL ats) (knEnd 0 ((stepsL ats).take k)) ats[k]).next := (steps_at (varsL ats) ats 0 k hk).2
theorem kn_le {ats : List Atm} (k : Nat) : knEnd 0 ((stepsL ats).take k) ≤ (varsL ats).length := by
  have h : ∀ (ss : List Stp) (kn k : Nat), ChainOk kn ss → knEnd kn (ss.take k) ≤ knEnd kn ss := by
    intro ss
    induction ss with
    | nil => intro kn k _; simp
    | cons s r ih =>
      intro kn k hc
      cases k with
      | zero =>
        show kn ≤ knEnd s.next r
        have h1 := knEnd_le r s.next hc.2.2.2
        have h2 : kn ≤ s.next := by have := hc.1; unfold Stp.next; omega
        omega
      | succ k => exact ih s.next k hc.2.2.2
  have := h (stepsL ats) 0 k (chain_ok ats)
  rw [knEnd_ok] at this
  exact this
theorem sts_own {w : World} {base c : Nat} {A : Option Addr} {l : List Nm} (h : w.ownsRow base 9 1 (.slice A l.length c) l.length (strs l)) (hl : l.length ≤ 100) : Sts w A c l := by
  obtain ⟨A', c', e, h1, _, h2⟩ := own_shape h
  injection e with e1 _ e2
  subst e1 e2
  exact ⟨h2, h1, hl⟩
theorem fr_grown {w w' : World} {v : Value} (h : w.grownBy w' v.ownBlock) : Fr w w' v.ownBlock.toList := by
  rcases ho : v.ownBlock with _ | g
  · rw [ho] at h; exact Fr.of_grown0 h _
  · rw [ho] at h; exact Fr.of_grown h
theorem set4c {w : World} {b : Nat} {t : TypeId} {x0 x1 x2 x3 : Value} (h : w.heap[b]? = some (.cells #[x0, x1, x2, x3] t (0, 0))) (v0 v1 v2 v3 : Value) :
    ((((w.setCell ⟨b, 0, none⟩ v0).setCell ⟨b, 1, none⟩ v1).setCell ⟨b, 2, none⟩ v2).setCell ⟨b, 3, none⟩ v3).heap[b]? = some (.cells #[v0, v1, v2, v3] t (0, 0)) :=
  heap_setCell_same _ b 3 _ _ v3 (heap_setCell_same _ b 2 _ _ v2 (heap_setCell_same _ b 1 _ _ v1 (heap_setCell_same _ b 0 _ _ v0 h)))
/-- A box just made is filled. -/
theorem box4 {W1 w : World} {b : Nat} {t : TypeId} {x0 x1 x2 x3 v0 v1 v2 v3 : Value} (hb : Below W1.heap.size W1 w) (h : w.heap[b]? = some (.cells #[x0, x1, x2, x3] t (0, 0)) ∧ W1.heap.size ≤ b) :
    ((((w.setCell ⟨b, 0, none⟩ v0).setCell ⟨b, 1, none⟩ v1).setCell ⟨b, 2, none⟩ v2).setCell ⟨b, 3, none⟩ v3).heap[b]? = some (.cells #[v0, v1, v2, v3] t (0, 0)) ∧ Below W1.heap.size W1 ((((w.setCell ⟨b, 0, none⟩ v0).setCell ⟨b, 1, none⟩ v1).setCell ⟨b, 2, none⟩ v2).setCell ⟨b, 3, none⟩ v3) :=
  ⟨set4c h.1 v0 v1 v2 v3, ((((hb.setCell h.2 _).setCell h.2 _).setCell h.2 _).setCell h.2 _)⟩
/-- What Of answers. -/
def OfPost (w : World) (ss : List Stp) (e : Ending) (w' : World) : Prop := ∃ A c, e = .returned (.slice A ss.length c) ∧ Rd w' w'.heap.size A (stsC ss) ∧ ss.length ≤ c ∧ Below w.heap.size w w'
end Go.Proofs.Ytmldiojlglpoiaa
/- JoM, what this seat can fill of it. -/
namespace Go.Proofs.Ytmldiojlglpoiaa
/- Edges in memory; join.once. -/
open Go.RowKit Go.Maps

def edC (e : Ed) : List Value := [.int .i64 e.f, .string ⟨e.lab.toArray⟩, .int .i64 e.t]
def edsC (l : List Ed) : List Value := l.flatMap edC
theorem edsC_app (a b : List Ed) : edsC (a ++ b) = edsC a ++ edsC b := List.flatMap_append
theorem edsC_len (l : List Ed) : (edsC l).length = l.length * 3 := by
  induction l with
  | nil => rfl
  | cons a l ih =>
    show (edC a ++ edsC l).length = _
    rw [List.length_append, ih, List.length_cons]
    show 3 + _ = _
    omega
theorem edsC_one (l : List Ed) : ∀ u ∈ edsC l, u.oneCell' = true := by
  intro u hu
  obtain ⟨s, _, hs⟩ := List.mem_flatMap.1 hu
  simp [edC] at hs
  rcases hs with rfl | rfl | rfl <;> rfl
/-- A list of edges in memory. -/
structure Eds (w : World) (A : Option Addr) (c : Nat) (l : List Ed) : Prop where
  rd : Rd w w.heap.size A (edsC l)
  cap : l.length ≤ c
  ok : ∀ e ∈ l, e.Ok
  sm : l.length ≤ 200
theorem Eds.below {w w' : World} {A : Option Addr} {c : Nat} {l : List Ed} (h : Eds w A c l) (hb : Below w.heap.size w w') : Eds w' A c l :=
  ⟨(h.rd.below hb (Nat.le_refl _)).more hb.size, h.cap, h.ok, h.sm⟩
theorem Eds.drewN {w : World} {A : Option Addr} {c : Nat} {l : List Ed} (h : Eds w A c l) (n : Nat) : Eds (w.drewN n) A c l := ⟨h.rd, h.cap, h.ok, h.sm⟩
theorem Eds.cell {w : World} {A : Option Addr} {c : Nat} {l : List Ed} (h : Eds w A c l) {k : Nat} (hk : k < l.length) : ∃ b o, A = some ⟨b, o, none⟩ ∧ b < w.heap.size ∧ w.cell? ⟨b, o + k * 3, none⟩ = some (.int .i64 l[k].f) ∧ w.cell? ⟨b, o + k * 3 + 1, none⟩ = some (.string ⟨l[k].lab.toArray⟩) ∧ w.cell? ⟨b, o + k * 3 + 2, none⟩ = some (.int .i64 l[k].t) := by
  have hne : edsC l ≠ [] := fun e => by have := edsC_len l; rw [e] at this; simp at this; omega
  obtain ⟨b, o, e, hb, hc⟩ := h.rd hne
  have hat := fun j hj => flat3_at edC (fun _ => rfl) l k j hk hj
  refine ⟨b, o, e, hb, hc (k * 3) _ (hat 0 (by omega)), ?_, ?_⟩
  · rw [Nat.add_assoc]; exact hc (k * 3 + 1) _ (hat 1 (by omega))
  · rw [Nat.add_assoc]; exact hc (k * 3 + 2) _ (hat 2 (by omega))
theorem infoEdge : (Try.prog.info? 48).map (fun i => (i.zero, i.size, i.bytes)) = some (some (.agg #[.int .i64 0, .string .empty, .int .i64 0]), 3, 32) := by kernel_rfl
/-- A set of edges in a map. -/
def SeenE (w : World) (b : Nat) (l : List Ed) : Prop := ∃ g, MapV w 48 b l.length g ∧ ∀ e : Ed, g (edV e) = if e ∈ l then some (.agg #[]) else none
theorem SeenE.made (w : World) : SeenE (w.alloc (.map #[] 0)) w.heap.size [] := ⟨_, MapV.made w _, fun _ => rfl⟩
theorem SeenE.fr {w w' : World} {b : Nat} {l : List Ed} {S : List Nat} (h : SeenE w b l) (hf : Fr w w' S) (hS : b ∉ S) : SeenE w' b l := by
  obtain ⟨g, h, hg⟩ := h
  exact ⟨g, h.fr hf hS, hg⟩
theorem SeenE.below {w w' : World} {b : Nat} {l : List Ed} (h : SeenE w b l) (hb : Below w.heap.size w w') : SeenE w' b l := h.fr (Fr.of_below hb []) (by simp)
theorem SeenE.ne {w : World} {b : Nat} {l : List Ed} (h : SeenE w b l) {q : Nat} {cs : Array Value} {t : TypeId} {fr : Nat × Nat} (hq : w.heap[q]? = some (.cells cs t fr)) : b ≠ q := by
  rintro rfl
  obtain ⟨g, ⟨D, ⟨es, clock, hb, _⟩, _⟩, _⟩ := h
  rw [hb] at hq
  cases hq
/-- Where once is. -/
structure OnceAt (w wr : World) (b : Nat) (v : Value) (l : List Ed) : Prop where
  row : wr.ownsRow w.heap.size 48 3 v l.length (edsC l)
  seen : SeenE wr b l
  lo : w.heap.size ≤ b
  below : Below w.heap.size w wr
theorem OnceAt.kept {w wr w' : World} {b : Nat} {v : Value} {l : List Ed} (h : OnceAt w wr b v l) (hb : Below wr.heap.size wr w') : OnceAt w w' b v l :=
  ⟨own_below h.row hb (Nat.le_refl _), h.seen.below hb, h.lo, h.below.trans (lower' hb h.below.size)⟩
theorem OnceAt.alloc {w wr : World} {b : Nat} {v : Value} {l : List Ed} (h : OnceAt w wr b v l) (o : Obj) : OnceAt w (wr.alloc o) b v l := h.kept ((Below.refl _ _).alloc (Nat.le_refl _) _)
/-- What once answers. -/
def OnPost (w : World) (l : List Ed) (e : Ending) (w' : World) : Prop := ∃ A c, e = .returned (.slice A l.length c) ∧ Eds w' A c l ∧ Below w.heap.size w w'
end Go.Proofs.Ytmldiojlglpoiaa
/- JoN, what this seat can fill of it. -/
namespace Go.Proofs.Ytmldiojlglpoiaa
/- A step's calls: Fitting, Told, Tells. -/
open Go.RowKit Go.Maps

def enC (e : Int × Int) : List Value := [.int .i64 e.1, .int .i64 e.2]
def ensC (l : List (Int × Int)) : List Value := l.flatMap enC
theorem ensC_app (a b : List (Int × Int)) : ensC (a ++ b) = ensC a ++ ensC b := List.flatMap_append
theorem ensC_len (l : List (Int × Int)) : (ensC l).length = l.length * 2 := by
  induction l with
  | nil => rfl
  | cons a l ih =>
    show (enC a ++ ensC l).length = _
    rw [List.length_append, ih, List.length_cons]
    show 2 + _ = _
    omega
theorem ensC_one (l : List (Int × Int)) : ∀ u ∈ ensC l, u.oneCell' = true := by
  intro u hu
  obtain ⟨s, _, hs⟩ := List.mem_flatMap.1 hu
  simp [enC] at hs
  rcases hs with rfl | rfl <;> rfl
theorem flat2_at {α : Type} (f : α → List Value) (hf : ∀ a, (f a).length = 2) : ∀ (l : List α) (k j : Nat) (hk : k < l.length), j < 2 → (l.flatMap f)[k * 2 + j]? = (f l[k])[j]?
  | [], k, _, hk, _ => absurd hk (by simp)
  | a :: l, 0, j, _, hj => by
    rw [List.flatMap_cons, Nat.zero_mul, Nat.zero_add, List.getElem?_append_left (by rw [hf]; exact hj)]
    rfl
  | a :: l, k + 1, j, hk, hj => by
    rw [List.flatMap_cons, List.getElem?_append_right (by rw [hf]; omega), hf]
    have e : (k + 1) * 2 + j - 2 = k * 2 + j := by omega
    rw [e, flat2_at f hf l k j (by simpa using hk) hj]
    rfl
/-- A list of ends in memory. -/
structure Ens (w : World) (A : Option Addr) (c : Nat) (l : List (Int × Int)) : Prop where
  rd : Rd w w.heap.size A (ensC l)
  cap : l.length ≤ c
theorem Ens.below {w w' : World} {A : Option Addr} {c : Nat} {l : List (Int × Int)} (h : Ens w A c l) (hb : Below w.heap.size w w') : Ens w' A c l := ⟨(h.rd.below hb (Nat.le_refl _)).more hb.size, h.cap⟩
theorem Ens.cell {w : World} {A : Option Addr} {c : Nat} {l : List (Int × Int)} (h : Ens w A c l) {k : Nat} (hk : k < l.length) : ∃ b o, A = some ⟨b, o, none⟩ ∧ b < w.heap.size ∧ w.cell? ⟨b, o + k * 2, none⟩ = some (.int .i64 l[k].1) ∧ w.cell? ⟨b, o + k * 2 + 1, none⟩ = some (.int .i64 l[k].2) := by
  have hne : ensC l ≠ [] := fun e => by have := ensC_len l; rw [e] at this; simp at this; omega
  obtain ⟨b, o, e, hb, hc⟩ := h.rd hne
  have hat := fun j hj => flat2_at enC (fun _ => rfl) l k j hk hj
  refine ⟨b, o, e, hb, hc (k * 2) _ (hat 0 (by omega)), ?_⟩
  rw [Nat.add_assoc]
  exact hc (k * 2 + 1) _ (hat 1 (by omega))
/-- What Fitting answers. -/
def FiPost (w : World) (l : List (Int × Int)) (e : Ending) (w' : World) : Prop := ∃ A c, e = .returned (.slice A l.length c) ∧ Ens w' A c l ∧ Below w.heap.size w w'
end Go.Proofs.Ytmldiojlglpoiaa
/- TupS, what this seat can fill of it. -/
namespace Go.Proofs.Ytmldiojlglpoiaa
/- Tuples, lists of them and deltas among the arguments, opened. -/
open Go.ChangeShapes Go.WideShapes Go.ChangeAt Go.RowKit Go.Deep
set_option maxRecDepth 100000

/-- A tuple of whatever length. -/
def TV.Raw (w : World) (t : TV) : Prop := Rd w w.heap.size t.A (intsV t.l) ∧ t.l.length ≤ t.c
theorem rd_addr {W : World} {x : Addr} {xs : List Value} (hcc : ∀ j u, xs[j]? = some u → W.cell? (x.add j) = some u) : Rd W W.heap.size (some x) xs := by
  by_cases hb : x.block < W.heap.size
  · exact Rd.ofAddr hb hcc
  · intro hn
    obtain ⟨y, r, hyr⟩ := List.exists_cons_of_ne_nil hn
    have := hcc 0 y (by rw [hyr]; rfl)
    have h2 := World.block_lt_of_cell? W _ this
    simp [Addr.add] at h2
    omega
theorem tuple_trod {H : Type} {enc : TypeId × Value → H} {W : World} {fuel : Nat} {v : Value} {y : DataW H × List MemPlace}
    (hf : DataW.trod enc Try.prog W 0 (fun _ => true) true fuel 32 [v] = some y) : ∃ t : TV, v = t.val ∧ t.Raw W := by
  rcases open_ints Try.underlying32 Try.underlying3 (by kernel_rfl) hf with ⟨hcs, _⟩ | ⟨x, len0, cap0, zs, hcs, _, hl, hm, hz, hx, hcell, hwz⟩
  · simp only [List.cons.injEq, and_true] at hcs
    subst hcs
    exact ⟨⟨none, [], 0⟩, rfl, Rd.emp _ _ _, Nat.le_refl _⟩
  · simp only [List.cons.injEq, and_true] at hcs
    subst hcs
    simp only [if_true] at hz
    have hll : (zs.take len0).length = len0 := by rw [List.length_take]; omega
    refine ⟨⟨some x, zs.take len0, cap0⟩, by unfold TV.val; rw [hll], rd_addr fun j u hu => ?_, by show (zs.take len0).length ≤ cap0; omega⟩
    have hj : j < (intsV (zs.take len0)).length := (List.getElem?_eq_some_iff.1 hu).1
    rw [intsV_len, hll] at hj
    rw [hcell j (by omega), ← hu]
    simp [intsV, hj, List.getElem?_eq_getElem (show j < zs.length by omega)]
theorem choose_rows {α : Type} [Inhabited α] {p : Nat → α → Prop} (m : Nat) (h : ∀ i, i < m → ∃ q, p i q) : ∃ L : List α, L.length = m ∧ ∀ i (hi : i < L.length), p i L[i] := by
  obtain ⟨f, hf⟩ := choose_lt h
  refine ⟨(List.range m).map f, by simp, fun i hi => ?_⟩
  simp only [List.getElem_map, List.getElem_range]
  exact hf i (by simpa using hi)
theorem tuples_trod {H : Type} {enc : TypeId × Value → H} {W : World} {fuel : Nat} {v : Value} {y : DataW H × List MemPlace}
    (hf : DataW.trod enc Try.prog W 0 (fun _ => true) true fuel 24 [v] = some y) : ∃ x : LV, v = .slice x.A x.ts.length x.c ∧ x.Raw W := by
  rcases open_slice1 Try.underlying24 (by kernel_rfl) hf with ⟨hcs, _⟩ | ⟨x, len, cap, m, n, V, D, Pl, hcs, _, hl, hm, hmm, hx, hel⟩
  · simp only [List.cons.injEq, and_true] at hcs
    subst hcs
    exact ⟨⟨none, [], 0⟩, rfl, Rd.emp _ _ _, fun _ h => (nomatch h), Nat.le_refl _⟩
  · simp only [List.cons.injEq, and_true] at hcs
    subst hcs
    simp only [if_true] at hmm
    subst hmm
    have hel2 : ∀ i, i < len → ∃ q : TV, V i = q.val ∧ q.Raw W := fun i hi => tuple_trod (hel i (by omega)).2
    obtain ⟨L, hL, hk⟩ := choose_rows len hel2
    subst hL
    refine ⟨⟨some x, L, m⟩, rfl, rd_addr fun j u hu => ?_, fun t ht => ?_, hl⟩
    · have hj : j < L.length := by have := (List.getElem?_eq_some_iff.1 hu).1; rw [vals_len] at this; exact this
      rw [(hel j (by omega)).1, ← hu, (hk j hj).1]
      simp [vals, hj]
    · obtain ⟨i, hi, rfl⟩ := List.mem_iff_getElem.1 ht
      exact (hk i hi).2
theorem open_tuple {H : Type} {enc : TypeId × Value → H} {W : World} {base : Nat} {v : Value} {d : DataW H} {p : List MemPlace} (hv : Value.okWide Try.prog W .any base 32 v)
    (h : DataW.Trod enc Try.prog W 0 (fun _ => true) true 32 v d p) : ∃ t : TV, v = .slice t.A t.l.length t.c ∧ t.Raw W := by
  obtain ⟨a0, len0, cap0, rfl⟩ := okWide_slice Try.underlying32 hv
  obtain ⟨fuel, hf⟩ := h
  exact tuple_trod hf
theorem open_tuples {H : Type} {enc : TypeId × Value → H} {W : World} {base : Nat} {v : Value} {d : DataW H} {p : List MemPlace} (hv : Value.okWide Try.prog W .any base 24 v)
    (h : DataW.Trod enc Try.prog W 0 (fun _ => true) true 24 v d p) : ∃ x : LV, v = .slice x.A x.ts.length x.c ∧ x.Raw W := by
  obtain ⟨a0, len0, cap0, rfl⟩ := okWide_slice Try.underlying24 hv
  obtain ⟨fuel, hf⟩ := h
  exact tuples_trod hf
theorem trod_struct2 {H : Type} {enc : TypeId × Value → H} {P : Program} {w : World} {base : Nat} {spare : Nat → Bool} {held : Bool} {t : TypeId} {f0 f1 : Field} {fuel : Nat} {cs : List Value} {x : DataW H × List MemPlace}
    (ht : P.underlying t = some (.struct #[f0, f1])) (h : DataW.trod enc P w base spare held fuel t cs = some x) :
    ∃ y0 y1 n, DataW.trod enc P w base spare held n f0.type ((cs.drop f0.offset).take (P.cellsOf f0.type)) = some y0 ∧
      DataW.trod enc P w base spare held n f1.type ((cs.drop f1.offset).take (P.cellsOf f1.type)) = some y1 := by
  obtain ⟨xs, n, _, rfl, hl, hlen, hf⟩ := DataW.trod_struct ht h
  match xs, hlen with
  | [y0, y1], _ => exact ⟨y0, y1, n, by simpa using hf 0 f0 rfl, by simpa using hf 1 f1 rfl⟩
end Go.Proofs.Ytmldiojlglpoiaa
/- TupT, what this seat can fill of it. -/
namespace Go.Proofs.Ytmldiojlglpoiaa
/- The law's spoil. -/
open Go.RowKit Go.Maps

/-- spoil's state: a list of the call's own, some of its tuples turned; of the elder blocks just those of S have turned. -/
structure SpAt (w wr : World) (lo : Nat) (v : Value) (S : List Nat) (us : List TV) : Prop where
  row : OwnT wr lo v us
  tup : ∀ u ∈ us, OwnI wr lo u
  off : us.Pairwise Off
  fr : Fr w wr S
  inS : ∀ u ∈ us, ∀ a, u.A = some a → a.block ∈ S ∨ w.heap.size ≤ a.block
  rowS : ∀ s ∈ v.ownBlock.toList, s ∈ S
theorem off_get {us : List TV} (h : us.Pairwise Off) {i j : Nat} (hi : i < us.length) (hj : j < us.length) (hne : i ≠ j) : Off us[i] us[j] := by
  rw [List.pairwise_iff_getElem] at h
  rcases Nat.lt_or_gt_of_ne hne with h1 | h1
  · exact h i j hi hj h1
  · exact (h j i hj hi h1).symm
theorem mem_set_ix {us : List TV} {i : Nat} {u t : TV} (hi : i < us.length) (ht : t ∈ us.set i u) : t = u ∨ ∃ j, ∃ hj : j < us.length, j ≠ i ∧ t = us[j] := by
  obtain ⟨j, hj, rfl⟩ := List.getElem_of_mem ht
  rw [List.length_set] at hj
  by_cases e : j = i
  · subst e; left; simp
  · right; exact ⟨j, hj, e, by rw [List.getElem_set_ne (Ne.symm e)]⟩
theorem off_set {us : List TV} {i : Nat} {u : TV} (h : us.Pairwise Off) (hi : i < us.length) (hu : ∀ j (hj : j < us.length), j ≠ i → Off u us[j]) : (us.set i u).Pairwise Off := by
  rw [List.pairwise_iff_getElem]
  intro a b ha hb hab
  rw [List.length_set] at ha hb
  by_cases ea : a = i
  · subst ea
    rw [List.getElem_set_self, List.getElem_set_ne (by omega)]
    exact hu b (by simpa using hb) (by omega)
  · rw [List.getElem_set_ne (by omega)]
    by_cases eb : b = i
    · subst eb
      rw [List.getElem_set_self]
      exact (hu a (by simpa using ha) ea).symm
    · rw [List.getElem_set_ne (by omega)]
      exact off_get h (by simpa using ha) (by simpa using hb) (by omega)
theorem vals_set (us : List TV) (i : Nat) (u : TV) : vals (us.set i u) = (vals us).set i u.val := by simp [vals, List.map_set]
theorem intsV_set (l : Tu) (k : Nat) (z : Int) : intsV (l.set k z) = (intsV l).set k (.int .i64 z) := by simp [intsV, List.map_set]
/-- A number of a tuple is turned. -/
theorem SpAt.tick {w wr : World} {lo : Nat} {v : Value} {S : List Nat} {us : List TV} (h : SpAt w wr lo v S us) {i : Nat} (hi : i < us.length) {g : Nat} (hA : us[i].A = some ⟨g, 0, none⟩) (k : Nat) (z : Int) :
    SpAt w (wr.setCell ⟨g, k, none⟩ (.int .i64 z)) lo v S (us.set i ⟨us[i].A, us[i].l.set k z, us[i].c⟩) := by
  have hm := List.getElem_mem hi
  have ho : wr.ownsRow lo 3 1 (.slice (some ⟨g, 0, none⟩) us[i].l.length us[i].c) us[i].l.length (intsV us[i].l) := by
    have := h.tup _ hm
    unfold OwnI TV.val at this
    rw [hA] at this
    exact this
  obtain ⟨hst, hgr⟩ := World.ownsRow.stored ho k (.int .i64 z)
  have hfr := Fr.of_grown hgr
  have hrow := rowFrS h.row hfr fun s hs hms => own_apart ho h.row (by decide) g (by simp [Value.ownBlock]) (by rw [← List.mem_singleton.1 hms]; exact hs)
  have hval : (TV.mk us[i].A (us[i].l.set k z) us[i].c).val = us[i].val := by unfold TV.val; simp
  refine ⟨?_, fun t ht => ?_, off_set h.off hi fun j hj hne => ?_, h.fr.more hfr fun s hs => ?_, fun t ht => ?_, h.rowS⟩
  · unfold OwnT
    rw [List.length_set, vals_set, hval]
    have e : (vals us).set i us[i].val = vals us := by
      apply List.ext_getElem?
      intro j
      rw [List.getElem?_set]
      by_cases ej : i = j
      · subst ej
        simp [vals, hi]
      · rw [if_neg ej]
    rw [e]
    exact hrow
  · rcases mem_set_ix hi ht with rfl | ⟨j, hj, hne, rfl⟩
    · unfold OwnI TV.val
      dsimp only
      rw [List.length_set, intsV_set, hA]
      exact hst
    · refine (h.tup _ (List.getElem_mem hj)).fr hfr fun a ha hms => ?_
      exact off_get h.off hi hj (Ne.symm hne) _ a hA ha (List.mem_singleton.1 hms).symm
  · intro a b ha hb
    exact off_get h.off hi hj (Ne.symm hne) a b ha hb
  · rw [List.mem_singleton.1 hs]
    exact h.inS _ hm _ hA
  · rcases mem_set_ix hi ht with rfl | ⟨j, hj, hne, rfl⟩
    · exact fun a ha => h.inS _ hm a ha
    · exact h.inS _ (List.getElem_mem hj)
/-- append of a number onto a tuple of the call's own. -/
theorem run_app99 (W : World) (lo : Nat) (x : TV) (hx : OwnI W lo x) (hs : x.l.length ≤ 5000) (hl : lo ≤ W.heap.size) (z : Int) :
    ∃ u : TV, ∃ w', (Builtin.append_ #[32, 32] 32 #[.slice x.A x.l.length x.c, .slice (some ⟨W.heap.size, 0, none⟩) 1 1]).run Try.prog (W.alloc (.cells #[.int .i64 z] 3)) = .ok (.slice u.A u.l.length u.c) w' ∧ u.l = x.l ++ [z] ∧ OwnI w' lo u ∧
      (W.alloc (.cells #[.int .i64 z] 3)).grownBy w' x.val.ownBlock ∧ (u.val.ownBlock = x.val.ownBlock ∨ u.val.ownBlock = some (W.heap.size + 1)) := by
  obtain ⟨i0, hi, hz0, hz1, hz2⟩ := info_parts infoInt
  have h0 := World.ownsRow.alloc hx (.cells #[.int .i64 z] 3)
  obtain ⟨v', w', h1, h2, h3, h4⟩ := run_appR (P := Try.prog) (W.alloc (.cells #[.int .i64 z] 3)) lo 32 32 3 i0 _ 1 8 Try.underlying32 hi hz0 hz1 hz2 rfl (by omega) _ x.l.length (intsV x.l) h0 (W.heap.size + 1) (some ⟨W.heap.size, 0, none⟩) 1 1 (intsV [z]) rfl (Rd.new W #[.int .i64 z] 3 (0, 0)) (intsV_one _) (by omega) (by omega) (by simp; omega)
  obtain ⟨A, c, rfl, _, _, _⟩ := own_shape h2
  rw [alloc1_size] at h4
  refine ⟨⟨A, x.l ++ [z], c⟩, w', ?_, rfl, ?_, h3, ?_⟩
  · rw [List.length_append]; exact h1
  · unfold OwnI TV.val
    dsimp only
    rw [List.length_append]
    have e : intsV (x.l ++ [z]) = intsV x.l ++ intsV [z] := by simp [intsV]
    rw [e]
    exact h2
  · unfold TV.val
    dsimp only
    rw [List.length_append]
    exact h4
theorem SpAt.app {w wr w5 : World} {lo : Nat} {S : List Nat} {us : List TV} {gr c i : Nat} {z : Int} {u : TV} (h : SpAt w wr lo (.slice (some ⟨gr, 0, none⟩) us.length c) S us) (hi : i < us.length) (ho : OwnI w5 lo u)
    (hg : (wr.alloc (.cells #[.int .i64 z] 3)).grownBy w5 us[i].val.ownBlock) (hat : u.val.ownBlock = us[i].val.ownBlock ∨ u.val.ownBlock = some (wr.heap.size + 1)) :
    SpAt w (w5.setCell ⟨gr, i, none⟩ (.slice u.A u.l.length u.c)) lo (.slice (some ⟨gr, 0, none⟩) us.length c) S (us.set i u) := by
  have hm := List.getElem_mem hi
  have hb1 : Below wr.heap.size wr (wr.alloc (.cells #[.int .i64 z] 3)) := (Below.refl _ _).alloc (Nat.le_refl _) _
  have hf1 : Fr (wr.alloc (.cells #[.int .i64 z] 3)) w5 us[i].val.ownBlock.toList := by
    rcases e : us[i].val.ownBlock with _ | g
    · rw [e] at hg; exact Fr.of_grown0 hg _
    · rw [e] at hg; exact Fr.of_grown hg
  have hti := OwnI.below (h.tup _ hm) hb1
  have hrow5 : OwnT w5 lo (.slice (some ⟨gr, 0, none⟩) us.length c) us := rowFrS (own_below h.row hb1 (Nat.le_refl _)) hf1 fun s hs hms => own_apart hti (own_below h.row hb1 (Nat.le_refl _)) (by decide) s hms hs
  obtain ⟨hst, hgr⟩ := World.ownsRow.stored hrow5 i u.val
  have hf2 := Fr.of_grown hgr
  have hrS := h.rowS gr (by simp [Value.ownBlock])
  have hapart : ∀ t : TV, OwnI w5 lo t → ∀ a, t.A = some a → a.block ∉ [gr] := fun t ht a ha hms =>
    own_apart ht hrow5 (by decide) a.block (by unfold TV.val; rw [ha]; simp [Value.ownBlock]) (by rw [List.mem_singleton.1 hms]; simp [Value.ownBlock])
  have hblk : ∀ t : TV, ∀ b, t.val.ownBlock = some b ↔ ∃ a, t.A = some a ∧ a.block = b := fun t b => by
    unfold TV.val
    rcases t.A with _ | a <;> simp [Value.ownBlock]
  have h5j : ∀ j (hj : j < us.length), j ≠ i → OwnI w5 lo us[j] := fun j hj hne => (OwnI.below (h.tup _ (List.getElem_mem hj)) hb1).fr hf1 fun a ha hms => by
    rcases e : us[i].val.ownBlock with _ | g
    · rw [e] at hms; simp at hms
    · rw [e] at hms
      simp at hms
      obtain ⟨a', ha', hb'⟩ := (hblk us[i] g).1 e
      exact off_get h.off hi hj (Ne.symm hne) a' a ha' ha (by rw [hb', hms])
  refine ⟨?_, fun t ht => ?_, off_set h.off hi fun j hj hne => ?_, ?_, fun t ht => ?_, h.rowS⟩
  · unfold OwnT
    rw [List.length_set, vals_set]
    exact hst
  · rcases mem_set_ix hi ht with rfl | ⟨j, hj, hne, rfl⟩
    · exact ho.fr hf2 (hapart _ ho)
    · exact (h5j j hj hne).fr hf2 (hapart _ (h5j j hj hne))
  · intro a b ha hb e
    rcases hat with e1 | e1
    · obtain ⟨a', ha', hb'⟩ := (hblk us[i] a.block).1 (by rw [← e1]; exact (hblk u a.block).2 ⟨a, ha, rfl⟩)
      exact off_get h.off hi hj (Ne.symm hne) a' b ha' hb (by rw [hb', e])
    · have h2 := (hblk u a.block).2 ⟨a, ha, rfl⟩
      rw [e1] at h2
      injection h2 with h2
      have h3 := ((h.tup _ (List.getElem_mem hj)).lo b hb).2
      omega
  · have f1 : Fr wr w5 us[i].val.ownBlock.toList := (Fr.of_below hb1 _).trans hf1
    have f2 := h.fr.more f1 fun s hs => by
      obtain ⟨a, ha, hb⟩ := (hblk us[i] s).1 (by simpa using hs)
      rw [← hb]
      exact h.inS _ hm a ha
    exact f2.more hf2 fun s hs => by rw [List.mem_singleton.1 hs]; exact .inl hrS
  · rcases mem_set_ix hi ht with rfl | ⟨j, hj, hne, rfl⟩
    · intro a ha
      rcases hat with e1 | e1
      · obtain ⟨a', ha', hb'⟩ := (hblk us[i] a.block).1 (by rw [← e1]; exact (hblk t a.block).2 ⟨a, ha, rfl⟩)
        rw [← hb']
        exact h.inS _ hm a' ha'
      · have h2 := (hblk t a.block).2 ⟨a, ha, rfl⟩
        rw [e1] at h2
        injection h2 with h2
        have := h.fr.size
        exact .inr (by omega)
    · exact h.inS _ (List.getElem_mem hj)
/-- All blocks of a list and its tuples. -/
def blksL (x : LV) : List Nat := x.val.ownBlock.toList ++ x.ts.flatMap fun t => t.val.ownBlock.toList
theorem SpAt.start {w : World} {lo : Nat} {x : LV} (h : OwnL w lo x.val x.ts) : SpAt w w lo x.val (blksL x) x.ts := by
  refine ⟨h.row, h.tup, h.off, Fr.refl _ _, fun u hu a ha => .inl ?_, fun s hs => List.mem_append.2 (.inl hs)⟩
  refine List.mem_append.2 (.inr (List.mem_flatMap.2 ⟨u, hu, ?_⟩))
  unfold TV.val
  rw [ha]
  simp [Value.ownBlock]
theorem blksL_rng {w : World} {lo m : Nat} {x : LV} (h : OwnL w lo x.val x.ts) (hm : LtB x m) : ∀ s ∈ blksL x, lo ≤ s ∧ s < m := by
  intro s hs
  rcases List.mem_append.1 hs with hs | hs
  · have h1 := (World.ownsRow.lt h.row s (by simpa using hs)).1
    refine ⟨h1, ?_⟩
    rcases hA : x.A with _ | a
    · unfold LV.val at hs; rw [hA] at hs; simp [Value.ownBlock] at hs
    · unfold LV.val at hs; rw [hA] at hs; simp [Value.ownBlock] at hs
      rw [hs]; exact hm.1 a hA
  · obtain ⟨t, ht, hs⟩ := List.mem_flatMap.1 hs
    rcases hA : t.A with _ | a
    · unfold TV.val at hs; rw [hA] at hs; simp [Value.ownBlock] at hs
    · unfold TV.val at hs; rw [hA] at hs; simp [Value.ownBlock] at hs
      rw [hs]
      exact ⟨((h.tup t ht).lo a hA).1, hm.2 t ht a hA⟩
end Go.Proofs.Ytmldiojlglpoiaa
/- TupU, what this seat can fill of it. -/
namespace Go.Proofs.Ytmldiojlglpoiaa
/- What the laws of this layer share: few of some lists. -/
open Go.RowKit Go.Maps

theorem fewB_mem {ls : List LV} (h : fewB ls = true) {x : LV} (hx : x ∈ ls) : fewL x = true := List.all_eq_true.1 h x hx
theorem de_fix {w' : World} {lo m : Nat} {x y : LV} (p1 : OwnL w' lo x.val x.ts) (p3 : LtB x m) (p4 : lo ≤ m) (p5 : OwnL w' m y.val y.ts) (h : lo ≤ w'.heap.size) : ∃ k, LtB x k ∧ lo ≤ k ∧ OwnL w' k y.val y.ts ∧ k ≤ w'.heap.size := by
  have q := p1.lt
  refine ⟨min m w'.heap.size, ⟨fun a ha => ?_, fun t ht a ha => ?_⟩, by omega, p5.mono (Nat.min_le_left _ _), Nat.min_le_right _ _⟩
  · have := p3.1 a ha
    have := q.1 a ha
    omega
  · have := p3.2 t ht a ha
    have := q.2 t ht a ha
    omega
end Go.Proofs.Ytmldiojlglpoiaa
