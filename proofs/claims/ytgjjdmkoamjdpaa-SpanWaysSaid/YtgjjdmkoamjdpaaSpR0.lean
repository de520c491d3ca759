/- What is reached, step by step; roads that are ready. -/
import Derived.Test.YtgjjdmkoamjdpaaSpQ
namespace Go.Proofs.Ytgjjdmkoamjdpaa
open Go.RowKit Go.Maps Go.Sort

/-- Roads that stand for a label's pairs. -/
structure Rdy (x : RV) (E : List Pr) : Prop where
  roads : Roads x.N (plR x.o.ts) (plR x.i.ts) E
  po : ∀ t ∈ x.o.ts, ∀ v ∈ t.l, 0 ≤ v ∧ v < x.N.length
  pi : ∀ t ∈ x.i.ts, ∀ v ∈ t.l, 0 ≤ v ∧ v < x.N.length
  ol : x.o.ts.length = x.N.length
  il : x.i.ts.length = x.N.length
  nl : x.N.length ≤ 2000
theorem plR_tus (ts : List TV) : plR ts = (tus ts).map fun l => l.map Int.toNat := by unfold plR tus; rw [List.map_map]; rfl
theorem rdy_of {lab : Nm} {es : List Ed} {x : RV} (hes : es.length ≤ 1000) (hN : x.N = nodesL lab es) (ho : tus x.o.ts = mixO (nodesL lab es) lab es (nodesL lab es).length) (hi : tus x.i.ts = insO (nodesL lab es) lab es (nodesL lab es).length 0) : Rdy x (prsL lab es) := by
  obtain ⟨h1, h2, h3, _, _⟩ := roads_ok lab es _ _ ho hi
  refine ⟨by rw [hN, plR_tus, plR_tus]; exact h1, fun t ht v hv => by rw [hN]; exact h2 _ (mem_tus ht) v hv, fun t ht v hv => by rw [hN]; exact h3 _ (mem_tus ht) v hv, ?_, ?_, ?_⟩
  · rw [hN, ← tus_len, ho, mixO_len]
  · rw [hN, ← tus_len, hi, insO_len]
  · rw [hN]
    have := nodesL_len lab es
    omega
theorem atR_at {ts : List TV} {p : Nat} (h : p < ts.length) (q : Nat) : AtR (plR ts) p q ↔ q ∈ ts[p].l.map Int.toNat := by
  unfold AtR
  rw [plR_at h]
theorem atR_int {ts : List TV} {p n : Nat} (h : p < ts.length) (hb : ∀ t ∈ ts, ∀ v ∈ t.l, 0 ≤ v ∧ v < (n : Int)) (q : Nat) : AtR (plR ts) p q ↔ (q : Int) ∈ ts[p].l := by
  rw [atR_at h, List.mem_map]
  constructor
  · rintro ⟨v, hv, e⟩
    have := hb _ (List.getElem_mem h) v hv
    have : v = (q : Int) := by omega
    rw [← this]
    exact hv
  · exact fun h => ⟨(q : Int), h, by simp⟩
/-- Places found from one on: i of them have been looked at. -/
structure Bfs (O : Rows) (n f : Nat) (F : List Nat) (i : Nat) : Prop where
  nodup : F.Nodup
  lead : ∀ q ∈ F, q < n ∧ Lead (AtR O) f q
  done : ∀ j, j < i → ∀ q, AtR O ((f :: F).getD j f) q → q ∈ F
theorem Bfs.start (O : Rows) (n f : Nat) : Bfs O n f [] 0 := ⟨.nil, (fun _ h => nomatch h), (fun j h => absurd h (Nat.not_lt_zero _))⟩
theorem Bfs.len {O : Rows} {n f : Nat} {F : List Nat} {i : Nat} (h : Bfs O n f F i) : F.length ≤ n := by
  have := nodup_len (m := List.range n) h.nodup fun x hx => List.mem_range.2 (h.lead x hx).1
  rwa [List.length_range] at this
theorem Bfs.src {O : Rows} {n f : Nat} {F : List Nat} {i : Nat} (h : Bfs O n f F i) {c : Nat} (hc : c ∈ f :: F) {q : Nat} (hq : AtR O c q) : Lead (AtR O) f q := by
  rcases List.mem_cons.1 hc with rfl | hc
  · exact .one hq
  · exact (h.lead c hc).2.snoc hq
theorem getD_app {α : Type} {l : List α} {x d : α} {j : Nat} (h : j < l.length) : (l ++ [x]).getD j d = l.getD j d := by
  rw [List.getD_eq_getElem?_getD, List.getD_eq_getElem?_getD, List.getElem?_append_left h]
theorem Bfs.add {O : Rows} {n f : Nat} {F : List Nat} {i : Nat} (h : Bfs O n f F i) (hi : i ≤ F.length + 1) {q : Nat} (hq : q < n) (hn : q ∉ F) (hl : Lead (AtR O) f q) : Bfs O n f (F ++ [q]) i := by
  refine ⟨?_, fun z hz => ?_, fun j hj z hz => ?_⟩
  · rw [List.nodup_append]
    exact ⟨h.nodup, List.pairwise_singleton _ _, fun a ha b hb => by rw [List.mem_singleton.1 hb]; exact fun e => hn (e ▸ ha)⟩
  · rcases List.mem_append.1 hz with hz | hz
    · exact h.lead z hz
    · rw [List.mem_singleton.1 hz]; exact ⟨hq, hl⟩
  · have e : (f :: (F ++ [q])).getD j f = (f :: F).getD j f := by
      have h2 : f :: (F ++ [q]) = (f :: F) ++ [q] := rfl
      rw [h2, getD_app (by simp; omega)]
    rw [e] at hz
    exact List.mem_append.2 (.inl (h.done j hj z hz))
theorem Bfs.next {O : Rows} {n f : Nat} {F : List Nat} {i : Nat} (h : Bfs O n f F i) (hd : ∀ q, AtR O ((f :: F).getD i f) q → q ∈ F) : Bfs O n f F (i + 1) :=
  ⟨h.nodup, h.lead, fun j hj q hq => by
    by_cases e : j = i
    · subst e; exact hd q hq
    · exact h.done j (by omega) q hq⟩
theorem Bfs.fin {O : Rows} {n f : Nat} {F : List Nat} {i : Nat} (h : Bfs O n f F i) (hi : F.length + 1 ≤ i) (q : Nat) : q ∈ F ↔ Lead (AtR O) f q := by
  refine ⟨fun hq => (h.lead q hq).2, fun hl => ?_⟩
  have hat : ∀ c ∈ f :: F, ∀ z, AtR O c z → z ∈ F := by
    intro c hc z hz
    obtain ⟨j, hj, e⟩ := List.getElem_of_mem hc
    refine h.done j (by simp at hj; omega) z ?_
    rw [List.getD_eq_getElem?_getD, List.getElem?_eq_getElem hj]
    simp only [Option.getD_some]
    rw [e]
    exact hz
  exact hl.closed (S := fun z => z ∈ F) (fun z hz => hat f (List.mem_cons_self ..) z hz) fun a b ha hb => hat a (List.mem_cons_of_mem _ ha) b hb
theorem LV.Ok.cel {w : World} {x : LV} (h : x.Ok w) {k : Nat} (hk : k < x.ts.length) : ∃ b o, x.A = some ⟨b, o, none⟩ ∧ b < w.heap.size ∧ w.cell? ⟨b, o + k, none⟩ = some (.slice x.ts[k].A x.ts[k].l.length x.ts[k].c) := Lst.cell h hk
theorem LV.Ok.att {w : World} {x : LV} (h : x.Ok w) {k : Nat} (hk : k < x.ts.length) : x.ts[k].Ok w := Lst.at h hk
/-- Places as numbers. -/
def intsP (l : List Nat) : List Int := l.map fun p : Nat => (p : Int)
theorem intsP_len (l : List Nat) : (intsP l).length = l.length := List.length_map _
theorem mem_intsP {l : List Nat} {q : Nat} : (q : Int) ∈ intsP l ↔ q ∈ l := by
  unfold intsP
  rw [List.mem_map]
  constructor
  · rintro ⟨p, hp, e⟩
    have : p = q := by omega
    subst this
    exact hp
  · exact fun h => ⟨q, h, rfl⟩
theorem intsP_at {l : List Nat} {i : Nat} (h : i < l.length) : (intsP l)[i]'(by rw [intsP_len]; exact h) = (l[i] : Int) := by simp [intsP]
/-- A number of a row is put. -/
theorem OwnI.setAt {w : World} {lo g : Nat} {t : TV} (h : OwnI w lo t) (hA : t.A = some ⟨g, 0, none⟩) {p : Nat} (hp : p < t.l.length) (v : Int) :
    w.cell? ⟨g, p, none⟩ = some (.int .i64 t.l[p]) ∧ w.frozen? ⟨g, p, none⟩ = false ∧ OwnI (w.setCell ⟨g, p, none⟩ (.int .i64 v)) lo ⟨t.A, t.l.set p v, t.c⟩ ∧ Fr w (w.setCell ⟨g, p, none⟩ (.int .i64 v)) [g] ∧ lo ≤ g ∧ g < w.heap.size := by
  have h0 := h
  unfold OwnI TV.val at h0
  rw [hA] at h0
  obtain ⟨hst, hgr⟩ := World.ownsRow.stored h0 p (.int .i64 v)
  have hlt := World.ownsRow.lt h0 g rfl
  refine ⟨?_, World.ownsRow.frozenAt h0 p, ?_, Fr.of_grown hgr, hlt.1, hlt.2⟩
  · rw [World.ownsRow.cellAt h0 p (by rw [Nat.mul_one]; exact hp), intsV_at t.l p hp]
  · unfold OwnI TV.val
    dsimp only
    rw [List.length_set, intsV_set, hA]
    exact hst
/-- What reached answers. -/
def RcPost (O : Rows) (n f : Nat) (w : World) (lo : Nat) (s : TV) (e : Ending) (w' : World) : Prop :=
  ∃ (A' : Option Addr) (g : Nat) (fc : Nat) (F : List Nat) (sl : List Int), e = .returned (.slice A' F.length (fc - 1)) ∧ (F ≠ [] → A' = some ⟨g, 1, none⟩) ∧ OwnI w' w.heap.size ⟨some ⟨g, 0, none⟩, intsP (f :: F), fc⟩ ∧ F.Nodup ∧ (∀ q, q ∈ F ↔ Lead (AtR O) f q) ∧ (∀ q ∈ F, q < n) ∧ OwnI w' lo ⟨s.A, sl, s.c⟩ ∧ sl.length = n ∧ (∀ v ∈ sl, v ∈ s.l ∨ v = (f : Int)) ∧ Below lo w w' ∧ Fr w w' s.val.ownBlock.toList
end Go.Proofs.Ytgjjdmkoamjdpaa
