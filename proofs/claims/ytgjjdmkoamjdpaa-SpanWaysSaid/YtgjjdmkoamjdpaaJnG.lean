/- Joined: SpE SpV0 SpF. -/
import Derived.Test.YtgjjdmkoamjdpaaJnF
import Derived.Test.YtgjjdmkoamjdpaaJnA
/- Roads out of edges, plainly: rows of places as they come, each once, turned. -/
namespace Go.Proofs.Ytgjjdmkoamjdpaa

/-- The ends of a label's edges, as they come. -/
def endsL (lab : Nm) (es : List Ed) : List Int := es.flatMap fun e => if e.lab = lab then [e.f, e.t] else []
theorem endsL_take {lab : Nm} {es : List Ed} {k : Nat} (h : k < es.length) : endsL lab (es.take (k + 1)) = endsL lab (es.take k) ++ if es[k].lab = lab then [es[k].f, es[k].t] else [] := by
  unfold endsL
  rw [List.take_succ_eq_append_getElem h, List.flatMap_append]
  simp
theorem endsL_len (lab : Nm) : ∀ es : List Ed, (endsL lab es).length ≤ 2 * es.length
  | [] => by simp [endsL]
  | e :: es => by
    have ih := endsL_len lab es
    unfold endsL at *
    rw [List.flatMap_cons, List.length_append]
    have h2 : (if e.lab = lab then [e.f, e.t] else []).length ≤ 2 := by split <;> simp
    simp only [List.length_cons]
    omega
theorem onceI_len (l : List Int) : (onceI l).length ≤ l.length := nodup_len (risI_nodup (ris_onceI l)) fun _ hx => mem_onceI.1 hx
/-- The nodes of a label. -/
def nodesL (lab : Nm) (es : List Ed) : List Int := onceI (endsL lab es)
theorem nodesL_len (lab : Nm) (es : List Ed) : (nodesL lab es).length ≤ 2 * es.length := Nat.le_trans (onceI_len _) (endsL_len lab es)
theorem mem_nodesL {lab : Nm} {es : List Ed} {a : Int} : a ∈ nodesL lab es ↔ ∃ e ∈ es, e.lab = lab ∧ (a = e.f ∨ a = e.t) := by
  unfold nodesL endsL
  rw [mem_onceI, List.mem_flatMap]
  constructor
  · rintro ⟨e, he, ha⟩
    split at ha
    · rename_i h
      simp at ha
      exact ⟨e, he, h, ha⟩
    · cases ha
  · rintro ⟨e, he, h, ha⟩
    refine ⟨e, he, ?_⟩
    rw [if_pos h]
    simpa using ha
/-- The pairs of a label. -/
def prsL (lab : Nm) (es : List Ed) : List Pr := (es.filter fun e => decide (e.lab = lab)).map fun e => (e.f, e.t)
theorem mem_prsL {lab : Nm} {es : List Ed} {a b : Int} : (a, b) ∈ prsL lab es ↔ ∃ e ∈ es, e.lab = lab ∧ e.f = a ∧ e.t = b := by
  unfold prsL
  rw [List.mem_map]
  constructor
  · rintro ⟨e, he, h⟩
    obtain ⟨h1, h2⟩ := List.mem_filter.1 he
    injection h with h3 h4
    exact ⟨e, h1, of_decide_eq_true h2, h3, h4⟩
  · rintro ⟨e, he, h, h3, h4⟩
    exact ⟨e, List.mem_filter.2 ⟨he, decide_eq_true h⟩, by rw [h3, h4]⟩
/-- Where a place leads, as the edges come. -/
def rawO (N : List Int) (lab : Nm) (es : List Ed) (p : Nat) : List Int := (es.filter fun e => decide (e.lab = lab) && decide (e.f = N.getD p 0)).map fun e => ((N.idxOf e.t : Nat) : Int)
def rawsO (N : List Int) (lab : Nm) (es : List Ed) : List Tu := (List.range N.length).map (rawO N lab es)
theorem rawsO_nil (N : List Int) (lab : Nm) : rawsO N lab [] = List.replicate N.length [] := by
  unfold rawsO
  rw [List.eq_replicate_iff]
  exact ⟨by simp, fun x hx => by obtain ⟨p, _, rfl⟩ := List.mem_map.1 hx; rfl⟩
theorem rawsO_len (N : List Int) (lab : Nm) (es : List Ed) : (rawsO N lab es).length = N.length := by unfold rawsO; simp
theorem rawO_len (N : List Int) (lab : Nm) (es : List Ed) (p : Nat) : (rawO N lab es p).length ≤ es.length := by
  unfold rawO
  rw [List.length_map]
  exact List.length_filter_le _ _
theorem rawsO_at {N : List Int} {lab : Nm} {es : List Ed} {p : Nat} (h : p < N.length) : (rawsO N lab es)[p]'(by rw [rawsO_len]; exact h) = rawO N lab es p := by simp [rawsO]
theorem rawO_take {N : List Int} {lab : Nm} {es : List Ed} {k p : Nat} (h : k < es.length) : rawO N lab (es.take (k + 1)) p = rawO N lab (es.take k) p ++ if es[k].lab = lab ∧ es[k].f = N.getD p 0 then [((N.idxOf es[k].t : Nat) : Int)] else [] := by
  unfold rawO
  rw [List.take_succ_eq_append_getElem h, List.filter_append, List.map_append, List.filter_cons]
  by_cases h1 : es[k].lab = lab ∧ es[k].f = N.getD p 0
  · rw [if_pos h1, if_pos (by rw [decide_eq_true h1.1, decide_eq_true h1.2]; rfl)]
    rfl
  · rw [if_neg h1, if_neg (fun hb => h1 (by rw [Bool.and_eq_true, decide_eq_true_eq, decide_eq_true_eq] at hb; exact hb))]
    rfl
theorem rawsO_skip {N : List Int} {lab : Nm} {es : List Ed} {k : Nat} (h : k < es.length) (hl : es[k].lab ≠ lab) : rawsO N lab (es.take (k + 1)) = rawsO N lab (es.take k) := by
  unfold rawsO
  refine List.map_congr_left fun p _ => ?_
  rw [rawO_take h, if_neg (fun hc => hl hc.1), List.append_nil]
theorem rawsO_put {N : List Int} {lab : Nm} {es : List Ed} {k p : Nat} (hN : RisI N) (h : k < es.length) (hl : es[k].lab = lab) (hp : p < N.length) (hf : N[p] = es[k].f) : rawsO N lab (es.take (k + 1)) = (rawsO N lab (es.take k)).set p (rawO N lab (es.take k) p ++ [((N.idxOf es[k].t : Nat) : Int)]) := by
  apply List.ext_getElem
  · rw [List.length_set, rawsO_len, rawsO_len]
  · intro j h1 h2
    rw [rawsO_len] at h1
    rw [List.getElem_set, rawsO_at h1, rawO_take h]
    by_cases e : p = j
    · subst e
      rw [if_pos rfl, if_pos ⟨hl, by rw [getD_at hp]; exact hf.symm⟩]
    · rw [if_neg e, rawsO_at h1, if_neg (fun hc => e (risI_inj hN hp h1 (by rw [hf, hc.2, getD_at h1]))), List.append_nil]
def outO (N : List Int) (lab : Nm) (es : List Ed) (p : Nat) : List Int := onceI (rawO N lab es p)
theorem outO_len (N : List Int) (lab : Nm) (es : List Ed) (p : Nat) : (outO N lab es p).length ≤ es.length := Nat.le_trans (onceI_len _) (rawO_len _ _ _ _)
/-- The first f rows each once, the others as they come. -/
def mixO (N : List Int) (lab : Nm) (es : List Ed) (f : Nat) : List Tu := (List.range N.length).map fun p => if p < f then outO N lab es p else rawO N lab es p
theorem mixO_len (N : List Int) (lab : Nm) (es : List Ed) (f : Nat) : (mixO N lab es f).length = N.length := by unfold mixO; simp
theorem mixO_at {N : List Int} {lab : Nm} {es : List Ed} {f p : Nat} (h : p < N.length) : (mixO N lab es f)[p]'(by rw [mixO_len]; exact h) = if p < f then outO N lab es p else rawO N lab es p := by simp [mixO]
theorem mixO_zero (N : List Int) (lab : Nm) (es : List Ed) : mixO N lab es 0 = rawsO N lab es := by
  unfold mixO rawsO
  exact List.map_congr_left fun p _ => if_neg (Nat.not_lt_zero _)
theorem mixO_next {N : List Int} {lab : Nm} {es : List Ed} {f : Nat} (h : f < N.length) : mixO N lab es (f + 1) = (mixO N lab es f).set f (outO N lab es f) := by
  apply List.ext_getElem
  · rw [List.length_set, mixO_len, mixO_len]
  · intro j h1 h2
    rw [mixO_len] at h1
    rw [List.getElem_set, mixO_at h1]
    by_cases e : f = j
    · subst e; rw [if_pos rfl, if_pos (by omega)]
    · rw [if_neg e, mixO_at h1]
      by_cases h3 : j < f
      · rw [if_pos h3, if_pos (by omega)]
      · rw [if_neg h3, if_neg (by omega)]
/-- Who leads to a place, of the first f places, and of f if the place is among its first j. -/
def inO (N : List Int) (lab : Nm) (es : List Ed) (f j q : Nat) : List Int := ((List.range f).filter fun p : Nat => decide ((q : Int) ∈ outO N lab es p)).map (fun p : Nat => (p : Int)) ++ if (q : Int) ∈ (outO N lab es f).take j then [(f : Int)] else []
def insO (N : List Int) (lab : Nm) (es : List Ed) (f j : Nat) : List Tu := (List.range N.length).map (inO N lab es f j)
theorem insO_len (N : List Int) (lab : Nm) (es : List Ed) (f j : Nat) : (insO N lab es f j).length = N.length := by unfold insO; simp
theorem insO_at {N : List Int} {lab : Nm} {es : List Ed} {f j q : Nat} (h : q < N.length) : (insO N lab es f j)[q]'(by rw [insO_len]; exact h) = inO N lab es f j q := by simp [insO]
theorem inO_len (N : List Int) (lab : Nm) (es : List Ed) (f j q : Nat) : (inO N lab es f j q).length ≤ f + 1 := by
  unfold inO
  rw [List.length_append, List.length_map]
  have := List.length_filter_le (fun p : Nat => decide ((q : Int) ∈ outO N lab es p)) (List.range f)
  rw [List.length_range] at this
  split <;> simp <;> omega
theorem insO_zero (N : List Int) (lab : Nm) (es : List Ed) : insO N lab es 0 0 = List.replicate N.length [] := by
  unfold insO
  rw [List.eq_replicate_iff]
  exact ⟨by simp, fun x hx => by obtain ⟨p, _, rfl⟩ := List.mem_map.1 hx; simp [inO]⟩
theorem insO_next (N : List Int) (lab : Nm) (es : List Ed) (f j : Nat) (h : (outO N lab es f).length ≤ j) : insO N lab es f j = insO N lab es (f + 1) 0 := by
  unfold insO
  refine List.map_congr_left fun q _ => ?_
  unfold inO
  rw [List.take_of_length_le h, List.take_zero, List.range_succ, List.filter_append, List.map_append, List.filter_cons]
  by_cases hm : (q : Int) ∈ outO N lab es f
  · rw [if_pos hm, if_pos (decide_eq_true hm)]; simp
  · rw [if_neg hm, if_neg (by simpa using hm)]; simp
theorem insO_put {N : List Int} {lab : Nm} {es : List Ed} {f j q : Nat} (hj : j < (outO N lab es f).length) (hq : q < N.length) (he : (outO N lab es f)[j] = (q : Int)) : insO N lab es f (j + 1) = (insO N lab es f j).set q (inO N lab es f j q ++ [(f : Int)]) := by
  have hnd : (outO N lab es f).Nodup := risI_nodup (ris_onceI _)
  have htk : (outO N lab es f).take (j + 1) = (outO N lab es f).take j ++ [(q : Int)] := by rw [List.take_succ_eq_append_getElem hj, he]
  apply List.ext_getElem
  · rw [List.length_set, insO_len, insO_len]
  · intro i h1 h2
    rw [insO_len] at h1
    rw [List.getElem_set, insO_at h1]
    by_cases e : q = i
    · subst e
      rw [if_pos rfl]
      unfold inO
      have hno : (q : Int) ∉ (outO N lab es f).take j := fun hm => by
        obtain ⟨i, hi, ei⟩ := List.getElem_of_mem hm
        rw [List.length_take] at hi
        rw [List.getElem_take, ← he] at ei
        have := (List.getElem_inj hnd).1 ei
        omega
      rw [if_pos (by rw [htk]; simp), if_neg hno, List.append_nil]
    · rw [if_neg e, insO_at h1]
      unfold inO
      have hiff : ((i : Int) ∈ (outO N lab es f).take (j + 1)) ↔ ((i : Int) ∈ (outO N lab es f).take j) := by
        rw [htk, List.mem_append, List.mem_singleton]
        constructor
        · rintro (h | h)
          · exact h
          · omega
        · exact .inl
      by_cases hm : (i : Int) ∈ (outO N lab es f).take j
      · rw [if_pos hm, if_pos (hiff.2 hm)]
      · rw [if_neg hm, if_neg (fun h => hm (hiff.1 h))]
/-- Places of a label's nodes. -/
theorem idx_node {lab : Nm} {es : List Ed} {a : Int} (h : a ∈ nodesL lab es) : (nodesL lab es).idxOf a < (nodesL lab es).length ∧ ∀ hi, (nodesL lab es)[(nodesL lab es).idxOf a]'hi = a := ⟨List.idxOf_lt_length_iff.2 h, fun hi => List.getElem_idxOf hi⟩
theorem mem_outO {lab : Nm} {es : List Ed} {p : Nat} {v : Int} (hp : p < (nodesL lab es).length) : v ∈ outO (nodesL lab es) lab es p ↔ ∃ q : Nat, v = (q : Int) ∧ q < (nodesL lab es).length ∧ ((nodesL lab es).getD p 0, (nodesL lab es).getD q 0) ∈ prsL lab es := by
  unfold outO rawO
  rw [mem_onceI, List.mem_map]
  constructor
  · rintro ⟨e, he, rfl⟩
    obtain ⟨h1, h2⟩ := List.mem_filter.1 he
    rw [Bool.and_eq_true, decide_eq_true_eq, decide_eq_true_eq] at h2
    obtain ⟨k1, k2⟩ := idx_node (mem_nodesL.2 ⟨e, h1, h2.1, .inr rfl⟩)
    exact ⟨_, rfl, k1, mem_prsL.2 ⟨e, h1, h2.1, h2.2, by rw [getD_at k1, k2]⟩⟩
  · rintro ⟨q, rfl, hq, hm⟩
    obtain ⟨e, h1, h2, h3, h4⟩ := mem_prsL.1 hm
    refine ⟨e, List.mem_filter.2 ⟨h1, by rw [decide_eq_true h2, decide_eq_true h3]; rfl⟩, ?_⟩
    obtain ⟨k1, k2⟩ := idx_node (mem_nodesL.2 ⟨e, h1, h2, .inr rfl⟩)
    rw [h4] at k1 k2 ⊢
    rw [getD_at hq] at k1 k2 ⊢
    have := risI_inj (ris_onceI _) k1 hq (k2 k1)
    rw [this]
/-- What the program's rows come to. -/
theorem roads_ok (lab : Nm) (es : List Ed) (O I : List Tu) (hO : O = mixO (nodesL lab es) lab es (nodesL lab es).length) (hI : I = insO (nodesL lab es) lab es (nodesL lab es).length 0) :
    Roads (nodesL lab es) (O.map fun l => l.map Int.toNat) (I.map fun l => l.map Int.toNat) (prsL lab es) ∧ (∀ l ∈ O, ∀ v ∈ l, 0 ≤ v ∧ v < (nodesL lab es).length) ∧ (∀ l ∈ I, ∀ v ∈ l, 0 ≤ v ∧ v < (nodesL lab es).length) ∧ (∀ l ∈ O, l.length ≤ es.length) ∧ ∀ l ∈ I, l.length ≤ (nodesL lab es).length := by
  generalize hN : nodesL lab es = N at *
  have hout : ∀ p, p < N.length → ∀ v, v ∈ outO N lab es p ↔ ∃ q : Nat, v = (q : Int) ∧ q < N.length ∧ (N.getD p 0, N.getD q 0) ∈ prsL lab es := by
    intro p hp v
    subst hN
    exact mem_outO hp
  have hOl : O.length = N.length := by rw [hO, mixO_len]
  have hIl : I.length = N.length := by rw [hI, insO_len]
  have hOat : ∀ p (h : p < N.length), O[p]'(by omega) = outO N lab es p := by
    intro p h
    subst hO
    rw [mixO_at h, if_pos h]
  have hIat : ∀ q (h : q < N.length), I[q]'(by omega) = inO N lab es N.length 0 q := by
    intro q h
    subst hI
    rw [insO_at h]
  have hg : ∀ (L : List Tu) p, AtR (L.map fun l => l.map Int.toNat) p = fun q => ∃ h : p < L.length, q ∈ L[p].map Int.toNat := by
    intro L p
    funext q
    unfold AtR
    rw [List.getD_eq_getElem?_getD]
    by_cases h : p < L.length
    · rw [List.getElem?_eq_getElem (by simpa using h)]
      simp [h]
    · rw [List.getElem?_eq_none (by simpa using h)]
      simp [h]
  have hOm : ∀ p q, AtR (O.map fun l => l.map Int.toNat) p q ↔ p < N.length ∧ q < N.length ∧ (N.getD p 0, N.getD q 0) ∈ prsL lab es := by
    intro p q
    rw [hg]
    constructor
    · rintro ⟨h, hm⟩
      obtain ⟨v, hv, e⟩ := List.mem_map.1 hm
      rw [hOat p (by omega)] at hv
      obtain ⟨q', rfl, h1, h2⟩ := (hout p (by omega) v).1 hv
      have : q' = q := by simpa using e
      subst this
      exact ⟨by omega, h1, h2⟩
    · rintro ⟨h1, h2, h3⟩
      refine ⟨by omega, List.mem_map.2 ⟨(q : Int), ?_, by simp⟩⟩
      rw [hOat p h1]
      exact (hout p h1 _).2 ⟨q, rfl, h2, h3⟩
  refine ⟨⟨?_, by simpa using hOl, by simpa using hIl, hOm, fun p q => ?_, fun e he => ?_, fun p => ?_⟩, ?_, ?_, ?_, ?_⟩
  · rw [← hN]; exact ris_onceI _
  · rw [hOm, hg]
    constructor
    · rintro ⟨h, hm⟩
      obtain ⟨v, hv, e⟩ := List.mem_map.1 hm
      rw [hIat q (by omega)] at hv
      unfold inO at hv
      rw [List.take_zero, if_neg (by simp), List.append_nil] at hv
      obtain ⟨p', hp', rfl⟩ := List.mem_map.1 hv
      obtain ⟨h1, h2⟩ := List.mem_filter.1 hp'
      have : p' = p := by simpa using e
      subst this
      have hpl := List.mem_range.1 h1
      obtain ⟨q', e1, e2, e3⟩ := (hout p' hpl _).1 (of_decide_eq_true h2)
      have : q = q' := by omega
      subst this
      exact ⟨hpl, e2, e3⟩
    · rintro ⟨h1, h2, h3⟩
      refine ⟨by omega, List.mem_map.2 ⟨(p : Int), ?_, by simp⟩⟩
      rw [hIat q h2]
      unfold inO
      rw [List.take_zero, if_neg (by simp), List.append_nil]
      refine List.mem_map.2 ⟨p, List.mem_filter.2 ⟨List.mem_range.2 h1, ?_⟩, rfl⟩
      exact decide_eq_true ((hout p h1 _).2 ⟨q, rfl, h2, h3⟩)
  · obtain ⟨x, h1, h2, h3, h4⟩ := mem_prsL.1 (show (e.1, e.2) ∈ prsL lab es from he)
    rw [← hN]
    exact ⟨mem_nodesL.2 ⟨x, h1, h2, .inl h3.symm⟩, mem_nodesL.2 ⟨x, h1, h2, .inr h4.symm⟩⟩
  · rw [List.getD_eq_getElem?_getD]
    by_cases h : p < O.length
    · rw [List.getElem?_eq_getElem (by simpa using h)]
      simp only [List.getElem_map, Option.getD_some]
      rw [hOat p (by omega), List.pairwise_map]
      refine (ris_onceI (rawO N lab es p)).imp_of_mem fun {a b} ha hb hlt => ?_
      obtain ⟨qa, rfl, _⟩ := (hout p (by omega) a).1 ha
      obtain ⟨qb, rfl, _⟩ := (hout p (by omega) b).1 hb
      simp
      omega
    · rw [List.getElem?_eq_none (by simpa using h)]
      exact .nil
  · intro l hl v hv
    obtain ⟨p, hp, rfl⟩ := List.getElem_of_mem hl
    rw [hOat p (by omega)] at hv
    obtain ⟨q, rfl, h, _⟩ := (hout p (by omega) v).1 hv
    omega
  · intro l hl v hv
    obtain ⟨q, hq, rfl⟩ := List.getElem_of_mem hl
    rw [hIat q (by omega)] at hv
    unfold inO at hv
    rw [List.take_zero, if_neg (by simp), List.append_nil] at hv
    obtain ⟨p, hp, rfl⟩ := List.mem_map.1 hv
    have := List.mem_range.1 (List.mem_filter.1 hp).1
    omega
  · intro l hl
    obtain ⟨p, hp, rfl⟩ := List.getElem_of_mem hl
    rw [hOat p (by omega)]
    exact outO_len _ _ _ _
  · intro l hl
    obtain ⟨q, hq, rfl⟩ := List.getElem_of_mem hl
    rw [hIat q (by omega)]
    unfold inO
    rw [List.take_zero, if_neg (by simp), List.append_nil, List.length_map]
    have := List.length_filter_le (fun p : Nat => decide ((q : Int) ∈ outO N lab es p)) (List.range N.length)
    rw [List.length_range] at this
    exact this
end Go.Proofs.Ytgjjdmkoamjdpaa
/- The span as a list, plainly. -/
namespace Go.Proofs.Ytgjjdmkoamjdpaa

/-- Tuples of all nodes that lead to nodes, in the order of tuples. -/
noncomputable def spanL (E : List Pr) : List Tu := by
  classical exact setL ((E.flatMap fun e => E.map fun d => (e.1, d.2)).filterMap fun z => if Lead (InE E) z.1 z.2 then some [z.1, z.2] else none)
theorem mem_spanL {E : List Pr} {t : Tu} : t ∈ spanL E ↔ ∃ a b, t = [a, b] ∧ Lead (InE E) a b := by
  classical
  unfold spanL
  rw [mem_set, List.mem_filterMap]
  constructor
  · rintro ⟨⟨a, b⟩, _, h⟩
    dsimp only at h
    split at h
    · next hl =>
      injection h with h
      exact ⟨a, b, h.symm, hl⟩
    · cases h
  · rintro ⟨a, b, rfl, hl⟩
    obtain ⟨c, hc⟩ := hl.first
    obtain ⟨d, hd⟩ := hl.last
    refine ⟨(a, b), List.mem_flatMap.2 ⟨(a, c), hc, List.mem_map.2 ⟨(d, b), hd, rfl⟩⟩, ?_⟩
    dsimp only
    rw [if_pos hl]
theorem ris_spanL (E : List Pr) : Ris (spanL E) := by
  unfold spanL
  exact ris_set _
theorem nodup_spanL (E : List Pr) : (spanL E).Nodup := (ris_spanL E).imp fun {a b} h e => by subst e; rw [cmpI_refl] at h; omega
end Go.Proofs.Ytgjjdmkoamjdpaa
/- Spans, plainly: by a list that is closed; of a row of nodes; of few edges; of its own pairs. -/
namespace Go.Proofs.Ytgjjdmkoamjdpaa

theorem spanL_clos {E S : List Pr} (h : ClosOk E S) : spanL E = setL (S.map tupOf) ∧ (spanL E).length = S.length := by
  have e : spanL E = setL (S.map tupOf) := by
    refine ris_ext (ris_spanL E) (ris_set _) fun q => ?_
    rw [mem_spanL, mem_set, List.mem_map]
    constructor
    · rintro ⟨a, b, rfl, hl⟩
      exact ⟨(a, b), (h.mem a b).2 hl, rfl⟩
    · rintro ⟨⟨a, b⟩, hp, rfl⟩
      exact ⟨a, b, rfl, (h.mem a b).1 hp⟩
  refine ⟨e, ?_⟩
  have h1 := nodup_len (tups_nodup h.nodup) (m := spanL E) fun t ht => by rw [e, mem_set]; exact ht
  have h2 := nodup_len (nodup_spanL E) (m := S.map tupOf) fun t ht => by rw [e, mem_set] at ht; exact ht
  rw [List.length_map] at h1 h2
  omega
/-- A list of the pairs of a span: there is one. -/
theorem clos_ex (E : List Pr) : ∃ S, ClosOk E S := by
  refine ⟨(spanL E).map fun t => (t.getD 0 0, t.getD 1 0), ?_, fun a b => ?_⟩
  · rw [List.Nodup, List.pairwise_map]
    refine List.Pairwise.imp_of_mem (fun {s t} hs ht hne e => ?_) (nodup_spanL E)
    obtain ⟨a, b, rfl, _⟩ := mem_spanL.1 hs
    obtain ⟨c, d, rfl, _⟩ := mem_spanL.1 ht
    simp at e
    exact hne (by rw [e.1, e.2])
  · rw [List.mem_map]
    constructor
    · rintro ⟨t, ht, e⟩
      obtain ⟨c, d, rfl, hl⟩ := mem_spanL.1 ht
      simp at e
      rw [← e.1, ← e.2]
      exact hl
    · exact fun h => ⟨[a, b], mem_spanL.2 ⟨a, b, rfl, h⟩, by simp⟩
theorem spanL_few (E : List Pr) : (spanL E).length ≤ E.length * E.length := by
  have h1 := nodup_len (nodup_spanL E) (m := (E.flatMap fun e => E.map fun d => [e.1, d.2])) fun t ht => by
    obtain ⟨a, b, rfl, hl⟩ := mem_spanL.1 ht
    obtain ⟨c, hc⟩ := hl.first
    obtain ⟨d, hd⟩ := hl.last
    exact List.mem_flatMap.2 ⟨(a, c), hc, List.mem_map.2 ⟨(d, b), hd, rfl⟩⟩
  refine Nat.le_trans h1 (Nat.le_of_eq ?_)
  rw [List.length_flatMap]
  have : ∀ (F : List Pr), ((F.map fun e => (E.map fun d => [e.1, d.2]).length)).sum = F.length * E.length := by
    intro F
    induction F with
    | nil => simp
    | cons x F ih => rw [List.map_cons, List.sum_cons, ih, List.length_map, List.length_cons, Nat.succ_mul]; omega
  exact this E
theorem prsL_len (lab : Nm) (es : List Ed) : (prsL lab es).length ≤ es.length := by
  unfold prsL
  rw [List.length_map]
  exact List.length_filter_le _ _
/-- With more edges no pair goes. -/
theorem spanL_mono {E F : List Pr} (h : ∀ p ∈ E, p ∈ F) {t : Tu} (ht : t ∈ spanL E) : t ∈ spanL F := by
  obtain ⟨a, b, rfl, hl⟩ := mem_spanL.1 ht
  exact mem_spanL.2 ⟨a, b, rfl, hl.mono fun x y hxy => h _ hxy⟩
/-- A span's pairs, taken for edges. -/
theorem spanL_twice (E F : List Pr) (h : ∀ p, p ∈ F ↔ [p.1, p.2] ∈ spanL E) : spanL F = spanL E := by
  have hF : ∀ a b, InE F a b ↔ Lead (InE E) a b := fun a b => by
    unfold InE
    rw [h]
    constructor
    · intro hm
      obtain ⟨c, d, e, hl⟩ := mem_spanL.1 hm
      injection e with e1 e2
      injection e2 with e2
      dsimp only at e1 e2
      rw [e1, e2]
      exact hl
    · exact fun hl => mem_spanL.2 ⟨a, b, rfl, hl⟩
  refine ris_ext (ris_spanL F) (ris_spanL E) fun q => ?_
  rw [mem_spanL, mem_spanL]
  constructor
  · rintro ⟨a, b, rfl, hl⟩
    refine ⟨a, b, rfl, ?_⟩
    clear h
    induction hl with
    | one h => exact (hF _ _).1 h
    | cons h _ ih => exact ((hF _ _).1 h).trans ih
  · rintro ⟨a, b, rfl, hl⟩
    exact ⟨a, b, rfl, .one ((hF a b).2 hl)⟩
/-- A row of nodes. -/
structure IsRow13 (f : Nat → Int) (k : Nat) (E : List Pr) : Prop where
  rise : ∀ i j, i < j → f i < f j
  mem : ∀ p, p ∈ E ↔ ∃ i, i < k ∧ p = (f i, f (i + 1))
theorem IsRow13.inj {f : Nat → Int} {k : Nat} {E : List Pr} (h : IsRow13 f k E) {i j : Nat} (e : f i = f j) : i = j := by
  rcases Nat.lt_trichotomy i j with h1 | h1 | h1
  · have := h.rise i j h1; omega
  · exact h1
  · have := h.rise j i h1; omega
theorem IsRow13.way {f : Nat → Int} {k : Nat} {E : List Pr} (h : IsRow13 f k E) : ∀ {r : List Int} {i : Nat} {b : Int}, i ≤ k → WayTo (InE E) (f i) r b → r = (List.range r.length).map (fun t => f (i + 1 + t)) ∧ b = f (i + r.length) ∧ i + r.length ≤ k
  | [], i, b, hi, hw => ⟨rfl, hw.symm, hi⟩
  | x :: r, i, b, hi, hw => by
    obtain ⟨h1, h2⟩ := hw
    obtain ⟨i', hi', e⟩ := (h.mem _).1 h1
    injection e with e1 e2
    obtain rfl := h.inj e1
    subst e2
    obtain ⟨k1, k2, k3⟩ := IsRow13.way h (i := i + 1) (by omega) h2
    refine ⟨?_, ?_, ?_⟩
    · rw [List.length_cons, List.range_succ_eq_map, List.map_cons, List.map_map]
      congr 1
      refine k1.trans ?_
      refine List.map_congr_left fun t _ => ?_
      show f (i + 1 + 1 + t) = f (i + 1 + (t + 1))
      congr 1
      omega
    · rw [k2, List.length_cons]
      congr 1
      omega
    · rw [List.length_cons]; omega
theorem IsRow13.lead {f : Nat → Int} {k : Nat} {E : List Pr} (h : IsRow13 f k E) {a b : Int} : Lead (InE E) a b ↔ ∃ i j, i < j ∧ j ≤ k ∧ a = f i ∧ b = f j := by
  constructor
  · intro hl
    obtain ⟨c, hc⟩ := hl.first
    obtain ⟨i, hi, e⟩ := (h.mem _).1 hc
    injection e with e1 e2
    subst e1
    obtain ⟨r, hr, hw⟩ := lead_wayTo hl
    obtain ⟨_, h2, h3⟩ := h.way (by omega) hw
    have := List.length_pos_iff.2 hr
    exact ⟨i, i + r.length, by omega, h3, rfl, h2⟩
  · rintro ⟨i, j, hij, hj, rfl, rfl⟩
    obtain ⟨d, rfl⟩ : ∃ d, j = i + 1 + d := ⟨j - i - 1, by omega⟩
    clear hij
    induction d with
    | zero => exact .one ((h.mem _).2 ⟨i, by omega, rfl⟩)
    | succ d ih => exact (ih (by omega)).snoc ((h.mem _).2 ⟨i + 1 + d, by omega, rfl⟩)
/-- All pairs of a row. -/
def rowS (f : Nat → Int) : Nat → List Pr
  | 0 => []
  | j + 1 => rowS f j ++ (List.range (j + 1)).map fun i => (f i, f (j + 1))
theorem rowS_len (f : Nat → Int) : ∀ k, (rowS f k).length * 2 = k * (k + 1)
  | 0 => rfl
  | k + 1 => by
    have ih := rowS_len f k
    rw [rowS, List.length_append, List.length_map, List.length_range, Nat.add_mul, ih]
    rw [Nat.mul_comm k (k + 1), ← Nat.mul_add]
theorem mem_rowS {f : Nat → Int} {p : Pr} : ∀ {k : Nat}, p ∈ rowS f k ↔ ∃ i j, i < j ∧ j ≤ k ∧ p = (f i, f j)
  | 0 => by
    constructor
    · intro h; cases h
    · rintro ⟨i, j, h1, h2, _⟩; omega
  | k + 1 => by
    rw [rowS, List.mem_append, mem_rowS, List.mem_map]
    constructor
    · rintro (⟨i, j, h1, h2, e⟩ | ⟨i, hi, e⟩)
      · exact ⟨i, j, h1, by omega, e⟩
      · exact ⟨i, k + 1, List.mem_range.1 hi, Nat.le_refl _, e.symm⟩
    · rintro ⟨i, j, h1, h2, e⟩
      by_cases h3 : j ≤ k
      · exact .inl ⟨i, j, h1, h3, e⟩
      · obtain rfl : j = k + 1 := by omega
        exact .inr ⟨i, List.mem_range.2 h1, e.symm⟩
theorem rowS_nodup {f : Nat → Int} (hf : ∀ i j, i < j → f i < f j) : ∀ k, (rowS f k).Nodup
  | 0 => .nil
  | k + 1 => by
    have hinj : ∀ i j, f i = f j → i = j := fun i j e => by
      rcases Nat.lt_trichotomy i j with h1 | h1 | h1
      · have := hf i j h1; omega
      · exact h1
      · have := hf j i h1; omega
    rw [rowS, List.nodup_append]
    refine ⟨rowS_nodup hf k, ?_, fun a ha b hb e => ?_⟩
    · rw [List.Nodup, List.pairwise_map]
      refine List.nodup_range.imp fun {a b} hne e => ?_
      injection e with e1 _
      exact hne (hinj _ _ e1)
    · obtain ⟨i, j, h1, h2, e1⟩ := mem_rowS.1 ha
      obtain ⟨i', _, e2⟩ := List.mem_map.1 hb
      rw [e1, ← e2] at e
      injection e with _ e3
      have := hinj _ _ e3
      omega
theorem IsRow13.clos {f : Nat → Int} {k : Nat} {E : List Pr} (h : IsRow13 f k E) : ClosOk E (rowS f k) :=
  ⟨rowS_nodup h.rise k, fun a b => by
    rw [mem_rowS, h.lead]
    constructor
    · rintro ⟨i, j, h1, h2, e⟩
      injection e with e1 e2
      exact ⟨i, j, h1, h2, e1, e2⟩
    · rintro ⟨i, j, h1, h2, e1, e2⟩
      exact ⟨i, j, h1, h2, by rw [e1, e2]⟩⟩
end Go.Proofs.Ytgjjdmkoamjdpaa
