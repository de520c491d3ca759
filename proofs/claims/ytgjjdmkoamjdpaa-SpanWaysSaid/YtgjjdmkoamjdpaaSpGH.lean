/- What the document's Way wants, plainly: ways layer by layer, of each length the least to each node. -/
import Derived.Test.YtgjjdmkoamjdpaaJnF
namespace Go.Proofs.Ytgjjdmkoamjdpaa

def endI (w : List Int) : Int := w.getLastD 0
theorem endI_snoc (w : List Int) (n : Int) : endI (w ++ [n]) = n := by unfold endI; simp
theorem cmpI_snoc : ∀ {u v : Tu} (n : Int), u.length = v.length → cmpI u v ≤ 0 → cmpI (u ++ [n]) (v ++ [n]) ≤ 0
  | [], [], n, _, _ => by rw [List.nil_append, cmpI_refl]; omega
  | [], _ :: _, _, h, _ => by simp at h
  | _ :: _, [], _, h, _ => by simp at h
  | x :: u, y :: v, n, h, k => by
    rw [List.cons_append, List.cons_append, cmpI_cons]
    rw [cmpI_cons] at k
    by_cases h1 : x < y
    · rw [if_pos h1]; omega
    · rw [if_neg h1] at k ⊢
      by_cases h2 : y < x
      · rw [if_pos h2] at k; omega
      · rw [if_neg h2] at k ⊢
        exact cmpI_snoc n (by simpa using h) k
theorem cmpI_same (a : Int) (r s : Tu) : cmpI (a :: r) (a :: s) = cmpI r s := by rw [cmpI_cons, if_neg (by omega), if_neg (by omega)]
theorem wayTo_app {R : Int → Int → Prop} : ∀ {a m b : Int} {s t : List Int}, WayTo R a s m → WayTo R m t b → WayTo R a (s ++ t) b
  | _, _, _, [], _, h, k => by have h' : _ = _ := h; subst h'; exact k
  | _, _, _, _ :: _, _, h, k => ⟨h.1, wayTo_app h.2 k⟩
theorem wayTo_split {R : Int → Int → Prop} : ∀ {a b : Int} {s t : List Int}, WayTo R a (s ++ t) b → ∃ m, WayTo R a s m ∧ WayTo R m t b
  | a, _, [], _, h => ⟨a, rfl, h⟩
  | _, _, _ :: _, _, h => by
    obtain ⟨m, h1, h2⟩ := wayTo_split h.2
    exact ⟨m, ⟨h.1, h1⟩, h2⟩
theorem min_way {R : Int → Int → Prop} {a b : Int} : ∀ (k : Nat) {s : List Int}, s.length ≤ k → s ≠ [] → WayTo R a s b → ∃ s, s ≠ [] ∧ WayTo R a s b ∧ ∀ s', s' ≠ [] → WayTo R a s' b → s.length ≤ s'.length
  | 0, s, h, hn, _ => absurd (List.length_eq_zero_iff.1 (Nat.le_zero.1 h)) hn
  | k + 1, s, h, hn, hw => by
    by_cases hx : ∃ s', s' ≠ [] ∧ WayTo R a s' b ∧ s'.length < s.length
    · obtain ⟨s', h1, h2, h3⟩ := hx
      exact min_way k (by omega) h1 h2
    · exact ⟨s, hn, hw, fun s' h1 h2 => Nat.le_of_not_lt fun h3 => hx ⟨s', h1, h2, h3⟩⟩
/-- Of the ways C that came by, the least to each node. -/
structure NextOk (C N : List (List Int)) : Prop where
  sub : ∀ x ∈ N, x ∈ C
  one : (N.map endI).Nodup
  least : ∀ c ∈ C, ∃ x ∈ N, endI x = endI c ∧ cmpI x c ≤ 0
theorem NextOk.start : NextOk [] [] := ⟨by simp, by simp, by simp⟩
theorem NextOk.new {C N : List (List Int)} (h : NextOk C N) {c : List Int} (hc : ∀ x ∈ N, endI x ≠ endI c) : NextOk (C ++ [c]) (N ++ [c]) := by
  refine ⟨fun x hx => ?_, ?_, fun d hd => ?_⟩
  · rcases List.mem_append.1 hx with h1 | h1
    · exact List.mem_append.2 (.inl (h.sub x h1))
    · exact List.mem_append.2 (.inr h1)
  · rw [List.map_append, List.nodup_append]
    refine ⟨h.one, by simp, fun p hp q hq => ?_⟩
    obtain ⟨x, hx, rfl⟩ := List.mem_map.1 hp
    have : q = endI c := by simpa using hq
    rw [this]
    exact hc x hx
  · rcases List.mem_append.1 hd with h1 | h1
    · obtain ⟨x, hx, h2⟩ := h.least d h1
      exact ⟨x, List.mem_append.2 (.inl hx), h2⟩
    · rw [List.mem_singleton.1 h1]
      exact ⟨c, List.mem_append.2 (.inr (List.mem_singleton.2 rfl)), rfl, by rw [cmpI_refl]; omega⟩
theorem NextOk.keep {C N : List (List Int)} (h : NextOk C N) {c x : List Int} (hx : x ∈ N) (he : endI x = endI c) (hk : ¬ cmpI c x < 0) : NextOk (C ++ [c]) N := by
  refine ⟨fun y hy => List.mem_append.2 (.inl (h.sub y hy)), h.one, fun d hd => ?_⟩
  rcases List.mem_append.1 hd with h1 | h1
  · exact h.least d h1
  · rw [List.mem_singleton.1 h1]
    exact ⟨x, hx, he, by rw [cmpI_swap c x]; omega⟩
theorem NextOk.turn {C N : List (List Int)} (h : NextOk C N) {c : List Int} {j : Nat} (hj : j < N.length) (he : endI N[j] = endI c) (hk : cmpI c N[j] < 0) : NextOk (C ++ [c]) (N.set j c) := by
  have hm : (N.set j c).map endI = N.map endI := by
    rw [List.map_set, ← he]
    have : (N.map endI)[j]'(by simpa using hj) = endI N[j] := by simp
    rw [← this, List.set_getElem_self]
  refine ⟨fun x hx => ?_, by rw [hm]; exact h.one, fun d hd => ?_⟩
  · rcases List.mem_or_eq_of_mem_set hx with h1 | h1
    · exact List.mem_append.2 (.inl (h.sub x h1))
    · exact List.mem_append.2 (.inr (List.mem_singleton.2 h1))
  · have hcm : c ∈ N.set j c := List.mem_set hj c
    rcases List.mem_append.1 hd with h1 | h1
    · obtain ⟨x, hx, h2, h3⟩ := h.least d h1
      obtain ⟨i, hi, rfl⟩ := List.getElem_of_mem hx
      by_cases hij : i = j
      · subst hij
        exact ⟨c, hcm, he.symm.trans h2, cmpI_le (by omega) h3⟩
      · refine ⟨N[i], ?_, h2, h3⟩
        have : (N.set j c)[i]'(by simpa using hi) = N[i] := List.getElem_set_ne (fun e => hij e.symm) _
        rw [← this]
        exact List.getElem_mem _
    · rw [List.mem_singleton.1 h1]
      exact ⟨c, hcm, rfl, by rw [cmpI_refl]; omega⟩
/-- The layer of the ways of d edges. -/
structure LayOk (E : List Pr) (a : Int) (d : Nat) (ways : List (List Int)) (seen : List Int) : Prop where
  fw : ∀ w ∈ ways, ∃ r, w = a :: r ∧ r.length = d ∧ WayTo (InE E) a r (endI w)
  all : ∀ s m, s.length = d → WayTo (InE E) a s m → (∀ s', s' ≠ [] → WayTo (InE E) a s' m → d ≤ s'.length) → ∃ w ∈ ways, endI w = m ∧ cmpI w (a :: s) ≤ 0
  seen : ∀ n, n ∈ seen ↔ ∃ r, r ≠ [] ∧ r.length ≤ d ∧ WayTo (InE E) a r n
theorem LayOk.start (E : List Pr) (a : Int) : LayOk E a 0 [[a]] [] := by
  refine ⟨fun w hw => ⟨[], List.mem_singleton.1 hw, rfl, by rw [List.mem_singleton.1 hw]; rfl⟩, fun s m hs hw _ => ?_, fun n => ?_⟩
  · have := List.length_eq_zero_iff.1 hs
    subst this
    have h : a = m := hw
    exact ⟨[a], by simp, h, by rw [cmpI_refl]; omega⟩
  · constructor
    · intro h; simp at h
    · rintro ⟨r, h1, h2, _⟩
      exact absurd (List.length_eq_zero_iff.1 (Nat.le_zero.1 h2)) h1
/-- The ways that come by in a layer. -/
def candsW (E : List Pr) (seen : List Int) (w : List Int) : List (List Int) := (E.filter fun e => decide (e.1 = endI w) && !decide (e.2 ∈ seen)).map fun e => w ++ [e.2]
def candsL (E : List Pr) (seen : List Int) (ways : List (List Int)) : List (List Int) := ways.flatMap (candsW E seen)
theorem mem_candsL {E : List Pr} {seen : List Int} {ways : List (List Int)} {c : List Int} : c ∈ candsL E seen ways ↔ ∃ w ∈ ways, ∃ n, (endI w, n) ∈ E ∧ n ∉ seen ∧ c = w ++ [n] := by
  unfold candsL candsW
  constructor
  · intro h
    obtain ⟨w, hw, h1⟩ := List.mem_flatMap.1 h
    obtain ⟨⟨e1, e2⟩, he, h2⟩ := List.mem_map.1 h1
    have h3 := List.mem_filter.1 he
    simp at h3
    obtain ⟨h4, h5, h6⟩ := h3
    exact ⟨w, hw, e2, h5 ▸ h4, h6, h2.symm⟩
  · rintro ⟨w, hw, n, h1, h2, rfl⟩
    refine List.mem_flatMap.2 ⟨w, hw, List.mem_map.2 ⟨(endI w, n), List.mem_filter.2 ⟨h1, ?_⟩, rfl⟩⟩
    simp [h2]
theorem LayOk.next {E : List Pr} {a : Int} {d : Nat} {ways N : List (List Int)} {seen : List Int} (h : LayOk E a d ways seen) (hn : NextOk (candsL E seen ways) N) :
    LayOk E a (d + 1) N (seen ++ N.map endI) ∧ ∀ x ∈ N, endI x ∉ seen := by
  have hfw : ∀ w ∈ N, ∃ r, w = a :: r ∧ r.length = d + 1 ∧ WayTo (InE E) a r (endI w) ∧ endI w ∉ seen := fun x hx => by
    obtain ⟨w, hw, n, h1, h2, rfl⟩ := mem_candsL.1 (hn.sub x hx)
    obtain ⟨r, hr, h3, h4⟩ := h.fw w hw
    refine ⟨r ++ [n], by rw [hr]; rfl, by simp [h3], ?_, by rw [endI_snoc]; exact h2⟩
    rw [endI_snoc]
    exact wayTo_app h4 ⟨h1, rfl⟩
  have hall : ∀ s m, s.length = d + 1 → WayTo (InE E) a s m → (∀ s', s' ≠ [] → WayTo (InE E) a s' m → d + 1 ≤ s'.length) → ∃ w ∈ N, endI w = m ∧ cmpI w (a :: s) ≤ 0 := fun s m hs hw hmin => by
    have hne : s ≠ [] := fun e => by rw [e] at hs; simp at hs
    obtain ⟨s0, n, rfl⟩ : ∃ s0 n, s = s0 ++ [n] := ⟨s.dropLast, s.getLast hne, (List.dropLast_concat_getLast hne).symm⟩
    obtain ⟨k, h1, h2⟩ := wayTo_split hw
    obtain ⟨h3, h4⟩ : InE E k n ∧ n = m := h2
    subst h4
    have hs0 : s0.length = d := by simpa using hs
    obtain ⟨w, hw1, hw2, hw3⟩ := h.all s0 k hs0 h1 fun s' g1 g2 => by
      have := hmin (s' ++ [n]) (by simp) (wayTo_app g2 ⟨h3, rfl⟩)
      simp at this
      exact this
    have hns : n ∉ seen := fun hm => by
      obtain ⟨r, g1, g2, g3⟩ := (h.seen n).1 hm
      have := hmin r g1 g3
      omega
    obtain ⟨r, hr, h5, _⟩ := h.fw w hw1
    obtain ⟨x, hx1, hx2, hx3⟩ := hn.least (w ++ [n]) (mem_candsL.2 ⟨w, hw1, n, by rw [hw2]; exact h3, hns, rfl⟩)
    refine ⟨x, hx1, by rw [hx2, endI_snoc], cmpI_le hx3 ?_⟩
    have := cmpI_snoc (u := w) (v := a :: s0) n (by rw [hr]; simp [h5, hs0]) hw3
    simpa using this
  refine ⟨⟨fun w hw => ?_, hall, fun n => ?_⟩, fun x hx => ?_⟩
  · obtain ⟨r, h1, h2, h3, _⟩ := hfw w hw
    exact ⟨r, h1, h2, h3⟩
  · rw [List.mem_append, h.seen]
    constructor
    · rintro (⟨r, h1, h2, h3⟩ | h1)
      · exact ⟨r, h1, by omega, h3⟩
      · obtain ⟨x, hx, rfl⟩ := List.mem_map.1 h1
        obtain ⟨r, h1, h2, h3, _⟩ := hfw x hx
        exact ⟨r, fun e => by rw [e] at h2; simp at h2, by omega, h3⟩
    · rintro ⟨r, h1, h2, h3⟩
      by_cases hs : n ∈ seen
      · exact .inl ((h.seen n).1 hs)
      · have hmin : ∀ s', s' ≠ [] → WayTo (InE E) a s' n → d + 1 ≤ s'.length := fun s' g1 g2 => Nat.lt_of_not_le fun g3 => hs ((h.seen n).2 ⟨s', g1, g3, g2⟩)
        have := hmin r h1 h3
        obtain ⟨w, hw, h4, _⟩ := hall r n (by omega) h3 hmin
        exact .inr (List.mem_map.2 ⟨w, hw, h4⟩)
  · obtain ⟨_, _, _, _, h4⟩ := hfw x hx
    exact h4
/-- A way of the next layer that ends where it should is the first one. -/
theorem LayOk.first {E : List Pr} {a b : Int} {d : Nat} {ways N : List (List Int)} {seen : List Int} (h : LayOk E a d ways seen) (hn : NextOk (candsL E seen ways) N) {x : List Int} (hx : x ∈ N) (hb : endI x = b) :
    ∃ r, x = a :: r ∧ FirstWay (InE E) a r b := by
  obtain ⟨hl, hs⟩ := h.next hn
  obtain ⟨r, h1, h2, h3⟩ := hl.fw x hx
  rw [hb] at h3
  refine ⟨r, h1, ⟨fun e => by rw [e] at h2; simp at h2, h3, fun r' g1 g2 => ?_⟩⟩
  have hns := hs x hx
  rw [hb] at hns
  have hmin : ∀ s', s' ≠ [] → WayTo (InE E) a s' b → d + 1 ≤ s'.length := fun s' g1 g2 => Nat.lt_of_not_le fun g3 => hns ((h.seen b).2 ⟨s', g1, g3, g2⟩)
  have hge := hmin r' g1 g2
  by_cases he : r'.length = d + 1
  · obtain ⟨w, hw, h4, h5⟩ := hl.all r' b he g2 hmin
    have hwx : w = x := by
      obtain ⟨i, hi, rfl⟩ := List.getElem_of_mem hw
      obtain ⟨j, hj, rfl⟩ := List.getElem_of_mem hx
      have := (List.getElem_inj (xs := N.map endI) (h₀ := by simpa using hi) (h₁ := by simpa using hj) hn.one).1 (by simp [h4, hb])
      subst this
      rfl
    rw [hwx, h1, cmpI_same] at h5
    exact .inr ⟨by omega, h5⟩
  · exact .inl (by omega)
/-- With no ways left there is none. -/
theorem LayOk.none {E : List Pr} {a b : Int} {d : Nat} {seen : List Int} (h : LayOk E a d [] seen) (hb : b ∉ seen) : ¬ Lead (InE E) a b := by
  intro hl
  obtain ⟨l, h1, h2⟩ := lead_wayTo hl
  obtain ⟨s, h3, h4, h5⟩ := min_way l.length (Nat.le_refl _) h1 h2
  have hgt : d < s.length := Nat.lt_of_not_le fun g => hb ((h.seen b).2 ⟨s, h3, g, h4⟩)
  have hsp : s = s.take d ++ s.drop d := (List.take_append_drop d s).symm
  rw [hsp] at h4
  obtain ⟨m, g1, g2⟩ := wayTo_split h4
  obtain ⟨w, hw, _⟩ := h.all (s.take d) m (by rw [List.length_take]; omega) g1 fun s' k1 k2 => by
    have := h5 (s' ++ s.drop d) (by simp [k1]) (wayTo_app k2 g2)
    rw [List.length_append, List.length_drop] at this
    omega
  simp at hw
end Go.Proofs.Ytgjjdmkoamjdpaa
