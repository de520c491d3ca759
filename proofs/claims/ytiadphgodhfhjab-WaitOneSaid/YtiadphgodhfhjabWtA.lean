/- Who waits for whom, plainly: ways, rings, a search by a way that goes on to whom it hasn't come to. -/
namespace Go.Proofs.Ytiadphgodhfhjab

/-- One comes from a to b, over one edge at least. -/
inductive Ld (R : Nat → Nat → Prop) : Nat → Nat → Prop
  | one {a b : Nat} : R a b → Ld R a b
  | snoc {a b c : Nat} : Ld R a b → R b c → Ld R a c
theorem Ld.trans {R : Nat → Nat → Prop} {a b c : Nat} (h : Ld R a b) (k : Ld R b c) : Ld R a c := by
  induction k with
  | one k => exact h.snoc k
  | snoc _ k ih => exact ih.snoc k
theorem Ld.cons {R : Nat → Nat → Prop} {a b c : Nat} (h : R a b) (k : Ld R b c) : Ld R a c := (Ld.one h).trans k
theorem Ld.mono {R S : Nat → Nat → Prop} (h : ∀ a b, R a b → S a b) {a b : Nat} (k : Ld R a b) : Ld S a b := by
  induction k with
  | one k => exact .one (h _ _ k)
  | snoc _ k ih => exact ih.snoc (h _ _ k)
theorem Ld.first {R : Nat → Nat → Prop} {a b : Nat} (h : Ld R a b) : ∃ c, R a c := by
  induction h with
  | one h => exact ⟨_, h⟩
  | snoc _ _ ih => exact ih
theorem Ld.last {R : Nat → Nat → Prop} {a b : Nat} (h : Ld R a b) : ∃ c, R c b := by
  cases h with
  | one h => exact ⟨_, h⟩
  | snoc _ h => exact ⟨_, h⟩
/-- A session is in a ring. -/
def InRing (R : Nat → Nat → Prop) (s : Nat) : Prop := Ld R s s
/-- Each leads to the next one. -/
def Walk (R : Nat → Nat → Prop) (l : List Nat) : Prop := ∀ i, i + 1 < l.length → R (l.getD i 0) (l.getD (i + 1) 0)
/-- A ring from s on. -/
structure RingOf (R : Nat → Nat → Prop) (s : Nat) (l : List Nat) : Prop where
  pos : 0 < l.length
  first : l.getD 0 0 = s
  nd : l.Nodup
  walk : Walk R l
  back : R (l.getD (l.length - 1) 0) s
theorem getD_app_lt {l : List Nat} {i x : Nat} (h : i < l.length) : (l ++ [x]).getD i 0 = l.getD i 0 := by
  rw [List.getD_eq_getElem?_getD, List.getElem?_append_left h, ← List.getD_eq_getElem?_getD]
theorem getD_app_eq {l : List Nat} {i x : Nat} (h : i = l.length) : (l ++ [x]).getD i 0 = x := by
  subst h
  rw [List.getD_eq_getElem?_getD, List.getElem?_append_right (Nat.le_refl _)]
  simp
theorem getD_mem0 {l : List Nat} {i : Nat} (h : i < l.length) : l.getD i 0 ∈ l := by
  rw [List.getD_eq_getElem?_getD, List.getElem?_eq_getElem h]
  exact List.getElem_mem h
theorem getD_drop1 {l : List Nat} {i : Nat} (h : i + 1 < l.length) : l.dropLast.getD i 0 = l.getD i 0 := by
  rw [List.getD_eq_getElem?_getD, List.getElem?_dropLast, if_pos (by omega), ← List.getD_eq_getElem?_getD]
theorem Walk.lead {R : Nat → Nat → Prop} {l : List Nat} (h : Walk R l) : ∀ {i j : Nat}, i < j → j < l.length → Ld R (l.getD i 0) (l.getD j 0)
  | i, 0, hij, _ => absurd hij (Nat.not_lt_zero _)
  | i, j + 1, hij, hj => by
    by_cases e : i = j
    · subst e; exact .one (h _ hj)
    · exact (Walk.lead h (by omega) (by omega)).snoc (h j hj)
theorem RingOf.inRing {R : Nat → Nat → Prop} {s : Nat} {l : List Nat} (h : RingOf R s l) : InRing R s := by
  have h0 := h.first
  have hb := h.back
  by_cases e : l.length = 1
  · rw [e, h0] at hb
    exact .one hb
  · have := h.walk.lead (i := 0) (j := l.length - 1) (by have := h.pos; omega) (by have := h.pos; omega)
    rw [h0] at this
    exact this.snoc hb
/-- A search from s: the way on which it stands, and to whom it has come. -/
structure Srch (R : Nat → Nat → Prop) (s : Nat) (way : List Nat) (C : Nat → Prop) : Prop where
  first : 0 < way.length → way.getD 0 0 = s
  nd : way.Nodup
  walk : Walk R way
  sub : ∀ x ∈ way, C x
  me : C s
  dead : ∀ c, C c → c ∉ way → ¬ R c s ∧ ∀ d, R c d → C d
theorem Srch.start (R : Nat → Nat → Prop) (s : Nat) : Srch R s [s] (fun x => x = s) :=
  ⟨fun _ => rfl, List.pairwise_singleton _ _, fun i hi => by simp at hi, fun _ h => List.mem_singleton.1 h, rfl, fun c hc hn => absurd (List.mem_singleton.2 hc) hn⟩
theorem Srch.found {R : Nat → Nat → Prop} {s : Nat} {way : List Nat} {C : Nat → Prop} (h : Srch R s way C) (hp : 0 < way.length) (hb : R (way.getD (way.length - 1) 0) s) : RingOf R s way :=
  ⟨hp, h.first hp, h.nd, h.walk, hb⟩
theorem Srch.go {R : Nat → Nat → Prop} {s : Nat} {way : List Nat} {C D : Nat → Prop} (h : Srch R s way C) (hp : 0 < way.length) {x : Nat} (hx : R (way.getD (way.length - 1) 0) x) (hn : ¬ C x) (hD : ∀ y, D y ↔ C y ∨ y = x) : Srch R s (way ++ [x]) D := by
  refine ⟨fun _ => ?_, ?_, fun i hi => ?_, fun y hy => ?_, (hD _).2 (.inl h.me), fun c hc hm => ?_⟩
  · rw [getD_app_lt hp]; exact h.first hp
  · rw [List.nodup_append]
    exact ⟨h.nd, List.pairwise_singleton _ _, fun a ha b hb => by rw [List.mem_singleton.1 hb]; exact fun e => hn (e ▸ h.sub a ha)⟩
  · rw [List.length_append, List.length_singleton] at hi
    rw [getD_app_lt (by omega)]
    by_cases e : i + 1 < way.length
    · rw [getD_app_lt e]; exact h.walk i e
    · rw [getD_app_eq (by omega), show i = way.length - 1 from by omega]; exact hx
  · rcases List.mem_append.1 hy with hy | hy
    · exact (hD _).2 (.inl (h.sub y hy))
    · exact (hD _).2 (.inr (List.mem_singleton.1 hy))
  · rcases (hD c).1 hc with hc | rfl
    · have := h.dead c hc (fun hw => hm (List.mem_append.2 (.inl hw)))
      exact ⟨this.1, fun d hd => (hD _).2 (.inl (this.2 d hd))⟩
    · exact absurd (List.mem_append.2 (.inr (List.mem_singleton.2 rfl))) hm
theorem mem_dropLast {l : List Nat} (hp : 0 < l.length) {x : Nat} (hx : x ∈ l) : x ∈ l.dropLast ∨ x = l.getD (l.length - 1) 0 := by
  obtain ⟨i, hi, e⟩ := List.getElem_of_mem hx
  by_cases h : i = l.length - 1
  · right
    rw [← h, List.getD_eq_getElem?_getD, List.getElem?_eq_getElem hi, Option.getD_some, e]
  · left
    rw [← e]
    have : l[i] = l.dropLast[i]'(by rw [List.length_dropLast]; omega) := (List.getElem_dropLast _).symm
    rw [this]
    exact List.getElem_mem _
theorem Srch.leave {R : Nat → Nat → Prop} {s : Nat} {way : List Nat} {C : Nat → Prop} (h : Srch R s way C) (hp : 0 < way.length) (h0 : ¬ R (way.getD (way.length - 1) 0) s) (hd : ∀ d, R (way.getD (way.length - 1) 0) d → C d) : Srch R s way.dropLast C := by
  have hs : ∀ x, x ∈ way.dropLast → x ∈ way := fun x hx => List.dropLast_subset _ hx
  refine ⟨fun hq => ?_, h.nd.sublist (List.dropLast_sublist _), fun i hi => ?_, fun x hx => h.sub x (hs x hx), h.me, fun c hc hn => ?_⟩
  · rw [List.length_dropLast] at hq
    rw [getD_drop1 (by omega)]
    exact h.first hp
  · rw [List.length_dropLast] at hi
    rw [getD_drop1 (by omega), getD_drop1 (by omega)]
    exact h.walk i (by omega)
  · by_cases hw : c ∈ way
    · rcases mem_dropLast hp hw with hw | rfl
      · exact absurd hw hn
      · exact ⟨h0, hd⟩
    · exact h.dead c hc hw
theorem Srch.none {R : Nat → Nat → Prop} {s : Nat} {C : Nat → Prop} (h : Srch R s [] C) : ¬ InRing R s := by
  intro hr
  have hC : ∀ {a b : Nat}, Ld R a b → C a → C b := by
    intro a b k
    induction k with
    | one k => exact fun ha => (h.dead _ ha (fun h => nomatch h)).2 _ k
    | snoc _ k ih => exact fun ha => (h.dead _ (ih ha) (fun h => nomatch h)).2 _ k
  cases hr with
  | one k => exact (h.dead _ h.me (fun h => nomatch h)).1 k
  | snoc l k => exact (h.dead _ (hC l h.me) (fun h => nomatch h)).1 k
/-- A list that has each once, within another one, is no longer. -/
theorem nodup_lenW {l m : List Nat} (h : l.Nodup) (hs : ∀ x ∈ l, x ∈ m) : l.length ≤ m.length := by
  induction l generalizing m with
  | nil => simp
  | cons a l ih =>
    have h1 := List.nodup_cons.1 h
    have ha := hs a (List.mem_cons_self ..)
    have := ih (m := m.erase a) h1.2 fun x hx => (List.mem_erase_of_ne (fun e => h1.1 (by rw [← e]; exact hx))).2 (hs x (List.mem_cons_of_mem _ hx))
    rw [List.length_erase_of_mem ha] at this
    have hp := List.length_pos_of_mem ha
    simp only [List.length_cons]
    omega
/-- The sessions that are in a ring, rising. -/
noncomputable def caughtL (R : Nat → Nat → Prop) : List Nat := ((List.range 16).map (· + 1)).filter fun s => @decide (InRing R s) (Classical.propDecidable _)
theorem mem_caughtL {R : Nat → Nat → Prop} {s : Nat} : s ∈ caughtL R ↔ (1 ≤ s ∧ s ≤ 16) ∧ InRing R s := by
  unfold caughtL
  rw [List.mem_filter, List.mem_map, @decide_eq_true_iff _ (Classical.propDecidable _)]
  constructor
  · rintro ⟨⟨a, ha, rfl⟩, h⟩
    exact ⟨by have := List.mem_range.1 ha; omega, h⟩
  · rintro ⟨h1, h2⟩
    exact ⟨⟨s - 1, List.mem_range.2 (by omega), by omega⟩, h2⟩
/-- The caught ones among the first k sessions. -/
noncomputable def caughtK (R : Nat → Nat → Prop) (k : Nat) : List Nat := ((List.range k).map (· + 1)).filter fun s => @decide (InRing R s) (Classical.propDecidable _)
theorem caughtK_zero (R : Nat → Nat → Prop) : caughtK R 0 = [] := rfl
theorem caughtK_yes {R : Nat → Nat → Prop} {k : Nat} (h : InRing R (k + 1)) : caughtK R (k + 1) = caughtK R k ++ [k + 1] := by
  unfold caughtK
  rw [List.range_succ, List.map_append, List.filter_append]
  congr 1
  simp [h]
theorem caughtK_no {R : Nat → Nat → Prop} {k : Nat} (h : ¬ InRing R (k + 1)) : caughtK R (k + 1) = caughtK R k := by
  unfold caughtK
  rw [List.range_succ, List.map_append, List.filter_append]
  simp [h]
theorem caughtK_len (R : Nat → Nat → Prop) (k : Nat) : (caughtK R k).length ≤ k := by
  unfold caughtK
  have := List.length_filter_le (fun s => @decide (InRing R s) (Classical.propDecidable _)) ((List.range k).map (· + 1))
  simpa using this
theorem caughtK_all (R : Nat → Nat → Prop) : caughtK R 16 = caughtL R := rfl
theorem caughtL_ext {R S : Nat → Nat → Prop} (h : ∀ s, 1 ≤ s → s ≤ 16 → (InRing R s ↔ InRing S s)) : caughtL R = caughtL S := by
  unfold caughtL
  refine List.filter_congr fun s hs => ?_
  obtain ⟨a, ha, rfl⟩ := List.mem_map.1 hs
  have := h (a + 1) (by omega) (by have := List.mem_range.1 ha; omega)
  by_cases e : InRing R (a + 1)
  · simp [e, this.1 e]
  · have e2 : ¬ InRing S (a + 1) := fun k => e (this.2 k)
    simp [e, e2]
end Go.Proofs.Ytiadphgodhfhjab
