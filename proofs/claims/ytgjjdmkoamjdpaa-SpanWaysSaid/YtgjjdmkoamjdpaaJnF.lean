/- Joined: SpA SpB SpC SpD. -/
import Derived.Test.YtgjjdmkoamjdpaaJnA
/- What leads where, plainly: ways over a relation, rising lists of numbers, distances, the first way. Nothing of the program is stated here. -/
namespace Go.Proofs.Ytgjjdmkoamjdpaa

/-- A way, of one step at least. -/
inductive Lead {α : Type} (R : α → α → Prop) : α → α → Prop
  | one {a b : α} : R a b → Lead R a b
  | cons {a b c : α} : R a b → Lead R b c → Lead R a c
theorem Lead.trans {α : Type} {R : α → α → Prop} {a b c : α} (h : Lead R a b) (k : Lead R b c) : Lead R a c := by
  induction h with
  | one h => exact .cons h k
  | cons h _ ih => exact .cons h (ih k)
theorem Lead.snoc {α : Type} {R : α → α → Prop} {a b c : α} (h : Lead R a b) (k : R b c) : Lead R a c := h.trans (.one k)
theorem Lead.closed {α : Type} {R : α → α → Prop} {S : α → Prop} {a b : α} (h : Lead R a b) (h1 : ∀ x, R a x → S x) (h2 : ∀ x y, S x → R x y → S y) : S b := by
  have key : ∀ {a b : α}, Lead R a b → (∀ x, R a x → S x) → S b := by
    intro a b h
    induction h with
    | one h => exact fun h1 => h1 _ h
    | cons h _ ih => exact fun h1 => ih fun x hx => h2 _ _ (h1 _ h) hx
  exact key h h1
theorem Lead.map {α β : Type} {R : α → α → Prop} {Q : β → β → Prop} (f : α → β) (hf : ∀ a b, R a b → Q (f a) (f b)) {a b : α} (h : Lead R a b) : Lead Q (f a) (f b) := by
  induction h with
  | one h => exact .one (hf _ _ h)
  | cons h _ ih => exact .cons (hf _ _ h) ih
theorem Lead.mono {α : Type} {R Q : α → α → Prop} (hf : ∀ a b, R a b → Q a b) {a b : α} (h : Lead R a b) : Lead Q a b := h.map id hf
theorem Lead.first {α : Type} {R : α → α → Prop} {a b : α} (h : Lead R a b) : ∃ c, R a c := by
  cases h with
  | one h => exact ⟨_, h⟩
  | cons h _ => exact ⟨_, h⟩
theorem Lead.last {α : Type} {R : α → α → Prop} {a b : α} (h : Lead R a b) : ∃ c, R c b := by
  induction h with
  | one h => exact ⟨_, h⟩
  | cons _ _ ih => exact ih

/-- A list of numbers that rises. -/
def RisI (l : List Int) : Prop := l.Pairwise (· < ·)
theorem risI_ext : ∀ {A B : List Int}, RisI A → RisI B → (∀ q, q ∈ A ↔ q ∈ B) → A = B
  | [], [], _, _, _ => rfl
  | [], b :: B, _, _, h => by have := (h b).2 (List.mem_cons_self ..); cases this
  | a :: A, [], _, _, h => by have := (h a).1 (List.mem_cons_self ..); cases this
  | a :: A, b :: B, ha, hb, h => by
    have hpa := List.pairwise_cons.1 ha
    have hpb := List.pairwise_cons.1 hb
    have e1 : a = b := by
      have h1 := (h a).1 (List.mem_cons_self ..)
      have h2 := (h b).2 (List.mem_cons_self ..)
      rcases List.mem_cons.1 h1 with e | h1
      · exact e
      · rcases List.mem_cons.1 h2 with e | h2
        · exact e.symm
        · have := hpa.1 b h2
          have := hpb.1 a h1
          omega
    subst e1
    congr 1
    refine risI_ext hpa.2 hpb.2 fun q => ⟨fun hq => ?_, fun hq => ?_⟩
    · rcases List.mem_cons.1 ((h q).1 (List.mem_cons_of_mem _ hq)) with rfl | h1
      · exact absurd (hpa.1 q hq) (by omega)
      · exact h1
    · rcases List.mem_cons.1 ((h q).2 (List.mem_cons_of_mem _ hq)) with rfl | h1
      · exact absurd (hpb.1 q hq) (by omega)
      · exact h1
def insI (x : Int) : List Int → List Int
  | [] => [x]
  | y :: l => if x < y then x :: y :: l else if x = y then y :: l else y :: insI x l
theorem mem_insI {x q : Int} : ∀ {l : List Int}, q ∈ insI x l ↔ q = x ∨ q ∈ l
  | [] => by simp [insI]
  | y :: l => by
    unfold insI
    split
    · simp
    · split
      · rename_i h; subst h; simp
      · rw [List.mem_cons, mem_insI, List.mem_cons]
        constructor
        · rintro (h | h | h) <;> simp [h]
        · rintro (h | h | h) <;> simp [h]
theorem ris_insI {x : Int} : ∀ {l : List Int}, RisI l → RisI (insI x l)
  | [], _ => List.pairwise_singleton _ _
  | y :: l, h => by
    have hp := List.pairwise_cons.1 h
    unfold insI
    split
    · rename_i hlt
      refine List.pairwise_cons.2 ⟨fun q hq => ?_, h⟩
      rcases List.mem_cons.1 hq with rfl | hq
      · exact hlt
      · have := hp.1 q hq
        omega
    · split
      · exact h
      · refine List.pairwise_cons.2 ⟨fun q hq => ?_, ris_insI hp.2⟩
        rcases mem_insI.1 hq with rfl | hq
        · omega
        · exact hp.1 q hq
/-- Numbers as a rising list, each once. -/
def onceI (l : List Int) : List Int := l.foldr insI []
theorem mem_onceI {q : Int} : ∀ {l : List Int}, q ∈ onceI l ↔ q ∈ l
  | [] => Iff.rfl
  | x :: l => by
    show q ∈ insI x (onceI l) ↔ _
    rw [mem_insI, mem_onceI, List.mem_cons]
theorem ris_onceI : ∀ l : List Int, RisI (onceI l)
  | [] => .nil
  | _ :: l => ris_insI (ris_onceI l)
theorem onceI_eq {l m : List Int} (h : RisI m) (he : ∀ q, q ∈ m ↔ q ∈ l) : m = onceI l := risI_ext h (ris_onceI l) fun q => (he q).trans mem_onceI.symm
theorem risI_nodup {l : List Int} (h : RisI l) : l.Nodup := h.imp fun h e => by omega
theorem risI_lt {l : List Int} (h : RisI l) {i j : Nat} (hi : i < l.length) (hj : j < l.length) : l[i] < l[j] ↔ i < j := by
  have hp := List.pairwise_iff_getElem.1 h
  constructor
  · intro hlt
    rcases Nat.lt_trichotomy i j with h1 | h1 | h1
    · exact h1
    · subst h1; omega
    · have := hp j i hj hi h1; omega
  · exact fun h1 => hp i j hi hj h1
theorem risI_inj {l : List Int} (h : RisI l) {i j : Nat} (hi : i < l.length) (hj : j < l.length) (e : l[i] = l[j]) : i = j := by
  rcases Nat.lt_trichotomy i j with h1 | h1 | h1
  · have := (risI_lt h hi hj).2 h1; omega
  · exact h1
  · have := (risI_lt h hj hi).2 h1; omega
theorem nodup_len {α : Type} [DecidableEq α] : ∀ {l m : List α}, l.Nodup → (∀ x ∈ l, x ∈ m) → l.length ≤ m.length
  | [], _, _, _ => Nat.zero_le _
  | x :: l, m, hn, hs => by
    have hp := List.nodup_cons.1 hn
    have hx := hs x (List.mem_cons_self ..)
    have := nodup_len (l := l) (m := m.erase x) hp.2 fun y hy => (List.mem_erase_of_ne (fun e : y = x => hp.1 (e ▸ hy))).2 (hs y (List.mem_cons_of_mem _ hy))
    rw [List.length_erase_of_mem hx] at this
    have h0 : 0 < m.length := List.length_pos_of_mem hx
    simp only [List.length_cons]
    omega

/-- Edges that rows may be put on: the pairs of a label. -/
abbrev Pr := Int × Int
/-- A way's nodes behind the first one. -/
def WayTo {α : Type} (R : α → α → Prop) : α → List α → α → Prop
  | a, [], b => a = b
  | a, x :: l, b => R a x ∧ WayTo R x l b
theorem wayTo_lead {α : Type} {R : α → α → Prop} : ∀ {a b : α} {l : List α}, WayTo R a l b → l ≠ [] → Lead R a b
  | _, _, [], _, h => absurd rfl h
  | a, b, [x], h, _ => by obtain ⟨h1, h2⟩ := h; subst h2; exact .one h1
  | a, b, x :: y :: l, h, _ => .cons h.1 (wayTo_lead h.2 (by simp))
theorem lead_wayTo {α : Type} {R : α → α → Prop} {a b : α} (h : Lead R a b) : ∃ l, l ≠ [] ∧ WayTo R a l b := by
  induction h with
  | one h => exact ⟨[_], by simp, h, rfl⟩
  | cons h _ ih => obtain ⟨l, _, hl⟩ := ih; exact ⟨_ :: l, by simp, h, hl⟩
/-- The first way: none shorter, none of its length ahead of it. -/
structure FirstWay (R : Int → Int → Prop) (a : Int) (r : List Int) (b : Int) : Prop where
  ne : r ≠ []
  way : WayTo R a r b
  least : ∀ r', r' ≠ [] → WayTo R a r' b → r.length < r'.length ∨ r.length = r'.length ∧ cmpI r r' ≤ 0
theorem FirstWay.one {R : Int → Int → Prop} {a b : Int} {r s : List Int} (h : FirstWay R a r b) (k : FirstWay R a s b) : r = s := by
  rcases h.least s k.ne k.way with h1 | ⟨h1, h2⟩
  · rcases k.least r h.ne h.way with k1 | ⟨k1, _⟩ <;> omega
  · rcases k.least r h.ne h.way with k1 | ⟨_, k2⟩
    · omega
    · refine cmpI_eq ?_
      rw [cmpI_swap] at k2
      omega
end Go.Proofs.Ytgjjdmkoamjdpaa
/- Distances, and the first way by them, plainly. -/
namespace Go.Proofs.Ytgjjdmkoamjdpaa

/-- A relation on places: to whom each leads. -/
abbrev Rows := List (List Nat)
def AtR (O : Rows) (p q : Nat) : Prop := q ∈ O.getD p []
/-- How far each place is from one. -/
structure FarOk (O : Rows) (to : Nat) (F : List Int) : Prop where
  zero : ∀ p, F.getD p (-1) = 0 ↔ p = to
  next : ∀ p, 0 < F.getD p (-1) → ∃ q, AtR O p q ∧ F.getD q (-1) = F.getD p (-1) - 1
  step : ∀ p q, AtR O p q → 0 ≤ F.getD q (-1) → 0 ≤ F.getD p (-1) ∧ F.getD p (-1) ≤ F.getD q (-1) + 1
  low : ∀ p, -1 ≤ F.getD p (-1)
theorem FarOk.way {O : Rows} {to : Nat} {F : List Int} (h : FarOk O to F) : ∀ {p : Nat} {l : List Nat}, WayTo (AtR O) p l to → 0 ≤ F.getD p (-1) ∧ F.getD p (-1) ≤ l.length
  | p, [], hw => by rw [(h.zero p).2 hw]; simp
  | p, q :: l, hw => by
    obtain ⟨h1, h2⟩ := h.way hw.2
    obtain ⟨k1, k2⟩ := h.step p q hw.1 h1
    simp only [List.length_cons]
    omega
/-- The place that nearest picks: none is less far, none ahead of it is as near. -/
structure IsNear (F : List Int) (l : List Nat) (q : Nat) : Prop where
  mem : q ∈ l
  pos : 0 ≤ F.getD q (-1)
  least : ∀ r ∈ l, 0 ≤ F.getD r (-1) → F.getD q (-1) < F.getD r (-1) ∨ F.getD q (-1) = F.getD r (-1) ∧ q ≤ r
/-- The way that goes on to the nearest. -/
inductive Greed (O : Rows) (F : List Int) (to : Nat) : Nat → List Nat → Prop
  | done : Greed O F to to []
  | step {p q : Nat} {l : List Nat} : p ≠ to → IsNear F (O.getD p []) q → Greed O F to q l → Greed O F to p (q :: l)
/-- Behind its first step. -/
inductive Greed1 (O : Rows) (F : List Int) (to : Nat) : Nat → List Nat → Prop
  | mk {p q : Nat} {l : List Nat} : IsNear F (O.getD p []) q → Greed O F to q l → Greed1 O F to p (q :: l)
/-- Rows of numbers by places: the order of the numbers is that of the places. -/
def nodesAt (N : List Int) (l : List Nat) : List Int := l.map fun p => N.getD p 0
theorem nodesAt_len (N : List Int) (l : List Nat) : (nodesAt N l).length = l.length := List.length_map _
theorem near_lt {F : List Int} {l : List Nat} {q : Nat} (h : IsNear F l q) : q < F.length := by
  have := h.pos
  rw [List.getD_eq_getElem?_getD] at this
  cases hq : F[q]? with
  | none => rw [hq] at this; simp at this
  | some v => exact (List.getElem?_eq_some_iff.1 hq).1
theorem Greed.way {O : Rows} {F : List Int} {to p : Nat} {l : List Nat} (h : Greed O F to p l) : WayTo (AtR O) p l to := by
  induction h with
  | done => rfl
  | step _ hn _ ih => exact ⟨hn.mem, ih⟩
theorem Greed.len {O : Rows} {F : List Int} {to p : Nat} {l : List Nat} (hF : FarOk O to F) (h : Greed O F to p l) : (l.length : Int) = F.getD p (-1) := by
  induction h with
  | done => rw [(hF.zero to).2 rfl]; rfl
  | step hne hn hg ih =>
    rename_i p q l
    have h1 := hF.step p q hn.mem hn.pos
    have hp : 0 < F.getD p (-1) := by
      have := mt (hF.zero p).1 hne
      omega
    obtain ⟨r, hr1, hr2⟩ := hF.next p hp
    have := hn.least r hr1 (by omega)
    simp only [List.length_cons]
    omega
theorem Greed.least {O : Rows} {F : List Int} {N : List Int} {to p : Nat} {l : List Nat} (hF : FarOk O to F) (hN : RisI N) (hFN : F.length = N.length) (h : Greed O F to p l) : ∀ {m : List Nat}, WayTo (AtR O) p m to → m.length = l.length → cmpI (nodesAt N l) (nodesAt N m) ≤ 0 := by
  induction h with
  | done =>
    intro m _ hm
    rw [List.length_eq_zero_iff.1 hm]
    show cmpI [] [] ≤ 0
    rw [cmpI_refl]
    omega
  | step hne hn hg ih =>
    rename_i p q l
    intro m hw hm
    cases m with
    | nil => simp at hm
    | cons r m =>
      simp only [List.length_cons] at hm
      have hml : m.length = l.length := by omega
      obtain ⟨k1, k2⟩ := hF.way hw.2
      have hl := hg.len hF
      have hle : q ≤ r := by
        have := hn.least r hw.1 k1
        omega
      have hrl : r < F.length := by
        rw [List.getD_eq_getElem?_getD] at k1
        cases hq : F[r]? with
        | none => rw [hq] at k1; simp at k1
        | some v => exact (List.getElem?_eq_some_iff.1 hq).1
      have hql := near_lt hn
      show cmpI (N.getD q 0 :: nodesAt N l) (N.getD r 0 :: nodesAt N m) ≤ 0
      have gq : N.getD q 0 = N[q]'(by omega) := by rw [List.getD_eq_getElem?_getD, List.getElem?_eq_getElem (by omega)]; rfl
      have gr : N.getD r 0 = N[r]'(by omega) := by rw [List.getD_eq_getElem?_getD, List.getElem?_eq_getElem (by omega)]; rfl
      rw [gq, gr, cmpI_cons]
      by_cases e : q = r
      · subst e
        rw [if_neg (by omega), if_neg (by omega)]
        exact ih hw.2 hml
      · rw [if_pos ((risI_lt hN (by omega) (by omega)).2 (by omega))]
        omega
theorem Greed1.ne {O : Rows} {F : List Int} {to p : Nat} {l : List Nat} (h : Greed1 O F to p l) : l ≠ [] := by cases h; simp
theorem Greed1.way {O : Rows} {F : List Int} {to p : Nat} {l : List Nat} (h : Greed1 O F to p l) : WayTo (AtR O) p l to := by
  cases h with
  | mk hn hg => exact ⟨hn.mem, hg.way⟩
theorem Greed1.least {O : Rows} {F : List Int} {N : List Int} {to p : Nat} {l : List Nat} (hF : FarOk O to F) (hN : RisI N) (hFN : F.length = N.length) (h : Greed1 O F to p l) {m : List Nat} (hw : WayTo (AtR O) p m to) (hm : m ≠ []) : l.length < m.length ∨ l.length = m.length ∧ cmpI (nodesAt N l) (nodesAt N m) ≤ 0 := by
  cases h with
  | mk hn hg =>
    rename_i q l
    cases m with
    | nil => exact absurd rfl hm
    | cons r m =>
      obtain ⟨k1, k2⟩ := hF.way hw.2
      have hl := hg.len hF
      have hc := hn.least r hw.1 k1
      simp only [List.length_cons]
      by_cases hlt : l.length < m.length
      · exact .inl (by omega)
      · right
        have hml : m.length = l.length := by omega
        have hle : q ≤ r := by omega
        have hrl : r < F.length := by
          rw [List.getD_eq_getElem?_getD] at k1
          cases hq : F[r]? with
          | none => rw [hq] at k1; simp at k1
          | some v => exact (List.getElem?_eq_some_iff.1 hq).1
        have hql := near_lt hn
        refine ⟨by omega, ?_⟩
        show cmpI (N.getD q 0 :: nodesAt N l) (N.getD r 0 :: nodesAt N m) ≤ 0
        have gq : N.getD q 0 = N[q]'(by omega) := by rw [List.getD_eq_getElem?_getD, List.getElem?_eq_getElem (by omega)]; rfl
        have gr : N.getD r 0 = N[r]'(by omega) := by rw [List.getD_eq_getElem?_getD, List.getElem?_eq_getElem (by omega)]; rfl
        rw [gq, gr, cmpI_cons]
        by_cases e : q = r
        · subst e
          rw [if_neg (by omega), if_neg (by omega)]
          exact hg.least hF hN hFN hw.2 hml
        · rw [if_pos ((risI_lt hN (by omega) (by omega)).2 (by omega))]
          omega
/-- Where a way is, there is a nearest place at each step. -/
theorem far_lead {O : Rows} {to : Nat} {F : List Int} (h : FarOk O to F) {p : Nat} (hp : 0 ≤ F.getD p (-1)) : ∃ l, WayTo (AtR O) p l to := by
  have key : ∀ (n : Nat) (p : Nat), F.getD p (-1) = (n : Int) → ∃ l, WayTo (AtR O) p l to := by
    intro n
    induction n with
    | zero => exact fun p hp => ⟨[], (h.zero p).1 (by simpa using hp)⟩
    | succ n ih =>
      intro p hp
      obtain ⟨q, h1, h2⟩ := h.next p (by omega)
      obtain ⟨l, hl⟩ := ih q (by omega)
      exact ⟨q :: l, h1, hl⟩
  exact key (F.getD p (-1)).toNat p (by omega)

/-- Places stand for nodes: what leads where, by places, is what the edges say. -/
structure Roads (N : List Int) (O I : Rows) (E : List Pr) : Prop where
  ris : RisI N
  ol : O.length = N.length
  il : I.length = N.length
  out : ∀ p q, AtR O p q ↔ p < N.length ∧ q < N.length ∧ (N.getD p 0, N.getD q 0) ∈ E
  inn : ∀ p q, AtR I q p ↔ AtR O p q
  known : ∀ e ∈ E, e.1 ∈ N ∧ e.2 ∈ N
  rise : ∀ p, (O.getD p []).Pairwise (· < ·)
def InE (E : List Pr) (a b : Int) : Prop := (a, b) ∈ E
theorem getD_at {N : List Int} {p : Nat} (h : p < N.length) : N.getD p 0 = N[p] := by rw [List.getD_eq_getElem?_getD, List.getElem?_eq_getElem h]; rfl
theorem Roads.place {N : List Int} {O I : Rows} {E : List Pr} (_ : Roads N O I E) {a : Int} (ha : a ∈ N) : ∃ p, p < N.length ∧ N.getD p 0 = a := by
  obtain ⟨p, hp, e⟩ := List.getElem_of_mem ha
  exact ⟨p, hp, (getD_at hp).trans e⟩
theorem Roads.inj {N : List Int} {O I : Rows} {E : List Pr} (h : Roads N O I E) {p q : Nat} (hp : p < N.length) (hq : q < N.length) (e : N.getD p 0 = N.getD q 0) : p = q := by
  rw [getD_at hp, getD_at hq] at e
  exact risI_inj h.ris hp hq e
theorem Roads.way {N : List Int} {O I : Rows} {E : List Pr} (h : Roads N O I E) : ∀ {p q : Nat} {l : List Nat}, WayTo (AtR O) p l q → WayTo (InE E) (N.getD p 0) (nodesAt N l) (N.getD q 0)
  | p, q, [], hw => by cases hw; rfl
  | p, q, r :: l, hw => ⟨((h.out p r).1 hw.1).2.2, h.way hw.2⟩
theorem Roads.back {N : List Int} {O I : Rows} {E : List Pr} (h : Roads N O I E) : ∀ {p q : Nat} {m : List Int}, p < N.length → q < N.length → WayTo (InE E) (N.getD p 0) m (N.getD q 0) → ∃ l, m = nodesAt N l ∧ WayTo (AtR O) p l q
  | p, q, [], hp, hq, hw => ⟨[], rfl, h.inj hp hq hw⟩
  | p, q, x :: m, hp, hq, hw => by
    obtain ⟨r, hr, e⟩ := h.place (h.known _ hw.1).2
    subst e
    obtain ⟨l, rfl, hl⟩ := h.back hr hq hw.2
    exact ⟨r :: l, rfl, (h.out p r).2 ⟨hp, hr, hw.1⟩, hl⟩
theorem Roads.lead {N : List Int} {O I : Rows} {E : List Pr} (h : Roads N O I E) {p q : Nat} (hp : p < N.length) (hq : q < N.length) : Lead (AtR O) p q ↔ Lead (InE E) (N.getD p 0) (N.getD q 0) := by
  constructor
  · exact fun hl => hl.map (fun p => N.getD p 0) fun a b hab => ((h.out a b).1 hab).2.2
  · intro hl
    obtain ⟨l, hn, hw⟩ := lead_wayTo hl
    obtain ⟨m, rfl, hm⟩ := h.back hp hq hw
    exact wayTo_lead hm (fun e => hn (by rw [e]; rfl))
theorem Roads.ends {N : List Int} {O I : Rows} {E : List Pr} (h : Roads N O I E) {a b : Int} (hl : Lead (InE E) a b) : a ∈ N ∧ b ∈ N := by
  obtain ⟨c, hc⟩ := hl.first
  obtain ⟨d, hd⟩ := hl.last
  exact ⟨(h.known _ hc).1, (h.known _ hd).2⟩
theorem Roads.first {N : List Int} {O I : Rows} {E : List Pr} (h : Roads N O I E) {F : List Int} {p to : Nat} {l : List Nat} (hF : FarOk O to F) (hFN : F.length = N.length) (hp : p < N.length) (ht : to < N.length) (hg : Greed1 O F to p l) : FirstWay (InE E) (N.getD p 0) (nodesAt N l) (N.getD to 0) := by
  refine ⟨?_, h.way hg.way, fun r' hr hw => ?_⟩
  · intro e
    exact hg.ne (List.map_eq_nil_iff.1 e)
  · obtain ⟨m, rfl, hm⟩ := h.back hp ht hw
    rw [nodesAt_len, nodesAt_len]
    exact hg.least hF h.ris hFN hm fun e => hr (by rw [e]; rfl)
end Go.Proofs.Ytgjjdmkoamjdpaa
/- A span as a list of pairs; who is in one part with whom, by a walk's order and its way back, plainly. -/
namespace Go.Proofs.Ytgjjdmkoamjdpaa

/-- A list of pairs that are a span. -/
structure ClosOk (E S : List Pr) : Prop where
  nodup : S.Nodup
  mem : ∀ a b, (a, b) ∈ S ↔ Lead (InE E) a b
/-- Pairs that are sound, have all edges, and with each pair what an edge ahead of it makes. -/
theorem clos_of {E S : List Pr} (hn : S.Nodup) (hs : ∀ a b, (a, b) ∈ S → Lead (InE E) a b) (he : ∀ e ∈ E, e ∈ S) (hc : ∀ e ∈ E, ∀ p ∈ S, e.2 = p.1 → (e.1, p.2) ∈ S) : ClosOk E S := by
  refine ⟨hn, fun a b => ⟨hs a b, fun h => ?_⟩⟩
  induction h with
  | one h => exact he _ h
  | cons h _ ih => exact hc _ h _ ih rfl
theorem ClosOk.len {E S T : List Pr} (h : ClosOk E S) (k : ClosOk E T) : S.length = T.length := by
  have h1 := nodup_len h.nodup (fun p hp => (k.mem p.1 p.2).2 ((h.mem p.1 p.2).1 hp))
  have h2 := nodup_len k.nodup (fun p hp => (h.mem p.1 p.2).2 ((k.mem p.1 p.2).1 hp))
  omega
theorem ClosOk.iff {E S T : List Pr} (h : ClosOk E S) (k : ClosOk E T) (p : Pr) : p ∈ S ↔ p ∈ T := (h.mem p.1 p.2).trans (k.mem p.1 p.2).symm
/-- The tuples of pairs. -/
def tupOf (p : Pr) : Tu := [p.1, p.2]
theorem tupOf_inj {p q : Pr} (h : tupOf p = tupOf q) : p = q := by
  unfold tupOf at h
  injection h with h1 h2
  injection h2 with h2 _
  exact Prod.ext h1 h2
theorem mem_tups {S : List Pr} {a b : Int} : [a, b] ∈ S.map tupOf ↔ (a, b) ∈ S := by
  rw [List.mem_map]
  constructor
  · rintro ⟨p, hp, e⟩
    rw [← tupOf_inj (q := (a, b)) e]
    exact hp
  · exact fun h => ⟨_, h, rfl⟩
theorem ClosOk.set {E S T : List Pr} (h : ClosOk E S) (k : ClosOk E T) : setL (S.map tupOf) = setL (T.map tupOf) := by
  refine ris_ext (ris_set _) (ris_set _) fun q => ?_
  rw [mem_set, mem_set, List.mem_map, List.mem_map]
  exact ⟨fun ⟨p, hp, e⟩ => ⟨p, (h.iff k p).1 hp, e⟩, fun ⟨p, hp, e⟩ => ⟨p, (h.iff k p).2 hp, e⟩⟩
theorem tups_nodup {S : List Pr} (h : S.Nodup) : (S.map tupOf).Nodup := by
  rw [List.Nodup, List.pairwise_map]
  exact h.imp fun h e => h (tupOf_inj e)

/-- What is known of a walk's order: at each place of it what has been left leads to nothing new but what leads back. -/
structure LeftOk (O : Rows) (n : Nat) (L : List Nat) : Prop where
  nodup : L.Nodup
  mem : ∀ q, q ∈ L ↔ q < n
  back : ∀ (i : Nat) (hi : i < L.length), ∀ x ∈ L.take (i + 1), ∀ q, AtR O x q → q ∉ L.take (i + 1) → Lead (AtR O) q L[i]
theorem way_exit {R : Nat → Nat → Prop} {B : Nat → Prop} [DecidablePred B] {t : Nat} (ht : ¬ B t) : ∀ {x : Nat} {l : List Nat}, B x → WayTo R x l t → ∃ pre p suf, l = pre ++ p :: suf ∧ ¬ B p ∧ (∃ c, B c ∧ R c p) ∧ WayTo R p suf t
  | x, [], hx, hw => by cases hw; exact absurd hx ht
  | x, y :: l, hx, hw => by
    by_cases hy : B y
    · obtain ⟨pre, p, suf, rfl, h1, h2, h3⟩ := way_exit ht hy hw.2
      exact ⟨y :: pre, p, suf, rfl, h1, h2, h3⟩
    · exact ⟨[], y, l, rfl, hy, ⟨x, hx, hw.1⟩, hw.2⟩
theorem LeftOk.ring {O : Rows} {n : Nat} {L : List Nat} (h : LeftOk O n L) {i : Nat} (hi : i < L.length) : ∀ (k : Nat) {x : Nat} {l : List Nat}, l.length ≤ k → x ∈ L.take (i + 1) → (∀ y ∈ l, y ∈ L.take (i + 1)) → WayTo (AtR O) x l L[i] → x = L[i] ∨ Lead (AtR O) L[i] x := by
  intro k
  induction k with
  | zero =>
    intro x l hl _ _ hw
    rw [List.length_eq_zero_iff.1 (Nat.le_zero.1 hl)] at hw
    exact .inl hw
  | succ k ih =>
    intro x l hl hx hall hw
    obtain ⟨j, hj, e⟩ := List.getElem_of_mem hx
    rw [List.length_take] at hj
    rw [List.getElem_take] at e
    have hjL : j < L.length := by omega
    by_cases hji : j = i
    · subst hji
      exact .inl e.symm
    · right
      have hnot : ¬ L[i] ∈ L.take (j + 1) := by
        intro hm
        obtain ⟨j2, hj2, e2⟩ := List.getElem_of_mem hm
        rw [List.length_take] at hj2
        rw [List.getElem_take] at e2
        have := (List.getElem_inj h.nodup).1 e2
        omega
      have hxB : x ∈ L.take (j + 1) := by
        rw [← e]
        exact List.mem_take_iff_getElem.2 ⟨j, by omega, rfl⟩
      obtain ⟨pre, p, suf, rfl, h1, ⟨c, hc, hcp⟩, h3⟩ := way_exit (B := fun q => q ∈ L.take (j + 1)) hnot hxB hw
      have hpx := h.back j hjL c hc p hcp h1
      rw [e] at hpx
      have hp := ih (x := p) (l := suf) (by simp at hl; omega) (hall p (by simp)) (fun y hy => hall y (by simp [hy])) h3
      rcases hp with rfl | hp
      · exact hpx
      · exact hp.trans hpx
/-- What the parts say while the walk goes back. -/
structure PartAt (O : Rows) (n : Nat) (L : List Nat) (i : Nat) (P : List Int) : Prop where
  len : P.length = n
  late : ∀ j (hj : j < L.length), i ≤ j → 0 ≤ P.getD L[j] (-1)
  low : ∀ x, -1 ≤ P.getD x (-1)
  root : ∀ x, 0 ≤ P.getD x (-1) → ∃ r : Nat, P.getD x (-1) = (r : Int) ∧ r < n ∧ P.getD r (-1) = (r : Int) ∧ (x = r ∨ Lead (AtR O) x r ∧ Lead (AtR O) r x)
  whole : ∀ x y, 0 ≤ P.getD x (-1) → Lead (AtR O) x y → Lead (AtR O) y x → P.getD y (-1) = P.getD x (-1)
theorem PartAt.start {O : Rows} {n : Nat} {L : List Nat} (hL : L.length = n) : PartAt O n L L.length (List.replicate n (-1)) := by
  have hg : ∀ x, (List.replicate n (-1 : Int)).getD x (-1) = -1 := fun x => by
    rw [List.getD_eq_getElem?_getD]
    by_cases hx : x < n
    · rw [List.getElem?_eq_getElem (by simpa using hx)]; simp
    · rw [List.getElem?_eq_none (by simpa using hx)]; rfl
  refine ⟨by simp, fun j hj h => by omega, fun x => by rw [hg]; omega, fun x h => ?_, fun x y h => ?_⟩
  · rw [hg] at h; omega
  · rw [hg] at h; omega
/-- Behind the walk's whole way back: parts are told by who leads to whom. -/
theorem PartAt.same {O : Rows} {n : Nat} {L : List Nat} {P : List Int} (h : PartAt O n L 0 P) (hL : LeftOk O n L) {x y : Nat} (hx : x < n) (hy : y < n) : P.getD x (-1) = P.getD y (-1) ↔ x = y ∨ Lead (AtR O) x y ∧ Lead (AtR O) y x := by
  have hpos : ∀ z, z < n → 0 ≤ P.getD z (-1) := fun z hz => by
    obtain ⟨j, hj, e⟩ := List.getElem_of_mem ((hL.mem z).2 hz)
    rw [← e]
    exact h.late j hj (Nat.zero_le _)
  constructor
  · intro e
    obtain ⟨r, h1, _, _, h2⟩ := h.root x (hpos x hx)
    obtain ⟨s, k1, _, _, k2⟩ := h.root y (hpos y hy)
    have hrs : r = s := by omega
    subst hrs
    rcases h2 with rfl | h2
    · rcases k2 with rfl | k2
      · exact .inl rfl
      · exact .inr ⟨k2.2, k2.1⟩
    · rcases k2 with rfl | k2
      · exact .inr h2
      · exact .inr ⟨h2.1.trans k2.2, k2.1.trans h2.2⟩
  · rintro (rfl | ⟨h1, h2⟩)
    · rfl
    · exact (h.whole x y (hpos x hx) h1 h2).symm
/-- A place whose part is known already: the walk goes on. -/
theorem PartAt.skip {O : Rows} {n : Nat} {L : List Nat} {i : Nat} {P : List Int} (h : PartAt O n L (i + 1) P) (hi : i < L.length) (hp : 0 ≤ P.getD L[i] (-1)) : PartAt O n L i P :=
  ⟨h.len, fun j hj hij => by
    by_cases e : i = j
    · subst e; exact hp
    · exact h.late j hj (by omega), h.low, h.root, h.whole⟩
/-- A new part: what leads to the place, and is in no part yet. -/
theorem PartAt.step {O : Rows} {n : Nat} {L : List Nat} {i : Nat} {P P' : List Int} (h : PartAt O n L (i + 1) P) (hL : LeftOk O n L) (hi : i < L.length) (_hp : P.getD L[i] (-1) < 0)
    (hlen : P'.length = n) {B : List Nat} (hB0 : L[i] ∈ B) (hBn : ∀ x ∈ B, x < n ∧ P.getD x (-1) < 0)
    (hBw : ∀ x ∈ B, ∃ l, WayTo (AtR O) x l L[i] ∧ ∀ y ∈ l, y ∈ B) (hBc : ∀ x ∈ B, ∀ q, AtR O q x → P.getD q (-1) < 0 → q < n → q ∈ B)
    (hP1 : ∀ x, x ∈ B → P'.getD x (-1) = (L[i] : Int)) (hP2 : ∀ x, x ∉ B → P'.getD x (-1) = P.getD x (-1)) (hO : ∀ p q, AtR O p q → p < n ∧ q < n) : PartAt O n L i P' := by
  have hearly : ∀ x, x < n → P.getD x (-1) < 0 → x ∈ L.take (i + 1) := by
    intro x hx hneg
    obtain ⟨j, hj, e⟩ := List.getElem_of_mem ((hL.mem x).2 hx)
    refine List.mem_take_iff_getElem.2 ⟨j, ?_, e⟩
    by_cases hji : i + 1 ≤ j
    · have := h.late j hj hji
      rw [e] at this
      omega
    · omega
  have hscc : ∀ x ∈ B, x = L[i] ∨ Lead (AtR O) x L[i] ∧ Lead (AtR O) L[i] x := by
    intro x hx
    obtain ⟨l, hw, hl⟩ := hBw x hx
    have h1 := hL.ring hi l.length (Nat.le_refl _) (hearly x (hBn x hx).1 (hBn x hx).2) (fun y hy => hearly y (hBn y (hl y hy)).1 (hBn y (hl y hy)).2) hw
    rcases h1 with h1 | h1
    · exact .inl h1
    · by_cases e : l = []
      · subst e; exact .inl hw
      · exact .inr ⟨wayTo_lead hw e, h1⟩
  have hback : ∀ {y t : Nat}, Lead (AtR O) y t → t ∈ B → Lead (AtR O) t y → y ∈ B := by
    intro y t hyt
    induction hyt with
    | one hr =>
      intro ht hty
      refine hBc _ ht _ hr ?_ (hO _ _ hr).1
      rcases Int.lt_or_le (P.getD _ (-1)) 0 with hneg | hpos
      · exact hneg
      · have := h.whole _ _ hpos (.one hr) hty
        have := (hBn _ ht).2
        omega
    | cons hr hl ih =>
      intro ht hty
      have hz := ih ht (hty.snoc hr)
      refine hBc _ hz _ hr ?_ (hO _ _ hr).1
      rcases Int.lt_or_le (P.getD _ (-1)) 0 with hneg | hpos
      · exact hneg
      · have := h.whole _ _ hpos (.one hr) (hl.trans hty)
        have := (hBn _ hz).2
        omega
  refine ⟨hlen, ?_, ?_, ?_, ?_⟩
  · intro j hj hij
    by_cases hm : L[j] ∈ B
    · rw [hP1 _ hm]; omega
    · rw [hP2 _ hm]
      by_cases e : i = j
      · subst e; exact absurd hB0 hm
      · exact h.late j hj (by omega)
  · intro x
    by_cases hm : x ∈ B
    · rw [hP1 _ hm]; omega
    · rw [hP2 _ hm]; exact h.low x
  · intro x hx
    by_cases hm : x ∈ B
    · exact ⟨L[i], hP1 _ hm, (hBn _ hB0).1, hP1 _ hB0, hscc x hm⟩
    · rw [hP2 _ hm] at hx ⊢
      obtain ⟨r, h1, h2, h3, h4⟩ := h.root x hx
      refine ⟨r, h1, h2, ?_, h4⟩
      have hrB : r ∉ B := fun hr => by have := (hBn r hr).2; omega
      rw [hP2 _ hrB]
      exact h3
  · intro x y hx hxy hyx
    by_cases hm : x ∈ B
    · have hym : y ∈ B := hback hyx hm hxy
      rw [hP1 _ hm, hP1 _ hym]
    · rw [hP2 _ hm] at hx ⊢
      have he := h.whole x y hx hxy hyx
      have hyB : y ∉ B := fun hy => by have := (hBn y hy).2; omega
      rw [hP2 _ hyB]
      exact he
end Go.Proofs.Ytgjjdmkoamjdpaa
/- Rings, plainly: what the document's way and the program's come to. -/
namespace Go.Proofs.Ytgjjdmkoamjdpaa

/-- Nodes that lead to themselves, by a span's pairs. -/
def loopsR (S : List Pr) : List Int := onceI ((S.filter fun p => decide (p.1 = p.2)).map fun p => p.1)
def mutR (S : List Pr) (a b : Int) : Bool := decide ((a, b) ∈ S) && decide ((b, a) ∈ S)
def ringOf (S : List Pr) (a : Int) : List Int := (loopsR S).filter (mutR S a)
/-- Is a node the least of its ring? -/
def headR (S : List Pr) (a : Int) : Bool := decide (∀ b ∈ ringOf S a, a ≤ b)
def ringsR (S : List Pr) : List (List Int) := ((loopsR S).filter (headR S)).map (ringOf S)
theorem mem_loopsR {S : List Pr} {a : Int} : a ∈ loopsR S ↔ (a, a) ∈ S := by
  unfold loopsR
  rw [mem_onceI, List.mem_map]
  constructor
  · rintro ⟨p, hp, rfl⟩
    obtain ⟨h1, h2⟩ := List.mem_filter.1 hp
    have h2 := of_decide_eq_true h2
    have e : p = (p.1, p.1) := Prod.ext rfl h2.symm
    rw [e] at h1
    exact h1
  · exact fun h => ⟨(a, a), List.mem_filter.2 ⟨h, decide_eq_true rfl⟩, rfl⟩
theorem mutR_iff {S : List Pr} {a b : Int} : mutR S a b = true ↔ (a, b) ∈ S ∧ (b, a) ∈ S := by
  unfold mutR
  rw [Bool.and_eq_true, decide_eq_true_eq, decide_eq_true_eq]
theorem loopsR_ext {S T : List Pr} (h : ∀ p, p ∈ S ↔ p ∈ T) : loopsR S = loopsR T := risI_ext (ris_onceI _) (ris_onceI _) fun q => by
  show q ∈ loopsR S ↔ q ∈ loopsR T
  rw [mem_loopsR, mem_loopsR, h]
theorem mutR_ext {S T : List Pr} (h : ∀ p, p ∈ S ↔ p ∈ T) : mutR S = mutR T := by
  funext a b
  rw [Bool.eq_iff_iff, mutR_iff, mutR_iff, h, h]
theorem ringsR_ext {S T : List Pr} (h : ∀ p, p ∈ S ↔ p ∈ T) : ringsR S = ringsR T := by
  have h1 : ringOf S = ringOf T := by
    funext a
    unfold ringOf
    rw [loopsR_ext h, mutR_ext h]
  have h2 : headR S = headR T := by
    funext a
    unfold headR
    rw [h1]
  unfold ringsR
  rw [loopsR_ext h, h1, h2]
theorem ringsR_clos {E S T : List Pr} (h : ClosOk E S) (k : ClosOk E T) : ringsR S = ringsR T := ringsR_ext (h.iff k)
theorem mem_ringOf {S : List Pr} {a b : Int} : b ∈ ringOf S a ↔ (b, b) ∈ S ∧ (a, b) ∈ S ∧ (b, a) ∈ S := by
  unfold ringOf
  rw [List.mem_filter, mem_loopsR, mutR_iff]
theorem ris_ringOf (S : List Pr) (a : Int) : RisI (ringOf S a) := List.Pairwise.filter _ (ris_onceI _)
/-- A span goes through. -/
theorem ClosOk.go {E S : List Pr} (h : ClosOk E S) {a b c : Int} (h1 : (a, b) ∈ S) (h2 : (b, c) ∈ S) : (a, c) ∈ S := (h.mem a c).2 (((h.mem a b).1 h1).trans ((h.mem b c).1 h2))
/-- The program's way: of a place its part's nodes, if it is the least of them, and in a ring. -/
def partOf (N : List Int) (P : List Int) (r : Int) : List Int := ((List.range N.length).filter fun q => decide (P.getD q (-1) = r)).map fun q => N.getD q 0
def takesP (N : List Int) (O : Rows) (P : List Int) (p : Nat) : Bool :=
  decide ((partOf N P (P.getD p (-1))).head? = some (N.getD p 0)) && (decide (1 < (partOf N P (P.getD p (-1))).length) || decide (p ∈ O.getD p []))
def ringsP (N : List Int) (O : Rows) (P : List Int) (k : Nat) : List (List Int) := ((List.range k).filter (takesP N O P)).map fun p => partOf N P (P.getD p (-1))
theorem ringsP_succ (N : List Int) (O : Rows) (P : List Int) (k : Nat) : ringsP N O P (k + 1) = ringsP N O P k ++ if takesP N O P k = true then [partOf N P (P.getD k (-1))] else [] := by
  unfold ringsP
  rw [List.range_succ, List.filter_append, List.map_append, List.filter_cons]
  split <;> rfl
theorem mem_partOf {N P : List Int} {r x : Int} : x ∈ partOf N P r ↔ ∃ q, q < N.length ∧ P.getD q (-1) = r ∧ N.getD q 0 = x := by
  unfold partOf
  rw [List.mem_map]
  constructor
  · rintro ⟨q, hq, e⟩
    obtain ⟨h1, h2⟩ := List.mem_filter.1 hq
    exact ⟨q, List.mem_range.1 h1, of_decide_eq_true h2, e⟩
  · rintro ⟨q, h1, h2, e⟩
    exact ⟨q, List.mem_filter.2 ⟨List.mem_range.2 h1, decide_eq_true h2⟩, e⟩
theorem ris_partOf {N P : List Int} (hN : RisI N) (r : Int) : RisI (partOf N P r) := by
  unfold partOf RisI
  rw [List.pairwise_map]
  have h0 : ((List.range N.length).filter fun q => decide (P.getD q (-1) = r)).Pairwise (· < ·) := List.Pairwise.filter _ List.pairwise_lt_range
  refine h0.imp_of_mem fun {a b} ha hb hlt => ?_
  have h1 := List.mem_range.1 (List.mem_filter.1 ha).1
  have h2 := List.mem_range.1 (List.mem_filter.1 hb).1
  rw [getD_at h1, getD_at h2]
  exact (risI_lt hN h1 h2).2 hlt
theorem head_least {l : List Int} (h : RisI l) {a : Int} (ha : a ∈ l) : l.head? = some a ↔ ∀ b ∈ l, a ≤ b := by
  cases l with
  | nil => cases ha
  | cons x l =>
    have hp := List.pairwise_cons.1 h
    simp only [List.head?_cons, Option.some.injEq]
    constructor
    · rintro rfl b hb
      rcases List.mem_cons.1 hb with rfl | hb
      · omega
      · have := hp.1 b hb; omega
    · intro hb
      have h1 := hb x (List.mem_cons_self ..)
      rcases List.mem_cons.1 ha with rfl | ha
      · rfl
      · have := hp.1 a ha; omega
theorem rings_eq {N : List Int} {O I : Rows} {E S : List Pr} {P : List Int} (h : Roads N O I E) (hS : ClosOk E S)
    (hP : ∀ p q, p < N.length → q < N.length → (P.getD p (-1) = P.getD q (-1) ↔ p = q ∨ Lead (AtR O) p q ∧ Lead (AtR O) q p)) : ringsP N O P N.length = ringsR S := by
  have hlead : ∀ p q, p < N.length → q < N.length → (Lead (AtR O) p q ↔ (N.getD p 0, N.getD q 0) ∈ S) := fun p q hp hq => (h.lead hp hq).trans (hS.mem _ _).symm
  -- in a ring
  have hcyc : ∀ p, p < N.length → ((decide (1 < (partOf N P (P.getD p (-1))).length) || decide (p ∈ O.getD p [])) = true ↔ (N.getD p 0, N.getD p 0) ∈ S) := by
    intro p hp
    have hown : N.getD p 0 ∈ partOf N P (P.getD p (-1)) := mem_partOf.2 ⟨p, hp, rfl, rfl⟩
    rw [Bool.or_eq_true, decide_eq_true_eq, decide_eq_true_eq, ← hlead p p hp hp]
    constructor
    · rintro (h1 | h1)
      · have hris := ris_partOf (P := P) h.ris (P.getD p (-1))
        have : ∃ x ∈ partOf N P (P.getD p (-1)), x ≠ N.getD p 0 := by
          generalize partOf N P (P.getD p (-1)) = l at h1 hris
          match l, h1, hris with
          | x :: y :: l, _, hris =>
            have := (List.pairwise_cons.1 hris).1 y (by simp)
            by_cases e : x = N.getD p 0
            · exact ⟨y, by simp, by omega⟩
            · exact ⟨x, by simp, e⟩
        obtain ⟨x, hx, hne⟩ := this
        obtain ⟨q, hq, e1, e2⟩ := mem_partOf.1 hx
        rcases (hP p q hp hq).1 e1.symm with e | ⟨k1, k2⟩
        · subst e; exact absurd e2.symm hne
        · exact k1.trans k2
      · exact .one h1
    · intro hl
      cases hl with
      | one h1 => exact .inr h1
      | cons h1 h2 =>
        rename_i q
        by_cases e : p = q
        · subst e; exact .inr h1
        · left
          have hq := ((h.out p q).1 h1).2.1
          have e1 := (hP p q hp hq).2 (.inr ⟨.one h1, h2⟩)
          have hmem : N.getD q 0 ∈ partOf N P (P.getD p (-1)) := mem_partOf.2 ⟨q, hq, e1.symm, rfl⟩
          have hne : N.getD p 0 ≠ N.getD q 0 := fun e2 => e (h.inj hp hq e2)
          generalize partOf N P (P.getD p (-1)) = l at hown hmem
          match l, hown, hmem with
          | [], hown, _ => cases hown
          | [x], hown, hmem =>
            rw [List.mem_singleton] at hown hmem
            exact absurd (hown.trans hmem.symm) hne
          | _ :: _ :: _, _, _ => simp
  have hpart : ∀ p, p < N.length → (N.getD p 0, N.getD p 0) ∈ S → partOf N P (P.getD p (-1)) = ringOf S (N.getD p 0) := by
    intro p hp hc
    refine risI_ext (ris_partOf h.ris _) (ris_ringOf _ _) fun x => ?_
    rw [mem_partOf, mem_ringOf]
    constructor
    · rintro ⟨q, hq, e1, rfl⟩
      rcases (hP p q hp hq).1 e1.symm with e | ⟨k1, k2⟩
      · subst e; exact ⟨hc, hc, hc⟩
      · have m1 := (hlead p q hp hq).1 k1
        have m2 := (hlead q p hq hp).1 k2
        exact ⟨hS.go m2 m1, m1, m2⟩
    · rintro ⟨_, h2, h3⟩
      obtain ⟨q, hq, e⟩ := h.place (h.ends ((hS.mem _ _).1 h2)).2
      subst e
      exact ⟨q, hq, ((hP p q hp hq).2 (.inr ⟨(hlead p q hp hq).2 h2, (hlead q p hq hp).2 h3⟩)).symm, rfl⟩
  have htake : ∀ p, p < N.length → (takesP N O P p = true ↔ (N.getD p 0, N.getD p 0) ∈ S ∧ headR S (N.getD p 0) = true) := by
    intro p hp
    unfold takesP
    rw [Bool.and_eq_true, hcyc p hp, decide_eq_true_eq]
    constructor
    · rintro ⟨h1, h2⟩
      refine ⟨h2, ?_⟩
      rw [hpart p hp h2, head_least (ris_ringOf _ _) (mem_ringOf.2 ⟨h2, h2, h2⟩)] at h1
      unfold headR
      exact decide_eq_true h1
    · rintro ⟨h1, h2⟩
      refine ⟨?_, h1⟩
      rw [hpart p hp h1, head_least (ris_ringOf _ _) (mem_ringOf.2 ⟨h1, h1, h1⟩)]
      unfold headR at h2
      exact of_decide_eq_true h2
  -- the heads, by places
  have hheads : (((List.range N.length).filter (takesP N O P)).map fun p => N.getD p 0) = (loopsR S).filter (headR S) := by
    refine risI_ext ?_ (List.Pairwise.filter _ (ris_onceI _)) fun x => ?_
    · unfold RisI
      rw [List.pairwise_map]
      have h0 : ((List.range N.length).filter (takesP N O P)).Pairwise (· < ·) := List.Pairwise.filter _ List.pairwise_lt_range
      refine h0.imp_of_mem fun {a b} ha hb hlt => ?_
      have h1 := List.mem_range.1 (List.mem_filter.1 ha).1
      have h2 := List.mem_range.1 (List.mem_filter.1 hb).1
      rw [getD_at h1, getD_at h2]
      exact (risI_lt h.ris h1 h2).2 hlt
    · rw [List.mem_map, List.mem_filter, mem_loopsR]
      constructor
      · rintro ⟨p, hp, rfl⟩
        obtain ⟨h1, h2⟩ := List.mem_filter.1 hp
        exact (htake p (List.mem_range.1 h1)).1 h2
      · rintro ⟨h1, h2⟩
        obtain ⟨p, hp, e⟩ := h.place (h.ends ((hS.mem _ _).1 h1)).1
        subst e
        exact ⟨p, List.mem_filter.2 ⟨List.mem_range.2 hp, (htake p hp).2 ⟨h1, h2⟩⟩, rfl⟩
  unfold ringsP ringsR
  rw [← hheads, List.map_map]
  refine List.map_congr_left fun p hp => ?_
  obtain ⟨h1, h2⟩ := List.mem_filter.1 hp
  have hp' := List.mem_range.1 h1
  exact hpart p hp' ((htake p hp').1 h2).1
end Go.Proofs.Ytgjjdmkoamjdpaa
