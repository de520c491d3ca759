/- Masks that say who waits for whom; victims till nobody is caught: plainly. -/
import Derived.Test.YtiadphgodhfhjabWtA
namespace Go.Proofs.Ytiadphgodhfhjab

/-- Whom a row of masks leads to. -/
def MkR (M : List Nat) (a b : Nat) : Prop := (M.getD a 0).testBit b = true
/-- Whom edges lead to. -/
def EgR (L : List (Nat × Nat)) (a b : Nat) : Prop := (a, b) ∈ L
theorem testBit_or2 (m b y : Nat) : (m ||| 2 ^ b).testBit y = (m.testBit y || decide (b = y)) := by
  rw [Nat.testBit_or, Nat.testBit_two_pow]
theorem and2 (m b : Nat) : m &&& 2 ^ b = if m.testBit b then 2 ^ b else 0 := by
  apply Nat.eq_of_testBit_eq
  intro i
  rw [Nat.testBit_and, Nat.testBit_two_pow]
  by_cases h : b = i
  · subst h
    cases e : m.testBit b <;> simp
  · cases e : m.testBit b <;> simp [h]
theorem mk_set {M : List Nat} {a : Nat} (ha : a < M.length) (v x y : Nat) : MkR (M.set a v) x y ↔ if x = a then v.testBit y = true else MkR M x y := by
  unfold MkR
  rw [List.getD_eq_getElem?_getD, List.getElem?_set, List.getD_eq_getElem?_getD]
  by_cases h : a = x
  · subst h
    rw [if_pos rfl, if_pos ha, if_pos rfl]
    rfl
  · rw [if_neg h, if_neg (fun e => h e.symm)]
theorem mk_or {M : List Nat} {a : Nat} (ha : a < M.length) (b x y : Nat) : MkR (M.set a (M.getD a 0 ||| 2 ^ b)) x y ↔ MkR M x y ∨ (x = a ∧ y = b) := by
  rw [mk_set ha]
  by_cases h : x = a
  · subst h
    rw [if_pos rfl, testBit_or2]
    unfold MkR
    rw [Bool.or_eq_true, decide_eq_true_iff]
    exact ⟨fun h => h.imp id (fun e => ⟨rfl, e.symm⟩), fun h => h.imp id (fun e => e.2.symm)⟩
  · rw [if_neg h]
    exact ⟨.inl, fun k => k.elim id (fun e => absurd e.1 h)⟩
theorem mk_zero {M : List Nat} {v : Nat} (hv : v < M.length) (x y : Nat) : MkR (M.set v 0) x y ↔ x ≠ v ∧ MkR M x y := by
  rw [mk_set hv]
  by_cases h : x = v
  · rw [if_pos h]
    simp [h]
  · rw [if_neg h]
    exact ⟨fun k => ⟨h, k⟩, fun k => k.2⟩
theorem mk_new (n x y : Nat) : ¬ MkR (List.replicate n 0) x y := by
  unfold MkR
  rw [List.getD_eq_getElem?_getD, List.getElem?_replicate]
  split <;> simp
/-- Without the edges of some. -/
def Off (R : Nat → Nat → Prop) (V : List Nat) (a b : Nat) : Prop := R a b ∧ a ∉ V ∧ b ∉ V
/-- .. without those that lead from them. -/
def OffA (R : Nat → Nat → Prop) (V : List Nat) (a b : Nat) : Prop := R a b ∧ a ∉ V
theorem off_lead {R : Nat → Nat → Prop} {V : List Nat} {a b : Nat} (h : Ld (OffA R V) a b) (hb : b ∉ V) : Ld (Off R V) a b := by
  induction h with
  | one h => exact .one ⟨h.1, h.2, hb⟩
  | snoc _ h ih => exact (ih h.2).snoc ⟨h.1, h.2, hb⟩
theorem off_ring {R : Nat → Nat → Prop} {V : List Nat} {s : Nat} : InRing (OffA R V) s ↔ InRing (Off R V) s := by
  constructor
  · intro h
    obtain ⟨c, hc⟩ := Ld.first h
    exact off_lead h hc.2
  · exact fun h => Ld.mono (fun a b k => ⟨k.1, k.2.1⟩) h
theorem off_caught (R : Nat → Nat → Prop) (V : List Nat) : caughtL (OffA R V) = caughtL (Off R V) := caughtL_ext fun _ _ _ => off_ring
theorem off_not {R : Nat → Nat → Prop} {V : List Nat} {s : Nat} (h : InRing (Off R V) s) : s ∉ V := by
  obtain ⟨c, hc⟩ := Ld.first h
  exact hc.2.1
theorem lead_ext {R S : Nat → Nat → Prop} (h : ∀ a b, R a b ↔ S a b) : R = S := by
  funext a b
  exact propext (h a b)
theorem off_nil (R : Nat → Nat → Prop) : Off R [] = R := lead_ext fun _ _ => ⟨fun h => h.1, fun h => ⟨h, List.not_mem_nil, List.not_mem_nil⟩⟩
theorem offA_nil (R : Nat → Nat → Prop) : OffA R [] = R := lead_ext fun _ _ => ⟨fun h => h.1, fun h => ⟨h, List.not_mem_nil⟩⟩
/-- The youngest of some: b says when each one's began. -/
structure Yst (b : Nat → Int) (l : List Nat) (v : Nat) : Prop where
  mem : v ∈ l
  top : ∀ s ∈ l, b s < b v ∨ (b s = b v ∧ s ≤ v)
theorem Yst.uniq {b : Nat → Int} {l : List Nat} {v v' : Nat} (h : Yst b l v) (k : Yst b l v') : v = v' := by
  have h1 := h.top v' k.mem
  have h2 := k.top v h.mem
  omega
theorem Yst.one (b : Nat → Int) (v : Nat) : Yst b [v] v := ⟨List.mem_singleton.2 rfl, fun s hs => by rw [List.mem_singleton.1 hs]; exact .inr ⟨rfl, Nat.le_refl _⟩⟩
theorem Yst.snoc {b : Nat → Int} {l : List Nat} {v x : Nat} (h : Yst b l v) (hx : ∀ s ∈ l, s < x) : Yst b (l ++ [x]) (if b v ≤ b x then x else v) := by
  have hv := hx v h.mem
  by_cases e : b v ≤ b x
  · rw [if_pos e]
    refine ⟨List.mem_append.2 (.inr (List.mem_singleton.2 rfl)), fun s hs => ?_⟩
    rcases List.mem_append.1 hs with hs | hs
    · have := h.top s hs
      have := hx s hs
      omega
    · rw [List.mem_singleton.1 hs]; exact .inr ⟨rfl, Nat.le_refl _⟩
  · rw [if_neg e]
    refine ⟨List.mem_append.2 (.inl h.mem), fun s hs => ?_⟩
    rcases List.mem_append.1 hs with hs | hs
    · exact h.top s hs
    · rw [List.mem_singleton.1 hs]; exact .inl (by omega)
theorem caughtL_rise (R : Nat → Nat → Prop) : (caughtL R).Pairwise (· < ·) := by
  unfold caughtL
  refine List.Pairwise.filter _ ?_
  rw [List.pairwise_map]
  exact List.pairwise_lt_range.imp fun h => by omega
/-- Victims, one behind the other. -/
structure Vics (R : Nat → Nat → Prop) (b : Nat → Int) (V : List Nat) : Prop where
  each : ∀ i (h : i < V.length), Yst b (caughtL (Off R (V.take i))) V[i]
theorem Vics.nil (R : Nat → Nat → Prop) (b : Nat → Int) : Vics R b [] := ⟨fun _ h => absurd h (Nat.not_lt_zero _)⟩
theorem Vics.snoc {R : Nat → Nat → Prop} {b : Nat → Int} {V : List Nat} {v : Nat} (h : Vics R b V) (hv : Yst b (caughtL (Off R V)) v) : Vics R b (V ++ [v]) := by
  refine ⟨fun i hi => ?_⟩
  rw [List.length_append, List.length_singleton] at hi
  by_cases e : i < V.length
  · rw [List.take_append_of_le_length (by omega), List.getElem_append_left e]
    exact h.each i e
  · have e2 : i = V.length := by omega
    subst e2
    rw [List.take_left' rfl, show (V ++ [v])[V.length]'(by simp) = v from by simp]
    exact hv
theorem Vics.fresh {R : Nat → Nat → Prop} {b : Nat → Int} {V : List Nat} (h : Vics R b V) : V.Nodup ∧ ∀ v ∈ V, 1 ≤ v ∧ v ≤ 16 := by
  constructor
  · rw [List.Nodup, List.pairwise_iff_getElem]
    intro i j hi hj hij e
    have h1 := (mem_caughtL.1 (h.each j hj).mem).2
    refine off_not h1 ?_
    rw [← e]
    exact List.mem_take_iff_getElem.2 ⟨i, by omega, rfl⟩
  · intro v hv
    obtain ⟨i, hi, e⟩ := List.getElem_of_mem hv
    have h1 := (mem_caughtL.1 (h.each i hi).mem).1
    rw [e] at h1
    exact h1
theorem Vics.len {R : Nat → Nat → Prop} {b : Nat → Int} {V : List Nat} (h : Vics R b V) : V.length ≤ 16 := by
  have := nodup_lenW (m := (List.range 16).map (· + 1)) h.fresh.1 fun x hx => List.mem_map.2 ⟨x - 1, List.mem_range.2 (by have := h.fresh.2 x hx; omega), by have := h.fresh.2 x hx; omega⟩
  simpa using this
/-- All victims: nobody is caught behind them. -/
def AllVics (R : Nat → Nat → Prop) (b : Nat → Int) (V : List Nat) : Prop := Vics R b V ∧ caughtL (Off R V) = []
theorem vics_take {R : Nat → Nat → Prop} {b : Nat → Int} {V U : List Nat} (h : Vics R b V) (k : Vics R b U) : ∀ i, i ≤ V.length → i ≤ U.length → V.take i = U.take i
  | 0, _, _ => rfl
  | i + 1, hv, hu => by
    have ih := vics_take h k i (by omega) (by omega)
    have h1 := h.each i (by omega)
    have h2 := k.each i (by omega)
    rw [ih] at h1
    rw [List.take_succ_eq_append_getElem (by omega), List.take_succ_eq_append_getElem (by omega), ih, h1.uniq h2]
theorem AllVics.uniq {R : Nat → Nat → Prop} {b : Nat → Int} {V U : List Nat} (h : AllVics R b V) (k : AllVics R b U) : V = U := by
  have key : ∀ {V U : List Nat}, AllVics R b V → AllVics R b U → U.length ≤ V.length := by
    intro V U h k
    by_cases e : U.length ≤ V.length
    · exact e
    · exfalso
      have h1 := vics_take h.1 k.1 V.length (Nat.le_refl _) (by omega)
      rw [List.take_of_length_le (Nat.le_refl _)] at h1
      have h2 := (k.1.each V.length (by omega)).mem
      rw [← h1, h.2] at h2
      exact nomatch h2
  have hl : V.length = U.length := Nat.le_antisymm (key k h) (key h k)
  have := vics_take h.1 k.1 V.length (Nat.le_refl _) (by omega)
  rwa [List.take_of_length_le (Nat.le_refl _), hl, List.take_of_length_le (Nat.le_refl _)] at this
end Go.Proofs.Ytiadphgodhfhjab
