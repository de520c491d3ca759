/- Patterns and edges, plainly: the variables, the steps, the rows of the first atoms. Nothing of the program is stated here. -/
import Derived.Test.YtgldcahhliokeaaTupA
namespace Go.Proofs.Ytgldcahhliokeaa

abbrev Nm := List UInt8
structure Ed where
  f : Int
  lab : Nm
  t : Int
deriving DecidableEq, Inhabited
structure Atm where
  fr : Nm
  lab : Nm
  to : Nm
deriving DecidableEq, Inhabited
structure Vw where
  name : Nm
  kind : Int
  out : List Nm
  atoms : List Atm
  label : Nm
deriving Inhabited
/-- The variables, each once. -/
def addV (vs : List Nm) (s : Nm) : List Nm := if s ∈ vs then vs else vs ++ [s]
def vars1 (vs : List Nm) (a : Atm) : List Nm := addV (addV vs a.fr) a.to
def varsFrom (vs : List Nm) (as : List Atm) : List Nm := as.foldl vars1 vs
def varsL (as : List Atm) : List Nm := varsFrom [] as
theorem addV_mem {vs : List Nm} {s q : Nm} : q ∈ addV vs s ↔ q ∈ vs ∨ q = s := by
  unfold addV
  split
  · constructor
    · exact .inl
    · rintro (h | rfl)
      · exact h
      · assumption
  · simp
theorem addV_pre (vs : List Nm) (s : Nm) : ∃ r, addV vs s = vs ++ r := by
  unfold addV
  split
  · exact ⟨[], by simp⟩
  · exact ⟨[s], rfl⟩
theorem addV_nodup {vs : List Nm} (s : Nm) (h : vs.Nodup) : (addV vs s).Nodup := by
  unfold addV
  split
  · exact h
  · rename_i hs
    rw [List.nodup_append]
    exact ⟨h, by simp, by rintro a ha b hb rfl; simp at hb; exact hs (hb ▸ ha)⟩
theorem addV_len (vs : List Nm) (s : Nm) : (addV vs s).length ≤ vs.length + 1 := by
  unfold addV
  split <;> simp
theorem vars1_pre (vs : List Nm) (a : Atm) : ∃ r, vars1 vs a = vs ++ r := by
  obtain ⟨r, h⟩ := addV_pre vs a.fr
  obtain ⟨q, k⟩ := addV_pre (addV vs a.fr) a.to
  exact ⟨r ++ q, by unfold vars1; rw [k, h, List.append_assoc]⟩
theorem varsFrom_pre (as : List Atm) : ∀ vs : List Nm, ∃ r, varsFrom vs as = vs ++ r := by
  induction as with
  | nil => exact fun vs => ⟨[], by simp [varsFrom]⟩
  | cons a as ih =>
    intro vs
    obtain ⟨r, h⟩ := vars1_pre vs a
    obtain ⟨q, k⟩ := ih (vars1 vs a)
    refine ⟨r ++ q, ?_⟩
    rw [← List.append_assoc, ← h, ← k]
    rfl
theorem vars1_nodup {vs : List Nm} (a : Atm) (h : vs.Nodup) : (vars1 vs a).Nodup := addV_nodup _ (addV_nodup _ h)
theorem varsFrom_nodup (as : List Atm) : ∀ {vs : List Nm}, vs.Nodup → (varsFrom vs as).Nodup := by
  induction as with
  | nil => exact fun h => h
  | cons a as ih => exact fun h => ih (vars1_nodup a h)
theorem varsL_nodup (as : List Atm) : (varsL as).Nodup := varsFrom_nodup as .nil
theorem varsFrom_len (as : List Atm) : ∀ vs : List Nm, (varsFrom vs as).length ≤ vs.length + 2 * as.length := by
  induction as with
  | nil => exact fun vs => by simp [varsFrom]
  | cons a as ih =>
    intro vs
    have h1 := ih (vars1 vs a)
    have h2 := addV_len vs a.fr
    have h3 := addV_len (addV vs a.fr) a.to
    show (varsFrom (vars1 vs a) as).length ≤ _
    unfold vars1 at h1 ⊢
    simp only [List.length_cons]
    omega
theorem varsL_len (as : List Atm) : (varsL as).length ≤ 2 * as.length := by
  have := varsFrom_len as []
  simpa [varsL] using this
theorem varsFrom_mem {q : Nm} (as : List Atm) : ∀ {vs : List Nm}, q ∈ varsFrom vs as ↔ q ∈ vs ∨ ∃ a ∈ as, q = a.fr ∨ q = a.to := by
  induction as with
  | nil => intro vs; simp [varsFrom]
  | cons a as ih =>
    intro vs
    show q ∈ varsFrom (vars1 vs a) as ↔ _
    rw [ih]
    unfold vars1
    rw [addV_mem, addV_mem]
    simp only [List.mem_cons, exists_eq_or_imp]
    constructor
    · rintro (((h | h) | h) | h)
      · exact .inl h
      · exact .inr (.inl (.inl h))
      · exact .inr (.inl (.inr h))
      · exact .inr (.inr h)
    · rintro (h | (h | h) | h)
      · exact .inl (.inl (.inl h))
      · exact .inl (.inl (.inr h))
      · exact .inl (.inr h)
      · exact .inr h
theorem varsL_mem {q : Nm} {as : List Atm} : q ∈ varsL as ↔ ∃ a ∈ as, q = a.fr ∨ q = a.to := by
  unfold varsL
  rw [varsFrom_mem]
  simp

/-- An atom's step. -/
structure Stp where
  lab : Nm
  fr : Nat
  to : Nat
  kn : Nat
deriving DecidableEq, Inhabited
def Stp.next (s : Stp) : Nat := max s.kn (max (s.fr + 1) (s.to + 1))
def stepOf (vs : List Nm) (kn : Nat) (a : Atm) : Stp := ⟨a.lab, vs.idxOf a.fr, vs.idxOf a.to, kn⟩
def stepsK (vs : List Nm) : Nat → List Atm → List Stp
  | _, [] => []
  | kn, a :: r => stepOf vs kn a :: stepsK vs (stepOf vs kn a).next r
def stepsL (as : List Atm) : List Stp := stepsK (varsL as) 0 as
theorem stepsK_len (vs : List Nm) : ∀ (as : List Atm) (kn : Nat), (stepsK vs kn as).length = as.length
  | [], _ => rfl
  | a :: r, kn => by simp [stepsK, stepsK_len vs r]
/-- Steps that fit, one behind the other. -/
def ChainOk : Nat → List Stp → Prop
  | _, [] => True
  | kn, s :: r => s.kn = kn ∧ s.fr ≤ s.kn ∧ s.to ≤ max s.kn (s.fr + 1) ∧ ChainOk s.next r
theorem idx_addV {vs r : List Nm} {s : Nm} : (addV vs s ++ r).idxOf s = if s ∈ vs then vs.idxOf s else vs.length := by
  unfold addV
  by_cases h : s ∈ vs
  · rw [if_pos h, if_pos h, List.idxOf_append, if_pos h]
  · rw [if_neg h, if_neg h, List.idxOf_append, if_pos (by simp), List.idxOf_append, if_neg h]
    simp
theorem idx_lt {vs : List Nm} {s : Nm} (h : s ∈ vs) : vs.idxOf s < vs.length := List.idxOf_lt_length_iff.2 h
theorem addV_len_eq (vs : List Nm) (s : Nm) : (addV vs s).length = if s ∈ vs then vs.length else vs.length + 1 := by
  unfold addV
  split <;> simp
theorem step_at (vs : List Nm) (a : Atm) (as : List Atm) : (varsFrom (vars1 vs a) as).idxOf a.fr ≤ vs.length ∧ (varsFrom (vars1 vs a) as).idxOf a.to ≤ max vs.length ((varsFrom (vars1 vs a) as).idxOf a.fr + 1) ∧ max vs.length (max ((varsFrom (vars1 vs a) as).idxOf a.fr + 1) ((varsFrom (vars1 vs a) as).idxOf a.to + 1)) = (vars1 vs a).length := by
  obtain ⟨r, hr⟩ := varsFrom_pre as (vars1 vs a)
  obtain ⟨q, hq⟩ := addV_pre (addV vs a.fr) a.to
  have e1 : (varsFrom (vars1 vs a) as).idxOf a.fr = if a.fr ∈ vs then vs.idxOf a.fr else vs.length := by
    rw [hr]
    unfold vars1
    rw [hq, List.append_assoc]
    exact idx_addV
  have e2 : (varsFrom (vars1 vs a) as).idxOf a.to = if a.to ∈ addV vs a.fr then (addV vs a.fr).idxOf a.to else (addV vs a.fr).length := by
    rw [hr]
    exact idx_addV
  have l1 := addV_len_eq vs a.fr
  have l2 : (vars1 vs a).length = _ := addV_len_eq (addV vs a.fr) a.to
  have m1 : a.fr ∈ vs → vs.idxOf a.fr < vs.length := idx_lt
  have m2 : a.to ∈ addV vs a.fr → (addV vs a.fr).idxOf a.to < (addV vs a.fr).length := idx_lt
  rw [e1, e2, l2]
  clear e1 e2 l2 hr hq
  by_cases h1 : a.fr ∈ vs <;> by_cases h2 : a.to ∈ addV vs a.fr <;> simp only [h1, h2, if_true, if_false, forall_const] at * <;> omega
theorem chain_from : ∀ (as : List Atm) (vs : List Nm), ChainOk vs.length (stepsK (varsFrom vs as) vs.length as) := by
  intro as
  induction as with
  | nil => exact fun _ => trivial
  | cons a as ih =>
    intro vs
    obtain ⟨h1, h2, h3⟩ := step_at vs a as
    have hv : varsFrom vs (a :: as) = varsFrom (vars1 vs a) as := rfl
    have hn : (stepOf (varsFrom (vars1 vs a) as) vs.length a).next = (vars1 vs a).length := h3
    rw [hv]
    refine ⟨rfl, h1, h2, ?_⟩
    rw [hn]
    exact ih (vars1 vs a)
theorem chain_ok (as : List Atm) : ChainOk 0 (stepsL as) := chain_from as []
/-- How many variables the first atoms have. -/
def knEnd : Nat → List Stp → Nat
  | kn, [] => kn
  | _, s :: r => knEnd s.next r
theorem knEnd_from : ∀ (as : List Atm) (vs : List Nm), knEnd vs.length (stepsK (varsFrom vs as) vs.length as) = (varsFrom vs as).length := by
  intro as
  induction as with
  | nil => exact fun _ => rfl
  | cons a as ih =>
    intro vs
    obtain ⟨_, _, h3⟩ := step_at vs a as
    have hv : varsFrom vs (a :: as) = varsFrom (vars1 vs a) as := rfl
    have hn : (stepOf (varsFrom (vars1 vs a) as) vs.length a).next = (vars1 vs a).length := h3
    rw [hv]
    show knEnd (stepOf (varsFrom (vars1 vs a) as) vs.length a).next (stepsK (varsFrom (vars1 vs a) as) (stepOf (varsFrom (vars1 vs a) as) vs.length a).next as) = _
    rw [hn]
    exact ih (vars1 vs a)
theorem knEnd_ok (as : List Atm) : knEnd 0 (stepsL as) = (varsL as).length := knEnd_from as []

/-- Edges, each once. -/
def addE (out : List Ed) (e : Ed) : List Ed := if e ∈ out then out else out ++ [e]
def onceL (es : List Ed) : List Ed := es.foldl addE []
theorem onceL_snoc (es : List Ed) (e : Ed) : onceL (es ++ [e]) = addE (onceL es) e := by unfold onceL; rw [List.foldl_append]; rfl
theorem onceL_take {es : List Ed} {k : Nat} (h : k < es.length) : onceL (es.take (k + 1)) = addE (onceL (es.take k)) es[k] := by
  rw [List.take_succ_eq_append_getElem h, onceL_snoc]
theorem addE_mem {out : List Ed} {e q : Ed} : q ∈ addE out e ↔ q ∈ out ∨ q = e := by
  unfold addE
  split
  · constructor
    · exact .inl
    · rintro (h | rfl)
      · exact h
      · assumption
  · simp
theorem foldE_mem {q : Ed} : ∀ (es out : List Ed), q ∈ es.foldl addE out ↔ q ∈ out ∨ q ∈ es
  | [], out => by simp
  | e :: es, out => by
    rw [List.foldl_cons, foldE_mem es, addE_mem, List.mem_cons]
    constructor
    · rintro ((h | h) | h)
      · exact .inl h
      · exact .inr (.inl h)
      · exact .inr (.inr h)
    · rintro (h | h | h)
      · exact .inl (.inl h)
      · exact .inl (.inr h)
      · exact .inr h
theorem onceL_mem {q : Ed} {es : List Ed} : q ∈ onceL es ↔ q ∈ es := by unfold onceL; rw [foldE_mem]; simp
theorem addE_nodup {out : List Ed} (e : Ed) (h : out.Nodup) : (addE out e).Nodup := by
  unfold addE
  split
  · exact h
  · rename_i hs
    rw [List.nodup_append]
    exact ⟨h, by simp, by rintro a ha b hb rfl; simp at hb; exact hs (hb ▸ ha)⟩
theorem foldE_nodup : ∀ (es : List Ed) {out : List Ed}, out.Nodup → (es.foldl addE out).Nodup
  | [], _, h => h
  | e :: es, _, h => foldE_nodup es (addE_nodup e h)
theorem onceL_nodup (es : List Ed) : (onceL es).Nodup := foldE_nodup es .nil
theorem foldE_len : ∀ (es out : List Ed), (es.foldl addE out).length ≤ out.length + es.length
  | [], out => by simp
  | e :: es, out => by
    have h1 := foldE_len es (addE out e)
    have h2 : (addE out e).length ≤ out.length + 1 := by unfold addE; split <;> simp
    rw [List.foldl_cons, List.length_cons]
    omega
theorem onceL_len (es : List Ed) : (onceL es).length ≤ es.length := by
  have := foldE_len es []
  simpa [onceL] using this

/-- The ends of those edges that the atom may be. -/
def fitB (s : Stp) (e : Ed) : Bool := decide (e.lab = s.lab) && (!decide (s.fr = s.to) || decide (e.f = e.t))
def fitL (s : Stp) (es : List Ed) : List (Int × Int) := (es.filter (fitB s)).map fun e => (e.f, e.t)
theorem fitL_take {s : Stp} {es : List Ed} {k : Nat} (h : k < es.length) : fitL s (es.take (k + 1)) = fitL s (es.take k) ++ if fitB s es[k] = true then [(es[k].f, es[k].t)] else [] := by
  unfold fitL
  rw [List.take_succ_eq_append_getElem h, List.filter_append, List.map_append, List.filter_cons]
  split <;> simp
theorem fitL_len (s : Stp) (es : List Ed) : (fitL s es).length ≤ es.length := by
  unfold fitL
  rw [List.length_map]
  exact List.length_filter_le _ _
def toldS (s : Stp) (e : Int × Int) : Int × Int := (if s.kn ≤ s.fr then 0 else e.1, if s.kn ≤ s.to then 0 else e.2)
def tellsS (s : Stp) (row : Tu) : Int × Int := (if s.fr < s.kn then row.getD s.fr 0 else 0, if s.to < s.kn then row.getD s.to 0 else 0)
def push1 (row : Tu) (p : Nat) (x : Int) : Tu := if p = row.length then row ++ [x] else row
def withS (s : Stp) (row : Tu) (e : Int × Int) : Tu := push1 (push1 row s.fr e.1) s.to e.2
/-- The edges that go on with a row. -/
def foundL (s : Stp) (es : List Ed) (k : Int × Int) : List (Int × Int) := (fitL s es).filter fun e => decide (toldS s e = k)
def withL (s : Stp) (ahead : List Tu) (es : List Ed) : List Tu := ahead.flatMap fun row => (foundL s es (tellsS s row)).map (withS s row)
theorem push1_len (row : Tu) (p : Nat) (x : Int) : (push1 row p x).length = if p = row.length then row.length + 1 else row.length := by
  unfold push1
  split <;> simp
theorem withS_len {s : Stp} {row : Tu} (e : Int × Int) (h : row.length = s.kn) (h1 : s.fr ≤ s.kn) (h2 : s.to ≤ max s.kn (s.fr + 1)) : (withS s row e).length = s.next := by
  unfold withS Stp.next
  rw [push1_len, push1_len, h]
  by_cases a : s.fr = s.kn
  · rw [if_pos a]
    by_cases b : s.to = s.kn + 1
    · rw [if_pos b]; omega
    · rw [if_neg b]; omega
  · rw [if_neg a]
    by_cases b : s.to = s.kn
    · rw [if_pos b]; omega
    · rw [if_neg b]; omega
/-- The rows of the steps, and not many more than there may be. -/
def rowsN (es : List Ed) : List Stp → List Tu → List Tu
  | [], rows => rows
  | s :: r, rows => if 3000 < (withL s rows es).length then (withL s rows es).take 3001 else rowsN es r (withL s rows es)
def rowsOfL (as : List Atm) (es : List Ed) : List Tu := rowsN (onceL es) (stepsL as) [[]]
theorem rowsN_len (es : List Ed) : ∀ (ss : List Stp) (rows : List Tu), rows.length ≤ 3000 → (rowsN es ss rows).length ≤ 3001
  | [], rows, h => by unfold rowsN; omega
  | s :: r, rows, h => by
    unfold rowsN
    split
    · rw [List.length_take]; omega
    · exact rowsN_len es r _ (by omega)
theorem with_lens {s : Stp} {ahead : List Tu} {es : List Ed} (h : ∀ row ∈ ahead, row.length = s.kn) (h1 : s.fr ≤ s.kn) (h2 : s.to ≤ max s.kn (s.fr + 1)) : ∀ row ∈ withL s ahead es, row.length = s.next := by
  intro row hr
  unfold withL at hr
  rw [List.mem_flatMap] at hr
  obtain ⟨q, hq, hr⟩ := hr
  obtain ⟨e, _, rfl⟩ := List.mem_map.1 hr
  exact withS_len e (h q hq) h1 h2
end Go.Proofs.Ytgldcahhliokeaa
