/- A disk in plain words. -/
import Derived.Test.YtnjljalihjkmcaaDskK
namespace Go.Proofs.Ytnjljalihjkmcaa
open Go.RowKit Go.Maps Go.Sort Go.Shelf Go.Proofs

/-- A disk, plainly: its size, what is sure, what was written since, the steps, the steps left. -/
structure DM where
  size : Nat
  sure : Nat → List UInt8
  wr : Nat → Option (List UInt8)
  steps : Nat
  armed : Bool
  left : Nat
def DM.get (M : DM) (i : Nat) : List UInt8 := (M.wr i).getD (M.sure i)
def DM.dead (M : DM) : Bool := M.armed && (M.left == 0)
def DM.stepped (M : DM) : DM := { M with left := if M.armed then M.left - 1 else M.left, steps := M.steps + 1 }
def DM.written (M : DM) (i : Nat) (l : List UInt8) : DM := { M.stepped with wr := fun j => if j = i then some l else M.wr j }
def DM.flushed (M : DM) : DM := { M.stepped with sure := fun j => M.get j, wr := fun _ => none }
def DM.fresh (M : DM) : List Nat := (List.range M.size).filter fun i => (M.wr i).isSome
def DM.new (n : Nat) : DM := ⟨n, fun _ => zero64, fun _ => none, 0, false, 0⟩
/-- The place of sector i among those that aren't sure. -/
def DM.place (M : DM) (i : Nat) : Nat := ((List.range i).filter fun j => (M.wr j).isSome).length
def DM.left1 (M : DM) (keep : List Bool) (torn cut : Int) (i : Nat) : List UInt8 :=
  match M.wr i with
  | none => M.sure i
  | some l => if keep[M.place i]? = some true then l else if (M.place i : Int) = torn then tearL (M.sure i) l cut else M.sure i
def DM.crashed (M : DM) (keep : List Bool) (torn cut : Int) : DM := ⟨M.size, M.left1 keep torn cut, fun _ => none, 0, false, 0⟩

def litB (l : List UInt8) : DataW Unit := .lit (.string l)
/-- What lies there is the plain disk. -/
structure Sim (D : DK) (M : DM) : Prop where
  size : D.size = M.size
  steps : D.steps = M.steps
  armed : D.armed = M.armed
  left : D.left = M.left
  has : ∀ x : Int, Maps.has D.wr (kz x) = true ↔ ∃ i : Nat, i < M.size ∧ x = i ∧ (M.wr i).isSome = true
  sure : ∀ i, i < M.size → (M.sure i).length = 64 ∧ D.sure.atKey (kz i) zlit = litB (M.sure i)
  wr : ∀ i, i < M.size → ∀ l, M.wr i = some l → l.length = 64 ∧ D.wr.atKey (kz i) zlit = litB l

theorem kz_lit (i : Int) : WideAt.IsKeyLit (kz i) := by unfold kz; simp [WideAt.IsKeyLit]

theorem Sim.new (n : Nat) : Sim (DK.new n) (DM.new n) :=
  ⟨rfl, rfl, rfl, rfl, fun x => by simp [DK.new, DM.new, Maps.has], fun i _ => ⟨zero64_len, rfl⟩, fun i _ l h => by cases h⟩

variable {D : DK} {M : DM}
theorem Sim.fresh (h : Sim D M) {i : Nat} (hi : i < M.size) : Maps.has D.wr (kz i) = (M.wr i).isSome := by
  cases hw : (M.wr i).isSome with
  | true => exact (h.has i).2 ⟨i, hi, rfl, hw⟩
  | false =>
    cases hh : Maps.has D.wr (kz i) with
    | false => rfl
    | true =>
      obtain ⟨j, _, hj, hs⟩ := (h.has i).1 hh
      have : i = j := by omega
      subst this
      rw [hw] at hs; cases hs
theorem Sim.get (h : Sim D M) {i : Nat} (hi : i < M.size) : D.get i = litB (M.get i) ∧ (M.get i).length = 64 := by
  unfold DK.get DM.get
  rw [h.fresh hi]
  cases hw : M.wr i with
  | none => exact ⟨by simpa using (h.sure i hi).2, by simpa using (h.sure i hi).1⟩
  | some l => exact ⟨by simpa using (h.wr i hi l hw).2, by simpa using (h.wr i hi l hw).1⟩
theorem Sim.dead (h : Sim D M) : D.dead = M.dead := by
  unfold DK.dead DM.dead
  rw [h.armed, h.left]
  congr 1
  cases M.left <;> simp <;> omega
theorem Sim.stepped (h : Sim D M) (hd : M.dead = false) : Sim D.stepped M.stepped := by
  refine ⟨h.size, by simp [DK.stepped, DM.stepped, h.steps], h.armed, ?_, h.has, h.sure, h.wr⟩
  simp only [DK.stepped, DM.stepped, h.armed, h.left]
  cases ha : M.armed with
  | false => simp
  | true =>
    have : M.left ≠ 0 := by intro e; simp [DM.dead, ha, e] at hd
    simp; omega
theorem Sim.written (h : Sim D M) (hd : M.dead = false) {i : Nat} (hi : i < M.size) {l : List UInt8} (hl : l.length = 64) (hm : Maps.IsMap D.wr) : Sim (D.written i l) (M.written i l) := by
  have hs := h.stepped hd
  refine ⟨hs.size, hs.steps, hs.armed, hs.left, fun x => ?_, hs.sure, fun j hj l' hl' => ?_⟩
  · show Maps.has (D.wr.put (kz i) _) (kz x) = true ↔ ∃ j : Nat, j < M.size ∧ x = j ∧ (if j = i then some l else M.wr j).isSome = true
    by_cases e : x = (i : Int)
    · subst e
      rw [has_put_same hm (kz_lit _)]
      exact ⟨fun _ => ⟨i, hi, rfl, by simp⟩, fun _ => rfl⟩
    · rw [has_put_other (kz_ne e), h.has x]
      constructor
      · rintro ⟨j, h1, h2, h3⟩
        exact ⟨j, h1, h2, by rw [if_neg (fun e' => e (by rw [h2, e']))]; exact h3⟩
      · rintro ⟨j, h1, h2, h3⟩
        rw [if_neg (fun e' => e (by rw [h2, e']))] at h3
        exact ⟨j, h1, h2, h3⟩
  · change (if j = i then some l else M.wr j) = some l' at hl'
    show l'.length = 64 ∧ (D.wr.put (kz i) _).atKey (kz j) zlit = _
    by_cases e : j = i
    · subst e
      rw [if_pos rfl] at hl'
      injection hl' with hl'
      subst hl'
      exact ⟨hl, atKey_put_same hm (kz_lit _) _ _⟩
    · rw [if_neg e] at hl'
      rw [atKey_put_other (kz_ne (by omega))]
      exact h.wr j hj l' hl'
/-- A map of entries that a world owns. -/
def Ent (X : DataW Unit) : Prop := ∃ es, X = .map es ∧ es.Pairwise (fun p q => p.1 ≠ q.1) ∧ ∀ p ∈ es, WideAt.IsKeyLit p.1
theorem has_merge {X Y : DataW Unit} (hX : Maps.IsMap X) (hY : Ent Y) (k : Lit) : Maps.has (Lib.mergeD X Y) k = (Maps.has X k || Maps.has Y k) := by
  obtain ⟨es, rfl, hp, hk⟩ := hY
  exact has_foldPut k es X hX hk
theorem atKey_merge {X Y : DataW Unit} (hX : Maps.IsMap X) (hY : Ent Y) (k : Lit) (z : DataW Unit) : (Lib.mergeD X Y).atKey k z = if Maps.has Y k then Y.atKey k z else X.atKey k z := by
  obtain ⟨es, rfl, hp, hk⟩ := hY
  have := atKey_foldPut k z es X hX hk hp
  show (es.foldl (fun D p => D.put p.1 p.2) X).atKey k z = _
  rw [this, has_eq]
  cases hf : es.find? (fun p => p.1.sameKey k) with
  | none =>
    have : es.any (fun p => p.1.sameKey k) = false := by
      rw [List.any_eq_false]; intro p hp'; have := List.find?_eq_none.1 hf p hp'; simpa using this
    rw [this]; rfl
  | some p =>
    have : es.any (fun p => p.1.sameKey k) = true := List.any_eq_true.2 ⟨p, List.mem_of_find?_eq_some hf, List.find?_some (p := fun q : Lit × DataW Unit => q.1.sameKey k) hf⟩
    rw [this, if_pos rfl]
    have e : (DataW.map es).atKey k z = (es.find? fun p => p.1.sameKey k).elim z fun p => p.2 := by
      unfold DataW.atKey
      simp only
      cases es.find? fun p => p.1.sameKey k <;> rfl
    rw [e, hf]
    rfl
theorem Sim.flushed (h : Sim D M) (hd : M.dead = false) (hX : Maps.IsMap D.sure) (hY : Ent D.wr) : Sim D.flushed M.flushed := by
  have hs := h.stepped hd
  refine ⟨hs.size, hs.steps, hs.armed, hs.left, fun x => by simp [DK.flushed, DM.flushed, Maps.has], fun i hi => ?_, fun i _ l hl => by cases hl⟩
  have hg := h.get (i := i) hi
  refine ⟨hg.2, ?_⟩
  show (Lib.mergeD D.sure D.wr).atKey (kz i) zlit = litB (M.get i)
  rw [atKey_merge hX hY, ← hg.1]
  rfl
theorem Sim.keys (h : Sim D M) : KeysAre D.wr (M.fresh.map fun i : Nat => (i : Int)) := by
  constructor
  · rw [List.pairwise_map]
    exact ((List.pairwise_lt_range (n := M.size)).filter _).imp fun {a b} hab => by omega
  · intro x
    rw [h.has x]
    simp only [DM.fresh, List.mem_map, List.mem_filter, List.mem_range]
    constructor
    · rintro ⟨i, ⟨h1, h2⟩, rfl⟩; exact ⟨i, h1, rfl, h2⟩
    · rintro ⟨i, h1, rfl, h2⟩; exact ⟨i, ⟨h1, h2⟩, rfl⟩
def posOf (x : Int) : List Int → Nat
  | [] => 0
  | y :: r => if y = x then 0 else posOf x r + 1
theorem posOf_append (x : Int) (r : List Int) : ∀ l : List Int, x ∉ l → posOf x (l ++ x :: r) = l.length
  | [], _ => by simp [posOf]
  | y :: l, h => by
    have h1 : ¬ y = x := fun e => h (by simp [e])
    have h2 : x ∉ l := fun e => h (List.mem_cons_of_mem _ e)
    show (if y = x then 0 else posOf x (l ++ x :: r) + 1) = _
    rw [if_neg h1, posOf_append x r l h2]
    rfl
/-- A crash, sector by sector: those of a list at their places. -/
theorem crashL_at (keep : List Bool) (torn cut : Int) (D : DK) (F : List Int) (hF : F.Pairwise (· < ·)) : ∀ (k : Nat) (S : DataW Unit), Maps.IsMap S → ∀ x : Int,
    (crashL keep torn cut D F k S).atKey (kz x) zlit = (if x ∈ F then (crashStep keep torn cut D (k + posOf x F) x S) else S).atKey (kz x) zlit := by
  induction F with
  | nil => intro k S hS x; rfl
  | cons i r ih =>
    intro k S hS x
    have hp := List.pairwise_cons.1 hF
    have hS' : Maps.IsMap (crashStep keep torn cut D k i S) := by
      unfold crashStep
      split
      · exact hS.put _ _
      · split
        · exact hS.put _ _
        · exact hS
    show (crashL keep torn cut D r (k + 1) (crashStep keep torn cut D k i S)).atKey (kz x) zlit = _
    rw [ih hp.2 (k + 1) _ hS' x]
    have hother : ∀ y : Int, y ≠ i → (crashStep keep torn cut D k i S).atKey (kz y) zlit = S.atKey (kz y) zlit := fun y hy => by
      unfold crashStep
      split
      · exact atKey_put_other (kz_ne hy) _ _
      · split
        · exact atKey_put_other (kz_ne hy) _ _
        · rfl
    by_cases e : x = i
    · subst e
      have hnr : x ∉ r := fun hx => by have := hp.1 x hx; omega
      rw [if_neg hnr, if_pos (List.mem_cons_self ..)]
      simp [posOf]
    · by_cases hx : x ∈ r
      · have hxi : x ∈ i :: r := List.mem_cons_of_mem _ hx
        rw [if_pos hx, if_pos hxi]
        have hid : posOf x (i :: r) = posOf x r + 1 := if_neg fun h => e h.symm
        rw [hid, show k + 1 + posOf x r = k + (posOf x r + 1) by omega]
        unfold crashStep
        split
        · rw [atKey_put_same (by exact hS') (kz_lit _), atKey_put_same hS (kz_lit _)]
        · split
          · rw [atKey_put_same (by exact hS') (kz_lit _), atKey_put_same hS (kz_lit _)]
          · exact hother x e
      · have hxi : x ∉ i :: r := by simp [e, hx]
        rw [if_neg hx, if_neg hxi]
        exact hother x e
theorem place_eq (M : DM) {i : Nat} (hi : i < M.size) (hw : (M.wr i).isSome = true) : posOf (i : Int) (M.fresh.map fun i : Nat => (i : Int)) = M.place i := by
  unfold DM.fresh DM.place
  have hsplit : List.range M.size = List.range i ++ i :: (List.range' (i + 1) (M.size - i - 1)) := by
    apply List.ext_getElem
    · simp; omega
    · intro j h1 h2
      simp only [List.getElem_range, List.getElem_append, List.length_range]
      split
      · rfl
      · rw [List.getElem_cons]
        split
        · omega
        · rw [List.getElem_range']; omega
  rw [hsplit, List.filter_append, List.filter_cons, if_pos hw, List.map_append, List.map_cons]
  rw [posOf_append]
  · simp
  · intro hm
    obtain ⟨j, hj, e⟩ := List.mem_map.1 hm
    have := List.mem_range.1 (List.mem_filter.1 hj).1
    omega
theorem Sim.crashed (h : Sim D M) (hX : Maps.IsMap D.sure) (keep : List Bool) (torn cut : Int) : Sim (D.crashed keep torn cut (M.fresh.map fun i : Nat => (i : Int))) (M.crashed keep torn cut) := by
  refine ⟨h.size, rfl, rfl, rfl, fun x => by simp [DK.crashed, DM.crashed, Maps.has], fun i hi => ?_, fun i _ l hl => by cases hl⟩
  change i < M.size at hi
  have hk := h.keys
  show (M.left1 keep torn cut i).length = 64 ∧ (crashL keep torn cut D _ 0 D.sure).atKey (kz i) zlit = litB (M.left1 keep torn cut i)
  rw [crashL_at keep torn cut D _ hk.1 0 D.sure hX]
  obtain ⟨hs1, hs2⟩ := h.sure i hi
  unfold DM.left1
  cases hw : M.wr i with
  | none =>
    have hn : ((i : Nat) : Int) ∉ (M.fresh.map fun i : Nat => (i : Int)) := by
      rw [hk.2, h.fresh hi, hw]; simp
    rw [if_neg hn]
    exact ⟨hs1, hs2⟩
  | some l =>
    have hm : ((i : Nat) : Int) ∈ (M.fresh.map fun i : Nat => (i : Int)) := by
      rw [hk.2, h.fresh hi, hw]; rfl
    rw [if_pos hm, place_eq M hi (by rw [hw]; rfl), Nat.zero_add]
    obtain ⟨hl1, hl2⟩ := h.wr i hi l hw
    unfold crashStep
    simp only
    split
    · rw [hl2]; exact ⟨hl1, atKey_put_same hX (kz_lit _) _ _⟩
    · split
      · rw [hl2, hs2]; exact ⟨tearL_len _ _ _ hs1 hl1, atKey_put_same hX (kz_lit _) _ _⟩
      · exact ⟨hs1, hs2⟩
end Go.Proofs.Ytnjljalihjkmcaa
