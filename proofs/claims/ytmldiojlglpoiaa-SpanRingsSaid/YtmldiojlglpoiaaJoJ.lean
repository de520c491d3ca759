/- JoJ, what this seat can fill of it. -/
import Derived.Test.YtmldiojlglpoiaaJnB
import Derived.Test.YtmldiojlglpoiaaShelfC
namespace Go.Proofs.Ytmldiojlglpoiaa
/- The variables of a pattern: query.Vars. -/
open Go.RowKit Go.Maps

set_option maxRecDepth 100000 in
theorem clone_any (l : Nm) (w : World) (hs : l.length ≤ 1000000) :
    Calls Try.prog 51 #[.string ⟨l.toArray⟩] w fun e w' => e = .returned (.string ⟨l.toArray⟩) ∧ Below w.heap.size w w' := by
  have HS := Lib.hid (Try.stringslite_Clone ⟨l.toArray⟩ w (by rw [ba_size]; omega))
  clear hs
  go_enter Try.func51, Try.ntmps51
  go_wp2_with (go_at_call 77; (with_reducible refine HS.out.mono ?_); rintro e w' ⟨rfl, hb⟩)
  go_ret
  exact ⟨rfl, hb⟩
/-- A set of names in a map. -/
def SeenS (w : World) (b : Nat) (vs : List Nm) : Prop := ∃ g, MapV w 9 b vs.length g ∧ ∀ s : Nm, g (.string ⟨s.toArray⟩) = if s ∈ vs then some (.agg #[]) else none
theorem strV_inj {a b : Nm} (h : Value.string ⟨a.toArray⟩ = Value.string ⟨b.toArray⟩) : a = b := by
  injection h with h
  injection h with h
  simpa using h
theorem SeenS.made (w : World) : SeenS (w.alloc (.map #[] 0)) w.heap.size [] := ⟨_, MapV.made w _, fun _ => rfl⟩
theorem SeenS.fr {w w' : World} {b : Nat} {vs : List Nm} {S : List Nat} (h : SeenS w b vs) (hf : Fr w w' S) (hS : b ∉ S) : SeenS w' b vs := by
  obtain ⟨g, h, hg⟩ := h
  exact ⟨g, h.fr hf hS, hg⟩
theorem SeenS.below {w w' : World} {b : Nat} {vs : List Nm} (h : SeenS w b vs) (hb : Below w.heap.size w w') : SeenS w' b vs := h.fr (Fr.of_below hb []) (by simp)
theorem zeroUnit (w : World) : (zeroValue 112).run Try.prog w = .ok (.agg #[]) w := by kernel_rfl
theorem SeenS.lt {w : World} {b : Nat} {vs : List Nm} (h : SeenS w b vs) : b < w.heap.size := by
  obtain ⟨g, h, _⟩ := h
  exact h.lt
theorem MapV.apart {w : World} {k : TypeId} {b n : Nat} {g : Value → Option Value} (h : MapV w k b n g) {base size m : Nat} {e : TypeId} {v : Value} {xs : List Value} (ho : w.ownsRow base e size v m xs) : b ∉ v.ownBlock.toList := by
  intro hm
  obtain ⟨D, ⟨es, clock, hb, _⟩, _⟩ := h
  rcases ho.2 with ⟨hv, _⟩ | ⟨q, cap, cur, hv, _, hq, _⟩
  · rw [hv] at hm; simp [Value.ownBlock] at hm
  · rw [hv] at hm
    simp [Value.ownBlock] at hm
    subst hm
    rw [hb] at hq
    cases hq
/-- Where Vars is. -/
structure VarsAt (w wr : World) (b : Nat) (v : Value) (vs : List Nm) : Prop where
  row : wr.ownsRow w.heap.size 9 1 v vs.length (strs vs)
  seen : SeenS wr b vs
  lo : w.heap.size ≤ b
  below : Below w.heap.size w wr
  len : vs.length ≤ 200
theorem VarsAt.kept {w wr w' : World} {b : Nat} {v : Value} {vs : List Nm} (h : VarsAt w wr b v vs) (hb : Below wr.heap.size wr w') : VarsAt w w' b v vs :=
  ⟨own_below h.row hb (Nat.le_refl _), h.seen.below hb, h.lo, h.below.trans (lower' hb h.below.size), h.len⟩
theorem VarsAt.alloc {w wr : World} {b : Nat} {v : Value} {vs : List Nm} (h : VarsAt w wr b v vs) (o : Obj) : VarsAt w (wr.alloc o) b v vs := h.kept ((Below.refl _ _).alloc (Nat.le_refl _) _)
end Go.Proofs.Ytmldiojlglpoiaa
