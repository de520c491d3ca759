/- KeyP, what this seat can fill of it. -/
import Derived.Test.YtgjjdmkoamjdpaaGreatDoorProg
import Derived.Test.YtgjjdmkoamjdpaaGreatDoorKeyC
import Derived.WalkKit
import Derived.WalkSpells
import Derived.WalkLawsBesides
import Derived.Deep.QuietTactic
import Derived.BigQuiet
import Derived.KernelRfl
import Derived.Lib.Hide
namespace Go.Proofs.YtgjjdmkoamjdpaaGreatDoor
set_option maxRecDepth 100000
/- Rows of parts: own, few, and append of parts onto a row of the call's own. -/
open Go.RowKit

theorem pcs_one (ks : List KPart) : ∀ u ∈ pcs ks, u.oneCell' = true := by
  intro u hu
  obtain ⟨p, _, hp⟩ := List.mem_flatMap.1 hu
  simp only [KPart.cells, List.mem_cons, List.not_mem_nil, or_false] at hp
  rcases hp with rfl | rfl | rfl <;> rfl
theorem pcs_append (a b : List KPart) : pcs (a ++ b) = pcs a ++ pcs b := List.flatMap_append

/-- The slice value v, of the call's own, holds the parts ks (e: the number of their type). -/
def OwnP (w : World) (base : Nat) (e : TypeId) (v : Value) (ks : List KPart) : Prop := w.ownsRow base e 3 v ks.length (pcs ks)

theorem infoPart : (Tryz.prog.info? 150).map (fun i => (i.zero, i.size, i.bytes)) = some (some (.agg #[.bool false, .string ⟨#[]⟩, .int .i64 0]), 3, 32) := by kernel_rfl

def fewN (ks : List KPart) : Nat := (ks.map fun p => p.s.size % 100000).sum
def fewB (ks : List KPart) : Bool := decide (ks.length ≤ 60) && decide (fewN ks ≤ 5000)
theorem fewN_le (ks : List KPart) : fewN ks ≤ ks.length * 99999 := by
  induction ks with
  | nil => simp [fewN]
  | cons p ks ih => simp only [fewN, List.map_cons, List.sum_cons, List.length_cons] at ih ⊢; have := Nat.mod_lt p.s.size (show 100000 > 0 by omega); omega
theorem fewN_append (a b : List KPart) : fewN (a ++ b) = fewN a + fewN b := by simp [fewN]

end Go.Proofs.YtgjjdmkoamjdpaaGreatDoor
