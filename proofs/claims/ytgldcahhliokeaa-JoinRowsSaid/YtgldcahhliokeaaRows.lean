/-
  No cell of these rows narrows 'for every input' (looked for: loops, veiled, ifaces, maps, wideKeys, modest, calm, conditions, laid).
  DERIVED. THE GIVEN ROWS OF THIS SEAT. 8 by the template 'for every input the law returns true; each argument reads behind the call as it read before'; 0 by the template 'total and deterministic' (their statements: YtgldcahhliokeaaTotals.lean).
  GIVEN WITH THE SEED: the statements are not yours to turn. If you find one false, say at which input.
  Laid BY PROGRAM, IN A SANDBOX (cutbox-rows.mjs): the forced cells as the released guide's own fill.sh prints them over the translation ad684ed639a33427… (all of the seat's roots in one cut). By AI agents, Wed Nov 11 2026. No macro, syntax, notation, axiom, sorry.
-/
import Derived.Test.YtgldcahhliokeaaChecked
import GoSem.Claim
import GoSem.ClaimJoined
import GoSem.ClaimMapViews
import Derived.JoinedTies
import Derived.KernelRfl
namespace Go.Proofs.Ytgldcahhliokeaa
/- THE CELL 'sum', in the pinned program and in every row, IS THE sha256 OF THE DUMP (.gsa) THAT YtgldcahhliokeaaProg.lean LOADS. Nothing in Lean hashes anything: it is a label: what it is worth is what the hold of that sum in a sandbox is worth. -/
noncomputable def Try.pinned : Pinned := { name := "ytgldcahhliokeaa", sum := "ad684ed639a334274c84c911e477f77cd2e501d418b8801cc899a242f52e9636", checked := Try.checked }
namespace Rows
def none {H : Type} : Left H := { results := [], args := [] }

/-- 'rhizomelaw11.JoinRows': WHATEVER THE INPUT: true; the input reads as it did. -/
def joinRowsSpec : ChangeSpec := { name := "joinRows", fn := fun _ => fun
  | [d1, d2] => { results := [.lit (.bool true)], args := [d1, d2] }
  | _ => none }
def joinRowsRow : OpenClaim := { program := "ytgldcahhliokeaa", sum := "ad684ed639a334274c84c911e477f77cd2e501d418b8801cc899a242f52e9636", func := "rhizome/rhizomelaw11.JoinRows", spec := "joinRows", unfollowed := true, recurses := true, plainKeys := false, apart := false }
def JoinRowsSaid : Prop := joinRowsRow.holds Try.pinned (OpenSpec.ofChange joinRowsSpec)

/-- ITS FALSE NEIGHBOUR: 'it returns false'. Refute it at one input. -/
def joinRowsWrong : ChangeSpec := { name := "joinRows", fn := fun _ => fun
  | [d1, d2] => { results := [.lit (.bool false)], args := [d1, d2] }
  | _ => none }
def JoinRowsWrongFalsely : Prop := joinRowsRow.holds Try.pinned (OpenSpec.ofChange joinRowsWrong)

/-- 'rhizomelaw13.SpanPairs': WHATEVER THE INPUT: true; the input reads as it did. -/
def spanPairsSpec : ChangeSpec := { name := "spanPairs", fn := fun _ => fun
  | [d1, d2] => { results := [.lit (.bool true)], args := [d1, d2] }
  | _ => none }
def spanPairsRow : OpenClaim := { program := "ytgldcahhliokeaa", sum := "ad684ed639a334274c84c911e477f77cd2e501d418b8801cc899a242f52e9636", func := "rhizome/rhizomelaw13.SpanPairs", spec := "spanPairs", unfollowed := true, recurses := true, plainKeys := false, apart := false }
def SpanPairsSaid : Prop := spanPairsRow.holds Try.pinned (OpenSpec.ofChange spanPairsSpec)

/-- ITS FALSE NEIGHBOUR: 'it returns false'. Refute it at one input. -/
def spanPairsWrong : ChangeSpec := { name := "spanPairs", fn := fun _ => fun
  | [d1, d2] => { results := [.lit (.bool false)], args := [d1, d2] }
  | _ => none }
def SpanPairsWrongFalsely : Prop := spanPairsRow.holds Try.pinned (OpenSpec.ofChange spanPairsWrong)

/-- 'rhizomelaw13.SpanWays': WHATEVER THE INPUT: true; the input reads as it did. -/
def spanWaysSpec : ChangeSpec := { name := "spanWays", fn := fun _ => fun
  | [d1, d2, d3] => { results := [.lit (.bool true)], args := [d1, d2, d3] }
  | _ => none }
def spanWaysRow : OpenClaim := { program := "ytgldcahhliokeaa", sum := "ad684ed639a334274c84c911e477f77cd2e501d418b8801cc899a242f52e9636", func := "rhizome/rhizomelaw13.SpanWays", spec := "spanWays", unfollowed := true, recurses := true, plainKeys := false, apart := false }
def SpanWaysSaid : Prop := spanWaysRow.holds Try.pinned (OpenSpec.ofChange spanWaysSpec)

/-- ITS FALSE NEIGHBOUR: 'it returns false'. Refute it at one input. -/
def spanWaysWrong : ChangeSpec := { name := "spanWays", fn := fun _ => fun
  | [d1, d2, d3] => { results := [.lit (.bool false)], args := [d1, d2, d3] }
  | _ => none }
def SpanWaysWrongFalsely : Prop := spanWaysRow.holds Try.pinned (OpenSpec.ofChange spanWaysWrong)

/-- 'rhizomelaw13.SpanRings': WHATEVER THE INPUT: true; the input reads as it did. -/
def spanRingsSpec : ChangeSpec := { name := "spanRings", fn := fun _ => fun
  | [d1, d2] => { results := [.lit (.bool true)], args := [d1, d2] }
  | _ => none }
def spanRingsRow : OpenClaim := { program := "ytgldcahhliokeaa", sum := "ad684ed639a334274c84c911e477f77cd2e501d418b8801cc899a242f52e9636", func := "rhizome/rhizomelaw13.SpanRings", spec := "spanRings", unfollowed := true, recurses := true, plainKeys := false, apart := false }
def SpanRingsSaid : Prop := spanRingsRow.holds Try.pinned (OpenSpec.ofChange spanRingsSpec)

/-- ITS FALSE NEIGHBOUR: 'it returns false'. Refute it at one input. -/
def spanRingsWrong : ChangeSpec := { name := "spanRings", fn := fun _ => fun
  | [d1, d2] => { results := [.lit (.bool false)], args := [d1, d2] }
  | _ => none }
def SpanRingsWrongFalsely : Prop := spanRingsRow.holds Try.pinned (OpenSpec.ofChange spanRingsWrong)

/-- 'rhizomelaw13.SpanWalks': WHATEVER THE INPUT: true; the input reads as it did. -/
def spanWalksSpec : ChangeSpec := { name := "spanWalks", fn := fun _ => fun
  | [d1, d2] => { results := [.lit (.bool true)], args := [d1, d2] }
  | _ => none }
def spanWalksRow : OpenClaim := { program := "ytgldcahhliokeaa", sum := "ad684ed639a334274c84c911e477f77cd2e501d418b8801cc899a242f52e9636", func := "rhizome/rhizomelaw13.SpanWalks", spec := "spanWalks", unfollowed := true, recurses := true, plainKeys := false, apart := false }
def SpanWalksSaid : Prop := spanWalksRow.holds Try.pinned (OpenSpec.ofChange spanWalksSpec)

/-- ITS FALSE NEIGHBOUR: 'it returns false'. Refute it at one input. -/
def spanWalksWrong : ChangeSpec := { name := "spanWalks", fn := fun _ => fun
  | [d1, d2] => { results := [.lit (.bool false)], args := [d1, d2] }
  | _ => none }
def SpanWalksWrongFalsely : Prop := spanWalksRow.holds Try.pinned (OpenSpec.ofChange spanWalksWrong)

/-- 'rhizomelaw13.SpanMore': WHATEVER THE INPUT: true; the input reads as it did. -/
def spanMoreSpec : ChangeSpec := { name := "spanMore", fn := fun _ => fun
  | [d1, d2] => { results := [.lit (.bool true)], args := [d1, d2] }
  | _ => none }
def spanMoreRow : OpenClaim := { program := "ytgldcahhliokeaa", sum := "ad684ed639a334274c84c911e477f77cd2e501d418b8801cc899a242f52e9636", func := "rhizome/rhizomelaw13.SpanMore", spec := "spanMore", unfollowed := true, recurses := true, plainKeys := false, apart := false }
def SpanMoreSaid : Prop := spanMoreRow.holds Try.pinned (OpenSpec.ofChange spanMoreSpec)

/-- ITS FALSE NEIGHBOUR: 'it returns false'. Refute it at one input. -/
def spanMoreWrong : ChangeSpec := { name := "spanMore", fn := fun _ => fun
  | [d1, d2] => { results := [.lit (.bool false)], args := [d1, d2] }
  | _ => none }
def SpanMoreWrongFalsely : Prop := spanMoreRow.holds Try.pinned (OpenSpec.ofChange spanMoreWrong)

/-- 'rhizomelaw13.SpanGreat': WHATEVER THE INPUT: true; the input reads as it did. -/
def spanGreatSpec : ChangeSpec := { name := "spanGreat", fn := fun _ => fun
  | [d] => { results := [.lit (.bool true)], args := [d] }
  | _ => none }
def spanGreatRow : OpenClaim := { program := "ytgldcahhliokeaa", sum := "ad684ed639a334274c84c911e477f77cd2e501d418b8801cc899a242f52e9636", func := "rhizome/rhizomelaw13.SpanGreat", spec := "spanGreat", unfollowed := true, recurses := true, plainKeys := false, apart := false }
def SpanGreatSaid : Prop := spanGreatRow.holds Try.pinned (OpenSpec.ofChange spanGreatSpec)

/-- ITS FALSE NEIGHBOUR: 'it returns false'. Refute it at one input. -/
def spanGreatWrong : ChangeSpec := { name := "spanGreat", fn := fun _ => fun
  | [d] => { results := [.lit (.bool false)], args := [d] }
  | _ => none }
def SpanGreatWrongFalsely : Prop := spanGreatRow.holds Try.pinned (OpenSpec.ofChange spanGreatWrong)

/-- 'rhizomelaw13.SpanRow': WHATEVER THE INPUT: true; the input reads as it did. -/
def spanRowSpec : ChangeSpec := { name := "spanRow", fn := fun _ => fun
  | [d1, d2, d3] => { results := [.lit (.bool true)], args := [d1, d2, d3] }
  | _ => none }
def spanRowRow : OpenClaim := { program := "ytgldcahhliokeaa", sum := "ad684ed639a334274c84c911e477f77cd2e501d418b8801cc899a242f52e9636", func := "rhizome/rhizomelaw13.SpanRow", spec := "spanRow", unfollowed := true, recurses := true, plainKeys := false, apart := false }
def SpanRowSaid : Prop := spanRowRow.holds Try.pinned (OpenSpec.ofChange spanRowSpec)

/-- ITS FALSE NEIGHBOUR: 'it returns false'. Refute it at one input. -/
def spanRowWrong : ChangeSpec := { name := "spanRow", fn := fun _ => fun
  | [d1, d2, d3] => { results := [.lit (.bool false)], args := [d1, d2, d3] }
  | _ => none }
def SpanRowWrongFalsely : Prop := spanRowRow.holds Try.pinned (OpenSpec.ofChange spanRowWrong)

/- THE SECOND FORM. 'bulk': how many values and letters a reading holds, each counted each time it is reached (what is shared counts as often as it is met; a slice's spare places count too). A statement '..UptoSaid' is the law's where the arguments, and the package variables that the reading takes, are together of bulk at most 1048576: NARROWER than '..Said'. Prove '..Said' where nothing that the law and all that it calls make is longer than what came in: it says more and counts as full. Else prove '..UptoSaid'. A law counts once. -/
mutual
def uptoBulk {H : Type} : DataW H → Nat
  | .lit (.string bytes) => bytes.length + 1
  | .lit _ => 1
  | .nil => 1
  | .ptr d => uptoBulk d + 1
  | .slice elems spare => uptoBulkAll elems + uptoBulkAll spare + 1
  | .agg parts => uptoBulkAll parts + 1
  | .iface _ d => uptoBulk d + 1
  | .map entries => uptoBulkEntries entries + 1
  | .held _ => 1
def uptoBulkAll {H : Type} : List (DataW H) → Nat
  | [] => 0
  | d :: r => uptoBulk d + uptoBulkAll r
def uptoBulkEntries {H : Type} : List (Lit × DataW H) → Nat
  | [] => 0
  | x :: r => uptoBulkEntry x + uptoBulkEntries r
def uptoBulkEntry {H : Type} : Lit × DataW H → Nat
  | (.string bytes, d) => bytes.length + uptoBulk d + 1
  | (_, d) => uptoBulk d + 1
 end
def uptoSmall : (H : Type) → List (DataW H) → Bool := fun _ ds => decide (uptoBulkAll ds ≤ 1048576)
def OpenSpec.upto (s : _root_.Go.ChangeSpec) : _root_.Go.OpenSpec := { _root_.Go.OpenSpec.ofChange s with cond := some uptoSmall }

/-- 'rhizomelaw11.JoinRows', WHERE WHAT IT READS IS OF BULK AT MOST 1048576: true; the input reads as it did. -/
def joinRowsUptoRow : OpenClaim := { program := "ytgldcahhliokeaa", sum := "ad684ed639a334274c84c911e477f77cd2e501d418b8801cc899a242f52e9636", func := "rhizome/rhizomelaw11.JoinRows", spec := "joinRows", unfollowed := true, recurses := true, plainKeys := false, apart := false, narrowed := true }
def JoinRowsUptoSaid : Prop := joinRowsUptoRow.holds Try.pinned (OpenSpec.upto joinRowsSpec)

/-- 'rhizomelaw13.SpanPairs', WHERE WHAT IT READS IS OF BULK AT MOST 1048576: true; the input reads as it did. -/
def spanPairsUptoRow : OpenClaim := { program := "ytgldcahhliokeaa", sum := "ad684ed639a334274c84c911e477f77cd2e501d418b8801cc899a242f52e9636", func := "rhizome/rhizomelaw13.SpanPairs", spec := "spanPairs", unfollowed := true, recurses := true, plainKeys := false, apart := false, narrowed := true }
def SpanPairsUptoSaid : Prop := spanPairsUptoRow.holds Try.pinned (OpenSpec.upto spanPairsSpec)

/-- 'rhizomelaw13.SpanWays', WHERE WHAT IT READS IS OF BULK AT MOST 1048576: true; the input reads as it did. -/
def spanWaysUptoRow : OpenClaim := { program := "ytgldcahhliokeaa", sum := "ad684ed639a334274c84c911e477f77cd2e501d418b8801cc899a242f52e9636", func := "rhizome/rhizomelaw13.SpanWays", spec := "spanWays", unfollowed := true, recurses := true, plainKeys := false, apart := false, narrowed := true }
def SpanWaysUptoSaid : Prop := spanWaysUptoRow.holds Try.pinned (OpenSpec.upto spanWaysSpec)

/-- 'rhizomelaw13.SpanRings', WHERE WHAT IT READS IS OF BULK AT MOST 1048576: true; the input reads as it did. -/
def spanRingsUptoRow : OpenClaim := { program := "ytgldcahhliokeaa", sum := "ad684ed639a334274c84c911e477f77cd2e501d418b8801cc899a242f52e9636", func := "rhizome/rhizomelaw13.SpanRings", spec := "spanRings", unfollowed := true, recurses := true, plainKeys := false, apart := false, narrowed := true }
def SpanRingsUptoSaid : Prop := spanRingsUptoRow.holds Try.pinned (OpenSpec.upto spanRingsSpec)

/-- 'rhizomelaw13.SpanWalks', WHERE WHAT IT READS IS OF BULK AT MOST 1048576: true; the input reads as it did. -/
def spanWalksUptoRow : OpenClaim := { program := "ytgldcahhliokeaa", sum := "ad684ed639a334274c84c911e477f77cd2e501d418b8801cc899a242f52e9636", func := "rhizome/rhizomelaw13.SpanWalks", spec := "spanWalks", unfollowed := true, recurses := true, plainKeys := false, apart := false, narrowed := true }
def SpanWalksUptoSaid : Prop := spanWalksUptoRow.holds Try.pinned (OpenSpec.upto spanWalksSpec)

/-- 'rhizomelaw13.SpanMore', WHERE WHAT IT READS IS OF BULK AT MOST 1048576: true; the input reads as it did. -/
def spanMoreUptoRow : OpenClaim := { program := "ytgldcahhliokeaa", sum := "ad684ed639a334274c84c911e477f77cd2e501d418b8801cc899a242f52e9636", func := "rhizome/rhizomelaw13.SpanMore", spec := "spanMore", unfollowed := true, recurses := true, plainKeys := false, apart := false, narrowed := true }
def SpanMoreUptoSaid : Prop := spanMoreUptoRow.holds Try.pinned (OpenSpec.upto spanMoreSpec)

/-- 'rhizomelaw13.SpanGreat', WHERE WHAT IT READS IS OF BULK AT MOST 1048576: true; the input reads as it did. -/
def spanGreatUptoRow : OpenClaim := { program := "ytgldcahhliokeaa", sum := "ad684ed639a334274c84c911e477f77cd2e501d418b8801cc899a242f52e9636", func := "rhizome/rhizomelaw13.SpanGreat", spec := "spanGreat", unfollowed := true, recurses := true, plainKeys := false, apart := false, narrowed := true }
def SpanGreatUptoSaid : Prop := spanGreatUptoRow.holds Try.pinned (OpenSpec.upto spanGreatSpec)

/-- 'rhizomelaw13.SpanRow', WHERE WHAT IT READS IS OF BULK AT MOST 1048576: true; the input reads as it did. -/
def spanRowUptoRow : OpenClaim := { program := "ytgldcahhliokeaa", sum := "ad684ed639a334274c84c911e477f77cd2e501d418b8801cc899a242f52e9636", func := "rhizome/rhizomelaw13.SpanRow", spec := "spanRow", unfollowed := true, recurses := true, plainKeys := false, apart := false, narrowed := true }
def SpanRowUptoSaid : Prop := spanRowUptoRow.holds Try.pinned (OpenSpec.upto spanRowSpec)

end Rows
end Go.Proofs.Ytgldcahhliokeaa
