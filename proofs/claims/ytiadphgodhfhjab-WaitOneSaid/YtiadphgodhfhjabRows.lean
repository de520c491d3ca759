/-
  No cell of these rows narrows 'for every input' (looked for: loops, veiled, ifaces, maps, wideKeys, modest, calm, conditions, laid).
  DERIVED. THE GIVEN ROWS OF THIS SEAT. 6 by the template 'for every input the law returns true; each argument reads behind the call as it read before'; 0 by the template 'total and deterministic' (their statements: YtiadphgodhfhjabTotals.lean).
  GIVEN WITH THE SEED: the statements are not yours to turn. If you find one false, say at which input.
  Laid BY PROGRAM, IN A SANDBOX (cutbox-rows.mjs): the forced cells as the released guide's own fill.sh prints them over the translation 7eb938bf6e4b4958… (all of the seat's roots in one cut). By AI agents, Wed Nov 11 2026. No macro, syntax, notation, axiom, sorry.
-/
import Derived.Test.YtiadphgodhfhjabChecked
import GoSem.Claim
import GoSem.ClaimJoined
import GoSem.ClaimMapViews
import Derived.JoinedTies
import Derived.KernelRfl
namespace Go.Proofs.Ytiadphgodhfhjab
/- THE CELL 'sum', in the pinned program and in every row, IS THE sha256 OF THE DUMP (.gsa) THAT YtiadphgodhfhjabProg.lean LOADS. Nothing in Lean hashes anything: it is a label: what it is worth is what the hold of that sum in a sandbox is worth. -/
noncomputable def Try.pinned : Pinned := { name := "ytiadphgodhfhjab", sum := "7eb938bf6e4b4958ae7b6fa21e61151c4c5b679b12fcc3b198cdddb507c0de6b", checked := Try.checked }
namespace Rows
def none {H : Type} : Left H := { results := [], args := [] }

/-- 'rhizomelaw17.WaitCaught': WHATEVER THE INPUT: true; the input reads as it did. -/
def waitCaughtSpec : ChangeSpec := { name := "waitCaught", fn := fun _ => fun
  | [d] => { results := [.lit (.bool true)], args := [d] }
  | _ => none }
def waitCaughtRow : OpenClaim := { program := "ytiadphgodhfhjab", sum := "7eb938bf6e4b4958ae7b6fa21e61151c4c5b679b12fcc3b198cdddb507c0de6b", func := "rhizome/rhizomelaw17.WaitCaught", spec := "waitCaught", unfollowed := true, recurses := true, apart := false }
def WaitCaughtSaid : Prop := waitCaughtRow.holds Try.pinned (OpenSpec.ofChange waitCaughtSpec)

/-- ITS FALSE NEIGHBOUR: 'it returns false'. Refute it at one input. -/
def waitCaughtWrong : ChangeSpec := { name := "waitCaught", fn := fun _ => fun
  | [d] => { results := [.lit (.bool false)], args := [d] }
  | _ => none }
def WaitCaughtWrongFalsely : Prop := waitCaughtRow.holds Try.pinned (OpenSpec.ofChange waitCaughtWrong)

/-- 'rhizomelaw17.WaitRings': WHATEVER THE INPUT: true; the input reads as it did. -/
def waitRingsSpec : ChangeSpec := { name := "waitRings", fn := fun _ => fun
  | [d1, d2] => { results := [.lit (.bool true)], args := [d1, d2] }
  | _ => none }
def waitRingsRow : OpenClaim := { program := "ytiadphgodhfhjab", sum := "7eb938bf6e4b4958ae7b6fa21e61151c4c5b679b12fcc3b198cdddb507c0de6b", func := "rhizome/rhizomelaw17.WaitRings", spec := "waitRings", unfollowed := true, recurses := true, apart := false }
def WaitRingsSaid : Prop := waitRingsRow.holds Try.pinned (OpenSpec.ofChange waitRingsSpec)

/-- ITS FALSE NEIGHBOUR: 'it returns false'. Refute it at one input. -/
def waitRingsWrong : ChangeSpec := { name := "waitRings", fn := fun _ => fun
  | [d1, d2] => { results := [.lit (.bool false)], args := [d1, d2] }
  | _ => none }
def WaitRingsWrongFalsely : Prop := waitRingsRow.holds Try.pinned (OpenSpec.ofChange waitRingsWrong)

/-- 'rhizomelaw17.WaitVictims': WHATEVER THE INPUT: true; the input reads as it did. -/
def waitVictimsSpec : ChangeSpec := { name := "waitVictims", fn := fun _ => fun
  | [d1, d2] => { results := [.lit (.bool true)], args := [d1, d2] }
  | _ => none }
def waitVictimsRow : OpenClaim := { program := "ytiadphgodhfhjab", sum := "7eb938bf6e4b4958ae7b6fa21e61151c4c5b679b12fcc3b198cdddb507c0de6b", func := "rhizome/rhizomelaw17.WaitVictims", spec := "waitVictims", unfollowed := true, recurses := true, apart := false }
def WaitVictimsSaid : Prop := waitVictimsRow.holds Try.pinned (OpenSpec.ofChange waitVictimsSpec)

/-- ITS FALSE NEIGHBOUR: 'it returns false'. Refute it at one input. -/
def waitVictimsWrong : ChangeSpec := { name := "waitVictims", fn := fun _ => fun
  | [d1, d2] => { results := [.lit (.bool false)], args := [d1, d2] }
  | _ => none }
def WaitVictimsWrongFalsely : Prop := waitVictimsRow.holds Try.pinned (OpenSpec.ofChange waitVictimsWrong)

/-- 'rhizomelaw17.WaitBroken': WHATEVER THE INPUT: true; the input reads as it did. -/
def waitBrokenSpec : ChangeSpec := { name := "waitBroken", fn := fun _ => fun
  | [d1, d2] => { results := [.lit (.bool true)], args := [d1, d2] }
  | _ => none }
def waitBrokenRow : OpenClaim := { program := "ytiadphgodhfhjab", sum := "7eb938bf6e4b4958ae7b6fa21e61151c4c5b679b12fcc3b198cdddb507c0de6b", func := "rhizome/rhizomelaw17.WaitBroken", spec := "waitBroken", unfollowed := true, recurses := true, apart := false }
def WaitBrokenSaid : Prop := waitBrokenRow.holds Try.pinned (OpenSpec.ofChange waitBrokenSpec)

/-- ITS FALSE NEIGHBOUR: 'it returns false'. Refute it at one input. -/
def waitBrokenWrong : ChangeSpec := { name := "waitBroken", fn := fun _ => fun
  | [d1, d2] => { results := [.lit (.bool false)], args := [d1, d2] }
  | _ => none }
def WaitBrokenWrongFalsely : Prop := waitBrokenRow.holds Try.pinned (OpenSpec.ofChange waitBrokenWrong)

/-- 'rhizomelaw17.WaitOne': WHATEVER THE INPUT: true; the input reads as it did. -/
def waitOneSpec : ChangeSpec := { name := "waitOne", fn := fun _ => fun
  | [d1, d2] => { results := [.lit (.bool true)], args := [d1, d2] }
  | _ => none }
def waitOneRow : OpenClaim := { program := "ytiadphgodhfhjab", sum := "7eb938bf6e4b4958ae7b6fa21e61151c4c5b679b12fcc3b198cdddb507c0de6b", func := "rhizome/rhizomelaw17.WaitOne", spec := "waitOne", unfollowed := true, recurses := true, apart := false }
def WaitOneSaid : Prop := waitOneRow.holds Try.pinned (OpenSpec.ofChange waitOneSpec)

/-- ITS FALSE NEIGHBOUR: 'it returns false'. Refute it at one input. -/
def waitOneWrong : ChangeSpec := { name := "waitOne", fn := fun _ => fun
  | [d1, d2] => { results := [.lit (.bool false)], args := [d1, d2] }
  | _ => none }
def WaitOneWrongFalsely : Prop := waitOneRow.holds Try.pinned (OpenSpec.ofChange waitOneWrong)

/-- 'rhizomelaw17.WaitMore': WHATEVER THE INPUT: true; the input reads as it did. -/
def waitMoreSpec : ChangeSpec := { name := "waitMore", fn := fun _ => fun
  | [d1, d2] => { results := [.lit (.bool true)], args := [d1, d2] }
  | _ => none }
def waitMoreRow : OpenClaim := { program := "ytiadphgodhfhjab", sum := "7eb938bf6e4b4958ae7b6fa21e61151c4c5b679b12fcc3b198cdddb507c0de6b", func := "rhizome/rhizomelaw17.WaitMore", spec := "waitMore", unfollowed := true, recurses := true, apart := false }
def WaitMoreSaid : Prop := waitMoreRow.holds Try.pinned (OpenSpec.ofChange waitMoreSpec)

/-- ITS FALSE NEIGHBOUR: 'it returns false'. Refute it at one input. -/
def waitMoreWrong : ChangeSpec := { name := "waitMore", fn := fun _ => fun
  | [d1, d2] => { results := [.lit (.bool false)], args := [d1, d2] }
  | _ => none }
def WaitMoreWrongFalsely : Prop := waitMoreRow.holds Try.pinned (OpenSpec.ofChange waitMoreWrong)

/- THE SECOND FORM. 'bulk': how many values and letters a reading holds, each counted each time it is reached (what is shared counts as often as it is met; a slice's spare places count too). A statement '..UptoSaid' is the law's where the arguments, and the package variables that the reading takes, are together of bulk at most 1048576: NARROWER than '..Said'. Prove '..Said' where nothing that the law and all that it calls make is longer than what came in: it says more and counts as full. Else prove '..UptoSaid'. A law counts once. -/
mutual
def uptoBulk {H : Type} : DataW H → Nat
  | .lit (.string bytes) => bytes.length + 1
  | .lit _ => 1
  | .nil => 1
  | .ptr d => uptoBulk d + 1
  | .slice elems spare => uptoBulkAll elems + uptoBulkAll spare + 1
  | .agg parts => uptoBulkAll parts + 1
  | .iface _ d => uptoBulk d + 1
  | .map entries => uptoBulkEntries entries + 1
  | .held _ => 1
def uptoBulkAll {H : Type} : List (DataW H) → Nat
  | [] => 0
  | d :: r => uptoBulk d + uptoBulkAll r
def uptoBulkEntries {H : Type} : List (Lit × DataW H) → Nat
  | [] => 0
  | x :: r => uptoBulkEntry x + uptoBulkEntries r
def uptoBulkEntry {H : Type} : Lit × DataW H → Nat
  | (.string bytes, d) => bytes.length + uptoBulk d + 1
  | (_, d) => uptoBulk d + 1
 end
def uptoSmall : (H : Type) → List (DataW H) → Bool := fun _ ds => decide (uptoBulkAll ds ≤ 1048576)
def OpenSpec.upto (s : _root_.Go.ChangeSpec) : _root_.Go.OpenSpec := { _root_.Go.OpenSpec.ofChange s with cond := some uptoSmall }

/-- 'rhizomelaw17.WaitCaught', WHERE WHAT IT READS IS OF BULK AT MOST 1048576: true; the input reads as it did. -/
def waitCaughtUptoRow : OpenClaim := { program := "ytiadphgodhfhjab", sum := "7eb938bf6e4b4958ae7b6fa21e61151c4c5b679b12fcc3b198cdddb507c0de6b", func := "rhizome/rhizomelaw17.WaitCaught", spec := "waitCaught", unfollowed := true, recurses := true, apart := false, narrowed := true }
def WaitCaughtUptoSaid : Prop := waitCaughtUptoRow.holds Try.pinned (OpenSpec.upto waitCaughtSpec)

/-- 'rhizomelaw17.WaitRings', WHERE WHAT IT READS IS OF BULK AT MOST 1048576: true; the input reads as it did. -/
def waitRingsUptoRow : OpenClaim := { program := "ytiadphgodhfhjab", sum := "7eb938bf6e4b4958ae7b6fa21e61151c4c5b679b12fcc3b198cdddb507c0de6b", func := "rhizome/rhizomelaw17.WaitRings", spec := "waitRings", unfollowed := true, recurses := true, apart := false, narrowed := true }
def WaitRingsUptoSaid : Prop := waitRingsUptoRow.holds Try.pinned (OpenSpec.upto waitRingsSpec)

/-- 'rhizomelaw17.WaitVictims', WHERE WHAT IT READS IS OF BULK AT MOST 1048576: true; the input reads as it did. -/
def waitVictimsUptoRow : OpenClaim := { program := "ytiadphgodhfhjab", sum := "7eb938bf6e4b4958ae7b6fa21e61151c4c5b679b12fcc3b198cdddb507c0de6b", func := "rhizome/rhizomelaw17.WaitVictims", spec := "waitVictims", unfollowed := true, recurses := true, apart := false, narrowed := true }
def WaitVictimsUptoSaid : Prop := waitVictimsUptoRow.holds Try.pinned (OpenSpec.upto waitVictimsSpec)

/-- 'rhizomelaw17.WaitBroken', WHERE WHAT IT READS IS OF BULK AT MOST 1048576: true; the input reads as it did. -/
def waitBrokenUptoRow : OpenClaim := { program := "ytiadphgodhfhjab", sum := "7eb938bf6e4b4958ae7b6fa21e61151c4c5b679b12fcc3b198cdddb507c0de6b", func := "rhizome/rhizomelaw17.WaitBroken", spec := "waitBroken", unfollowed := true, recurses := true, apart := false, narrowed := true }
def WaitBrokenUptoSaid : Prop := waitBrokenUptoRow.holds Try.pinned (OpenSpec.upto waitBrokenSpec)

/-- 'rhizomelaw17.WaitOne', WHERE WHAT IT READS IS OF BULK AT MOST 1048576: true; the input reads as it did. -/
def waitOneUptoRow : OpenClaim := { program := "ytiadphgodhfhjab", sum := "7eb938bf6e4b4958ae7b6fa21e61151c4c5b679b12fcc3b198cdddb507c0de6b", func := "rhizome/rhizomelaw17.WaitOne", spec := "waitOne", unfollowed := true, recurses := true, apart := false, narrowed := true }
def WaitOneUptoSaid : Prop := waitOneUptoRow.holds Try.pinned (OpenSpec.upto waitOneSpec)

/-- 'rhizomelaw17.WaitMore', WHERE WHAT IT READS IS OF BULK AT MOST 1048576: true; the input reads as it did. -/
def waitMoreUptoRow : OpenClaim := { program := "ytiadphgodhfhjab", sum := "7eb938bf6e4b4958ae7b6fa21e61151c4c5b679b12fcc3b198cdddb507c0de6b", func := "rhizome/rhizomelaw17.WaitMore", spec := "waitMore", unfollowed := true, recurses := true, apart := false, narrowed := true }
def WaitMoreUptoSaid : Prop := waitMoreUptoRow.holds Try.pinned (OpenSpec.upto waitMoreSpec)

end Rows
end Go.Proofs.Ytiadphgodhfhjab
