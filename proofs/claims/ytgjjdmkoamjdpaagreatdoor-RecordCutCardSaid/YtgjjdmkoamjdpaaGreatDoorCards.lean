/-
  DERIVED. GIVEN WITH THE SEED: THE CARDS: each row of YtgjjdmkoamjdpaaGreatDoorRows.lean that lists a variable, with what it lists TIED to the program's text (the seventh form; the later family's looks); each row that meets fmt, with fmt's text TOLD by the authors' own Lean function (tested against real Go, not proved from fmt's source: count such statements apart). THE CARD IS WHAT COUNTS. Prove the row's statement (the work); the ties are given (YtgjjdmkoamjdpaaGreatDoorTie.lean); close each card by the builder's one call (the guide's Derived/Test/ToyasCard.lean, 'card_holds'). Laid BY PROGRAM, IN A SANDBOX (cutbox-door.mjs). By AI agents, Wed Nov 11 2026. No macro, syntax, notation, axiom, sorry.
-/
import Derived.Test.YtgjjdmkoamjdpaaGreatDoorRows
import GoSem.ClaimSeven
namespace Go.Proofs.YtgjjdmkoamjdpaaGreatDoor
namespace Rows

/-- THE TIED CARD OF 'rhizomelaw15.RecordWrites'. -/
def recordWritesCard : Claim7 := { stood := { row := recordWritesRow, standIns := [], harness := (true, "c54c1c53b42548ec6ba9befac8210e394faaa778caeb4e73aab80d3c6515e96e"), looks := true }, kinds := [], alts := [], laidByText := true, laidKinds := [.data, .pinned], laidTests := true, laidLooks := .later }
def RecordWritesCardSaid : Prop := Claim7.holds Tryz.pinned (.plain (OpenSpec.ofChange recordWritesSpec)) recordWritesCard

/-- THE TIED CARD OF 'rhizomelaw15.RecordReads'. -/
def recordReadsCard : Claim7 := { stood := { row := recordReadsRow, standIns := [], harness := (true, "c54c1c53b42548ec6ba9befac8210e394faaa778caeb4e73aab80d3c6515e96e"), looks := true }, kinds := [], alts := [], laidByText := true, laidKinds := [.data, .pinned], laidTests := true, laidLooks := .later }
def RecordReadsCardSaid : Prop := Claim7.holds Tryz.pinned (.plain (OpenSpec.ofChange recordReadsSpec)) recordReadsCard

/-- THE TIED CARD OF 'rhizomelaw15.RecordCut'. -/
def recordCutCard : Claim7 := { stood := { row := recordCutRow, standIns := [], harness := (true, "c54c1c53b42548ec6ba9befac8210e394faaa778caeb4e73aab80d3c6515e96e"), looks := true }, kinds := [], alts := [], laidByText := true, laidKinds := [.data, .pinned], laidTests := true, laidLooks := .later }
def RecordCutCardSaid : Prop := Claim7.holds Tryz.pinned (.plain (OpenSpec.ofChange recordCutSpec)) recordCutCard

/-- THE TIED CARD OF 'rhizomelaw15.RecordOwn'. -/
def recordOwnCard : Claim7 := { stood := { row := recordOwnRow, standIns := [], harness := (true, "c54c1c53b42548ec6ba9befac8210e394faaa778caeb4e73aab80d3c6515e96e"), looks := true }, kinds := [], alts := [], laidByText := true, laidKinds := [.data, .pinned], laidTests := true, laidLooks := .later }
def RecordOwnCardSaid : Prop := Claim7.holds Tryz.pinned (.plain (OpenSpec.ofChange recordOwnSpec)) recordOwnCard

/-- THE SECOND FORM's CARD OF 'rhizomelaw15.RecordWrites'. -/
def recordWritesUptoCard : Claim7 := { stood := { row := recordWritesUptoRow, standIns := [], harness := (true, "c54c1c53b42548ec6ba9befac8210e394faaa778caeb4e73aab80d3c6515e96e"), looks := true }, kinds := [], alts := [], laidByText := true, laidKinds := [.data, .pinned], laidTests := true, laidLooks := .later }
def RecordWritesUptoCardSaid : Prop := Claim7.holds Tryz.pinned (.plain (OpenSpec.upto recordWritesSpec)) recordWritesUptoCard

/-- THE SECOND FORM's CARD OF 'rhizomelaw15.RecordReads'. -/
def recordReadsUptoCard : Claim7 := { stood := { row := recordReadsUptoRow, standIns := [], harness := (true, "c54c1c53b42548ec6ba9befac8210e394faaa778caeb4e73aab80d3c6515e96e"), looks := true }, kinds := [], alts := [], laidByText := true, laidKinds := [.data, .pinned], laidTests := true, laidLooks := .later }
def RecordReadsUptoCardSaid : Prop := Claim7.holds Tryz.pinned (.plain (OpenSpec.upto recordReadsSpec)) recordReadsUptoCard

/-- THE SECOND FORM's CARD OF 'rhizomelaw15.RecordCut'. -/
def recordCutUptoCard : Claim7 := { stood := { row := recordCutUptoRow, standIns := [], harness := (true, "c54c1c53b42548ec6ba9befac8210e394faaa778caeb4e73aab80d3c6515e96e"), looks := true }, kinds := [], alts := [], laidByText := true, laidKinds := [.data, .pinned], laidTests := true, laidLooks := .later }
def RecordCutUptoCardSaid : Prop := Claim7.holds Tryz.pinned (.plain (OpenSpec.upto recordCutSpec)) recordCutUptoCard

/-- THE SECOND FORM's CARD OF 'rhizomelaw15.RecordOwn'. -/
def recordOwnUptoCard : Claim7 := { stood := { row := recordOwnUptoRow, standIns := [], harness := (true, "c54c1c53b42548ec6ba9befac8210e394faaa778caeb4e73aab80d3c6515e96e"), looks := true }, kinds := [], alts := [], laidByText := true, laidKinds := [.data, .pinned], laidTests := true, laidLooks := .later }
def RecordOwnUptoCardSaid : Prop := Claim7.holds Tryz.pinned (.plain (OpenSpec.upto recordOwnSpec)) recordOwnUptoCard
end Rows
end Go.Proofs.YtgjjdmkoamjdpaaGreatDoor
