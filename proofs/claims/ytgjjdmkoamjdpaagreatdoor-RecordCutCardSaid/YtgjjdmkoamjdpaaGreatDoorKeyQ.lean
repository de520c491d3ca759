/- A part with nothing that its kind doesn't use. -/
import Derived.Test.YtgjjdmkoamjdpaaGreatDoorKeyG
namespace Go.Proofs.YtgjjdmkoamjdpaaGreatDoor
def norm (q : KPart) : KPart := if q.text then ⟨true, q.s, 0⟩ else ⟨false, ⟨#[]⟩, q.n⟩
end Go.Proofs.YtgjjdmkoamjdpaaGreatDoor
