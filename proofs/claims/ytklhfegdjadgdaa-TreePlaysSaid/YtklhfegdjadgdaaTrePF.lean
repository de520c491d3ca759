/- What play leaves. -/
import Derived.Test.YtklhfegdjadgdaaTrePE
namespace Go.Proofs.Ytklhfegdjadgdaa
open Go.RowKit Go.Maps

def PlayPost (lo : Nat) (L : List Pr) (w : World) (e : Ending) (w' : World) : Prop :=
  ∃ (q : Nat) (L' : List Pr) (A' : Option Addr) (c' : Nat), e = .returned (.tuple #[.pointer (some ⟨q, 0, none⟩), .slice A' L'.length c', .bool true]) ∧ TreeW w' lo q L' ∧ RowS w' lo A' c' L' ∧ L'.length ≤ L.length + 1 ∧ Below lo w w'
end Go.Proofs.Ytklhfegdjadgdaa
