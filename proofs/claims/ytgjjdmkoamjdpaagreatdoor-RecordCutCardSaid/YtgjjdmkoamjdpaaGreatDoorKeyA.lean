/- KeyA, what this seat can fill of it. -/
import Derived.Test.YtgjjdmkoamjdpaaGreatDoorProg
import Derived.Test.YtgjjdmkoamjdpaaGreatDoorMem
import Derived.WalkKit
import Derived.WalkSpells
import Derived.WalkLawsBesides
import Derived.KernelRfl
import Derived.Lib.Hide
namespace Go.Proofs.YtgjjdmkoamjdpaaGreatDoor
set_option maxRecDepth 100000
/- The contracts of key.End, of its document's answer, and of what they call. -/
open Go.RowKit

theorem kinfoU8 : (Tryz.prog.info? 5).map (fun i => (i.zero, i.size, i.bytes)) = some (some (.int .u8 0), 1, 1) := by kernel_rfl

/-- The document's answer: the last byte that can be raised is raised, what is behind it goes. -/
def endN (l : List UInt8) : Nat → List UInt8
  | 0 => []
  | n + 1 => if l.getD n 0 < 255 then (l.take (n + 1)).set n (l.getD n 0 + 1) else endN l n

theorem endN_hit (l : List UInt8) (k : Nat) (h0 : k < l.length) (h : ((l[k]).toNat : Int) < 255) : endN l (k + 1) = (l.take (k + 1)).set k (l[k] + 1) := by
  have e : l.getD k 0 = l[k] := by simp [List.getD, List.getElem?_eq_getElem h0]
  rw [endN, e, if_pos (by rw [UInt8.lt_iff_toNat_lt]; simp; omega)]
theorem endN_miss (l : List UInt8) (k : Nat) (h0 : k < l.length) (h : ¬ ((l[k]).toNat : Int) < 255) : endN l (k + 1) = endN l k := by
  have e : l.getD k 0 = l[k] := by simp [List.getD, List.getElem?_eq_getElem h0]
  rw [endN, e, if_neg (by rw [UInt8.lt_iff_toNat_lt]; simp; omega)]

end Go.Proofs.YtgjjdmkoamjdpaaGreatDoor
