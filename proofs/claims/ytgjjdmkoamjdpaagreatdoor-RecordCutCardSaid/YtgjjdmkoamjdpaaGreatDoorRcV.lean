/- Small words that the readers of values want. -/
import Derived.Test.YtgjjdmkoamjdpaaGreatDoorValC
import Derived.Test.YtgjjdmkoamjdpaaGreatDoorFr
namespace Go.Proofs.YtgjjdmkoamjdpaaGreatDoor
open Go.RowKit

theorem vStrAt0 {w : World} {A : Option Addr} {n c B : Nat} {l : List UInt8} (hr : Rd w B A (u8s l)) (hn : n = l.length) :
    (convert 32 9 (.slice A n c)).run Tryz.prog w = .ok (.string ⟨l.toArray⟩) w :=
  run_strB (P := Tryz.prog) w 32 9 5 A n c B l Tryz.underlying32 Tryz.underlying5 Tryz.underlying9 hn hr

theorem vSet3 {w : World} {b : Nat} {t : TypeId} {x0 x1 x2 : Value} (h : w.heap[b]? = some (.cells #[x0, x1, x2] t (0, 0))) (v0 v1 v2 : Value) :
    (((w.setCell ⟨b, 0, none⟩ v0).setCell ⟨b, 1, none⟩ v1).setCell ⟨b, 2, none⟩ v2).heap[b]? = some (.cells #[v0, v1, v2] t (0, 0)) := by
  have h1 := heap_setCell_same w b 0 #[x0, x1, x2] t v0 h
  have h2 := heap_setCell_same _ b 1 _ t v1 h1
  have h3 := heap_setCell_same _ b 2 _ t v2 h2
  simpa using h3
theorem vBelow_set3 {B b : Nat} {a w : World} (h : Below B a w) (hb : B ≤ b) (v0 v1 v2 : Value) : Below B a (((w.setCell ⟨b, 0, none⟩ v0).setCell ⟨b, 1, none⟩ v1).setCell ⟨b, 2, none⟩ v2) :=
  ((h.setCell (p := ⟨b, 0, none⟩) hb _).setCell (p := ⟨b, 1, none⟩) hb _).setCell (p := ⟨b, 2, none⟩) hb _

theorem vAt_old {W : World} {b : Nat} {x : Obj} (h : W.heap[b]? = some x) (o : Obj) (hlt : b < W.heap.size) : (W.alloc o).heap[b]? = some x :=
  ((World.grownBy_alloc W o none).block b hlt (by simp)).trans h

theorem vSize3 (w : World) (b : Nat) (v0 v1 v2 : Value) : (((w.setCell ⟨b, 0, none⟩ v0).setCell ⟨b, 1, none⟩ v1).setCell ⟨b, 2, none⟩ v2).heap.size = w.heap.size := by
  rw [World.size_setCell, World.size_setCell, World.size_setCell]
/-- With nothing that its kind doesn't use. -/
def plainV (v : VVal) : VVal := if v.kind = 2 then ⟨2, 0, v.s⟩ else ⟨v.kind, v.n, ⟨#[]⟩⟩

end Go.Proofs.YtgjjdmkoamjdpaaGreatDoor
