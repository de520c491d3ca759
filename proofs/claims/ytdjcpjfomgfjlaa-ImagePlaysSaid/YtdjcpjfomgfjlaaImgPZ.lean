/- ImagePlays: its switch, taken out of the law's text; where an arm of it begins. -/
import Derived.Test.YtdjcpjfomgfjlaaImgZ
import Derived.Test.YtdjcpjfomgfjlaaJnA
namespace Go.Proofs.Ytdjcpjfomgfjlaa
open Go.RowKit Go.Maps

def firstBlk (k : Nat) : Code → Option Code
  | .block n c => if n = k then some (.block n c) else firstBlk k c
  | .loop c => firstBlk k c
  | .scope c => firstBlk k c
  | .seq a b => match firstBlk k a with
    | some c => some c
    | none => firstBlk k b
  | .cond _ a b => match firstBlk k a with
    | some c => some c
    | none => firstBlk k b
  | _ => none
noncomputable def ipSw : Code := ((Try.f5.body.bind (firstBlk 2)).getD .skip)
/-- Where an arm of the switch begins. -/
structure Arm (W0 w W8 : World) (ba bx bo p bs bw q m T first count j : Nat) (M : DM) (o : OpL) : Prop where
  tl : T ≤ 5000 * j
  jl : j < 40
  st : St W0 W8 bx p bs bw q m T first count M M
  op : W8.heap[bo]? = some (.cells #[.int .i64 o.kind, .int .i64 o.n, .int .i64 o.cut, .slice o.b.A o.b.l.length o.b.c, .slice o.KA o.keep.length o.kc] 74 (0, 0))
  off : bo ≠ p ∧ bo ≠ bs ∧ bo ≠ bw ∧ bo ≠ bx
  ok : o.ok w w.heap.size
  low : ∀ W, Below W0.heap.size W0 W → Below w.heap.size w W
  area : W0.heap[ba]? = some (.cells #[.int .i64 (m : Int), .int .i64 (first : Int), .int .i64 (count : Int)] 23 (0, 0))
  fit : first + 2 * count ≤ m
  two : 2 ≤ count
  m40 : m ≤ 40
  lo : W0.heap.size ≤ bo
/-- Whoever does not leave a statement but at its end does not, whatever is asked of a way out. -/
theorem wp_noway {P : Program} {c : Code} {K : Act → World → Prop} {Q : Exit → Act → World → Prop} {a : Act} {w : World} (h : Code.wp P c (Exit.then K (fun _ _ _ => False)) a w) : Code.wp P c (Exit.then K Q) a w := by
  refine Code.wp_mono ?_ h
  intro e a' w' hq
  cases e with
  | normal => exact hq
  | exit id => exact hq.elim
  | goto l => exact hq.elim
  | ret => exact hq.elim
  | panic ch => exact hq.elim
  | outgrown => exact hq.elim
end Go.Proofs.Ytdjcpjfomgfjlaa
