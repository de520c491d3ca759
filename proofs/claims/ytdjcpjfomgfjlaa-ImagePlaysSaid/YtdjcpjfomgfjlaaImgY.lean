/- The document's Save, whatever it answers. -/
import Derived.Test.YtdjcpjfomgfjlaaImgX
namespace Go.Proofs.Ytdjcpjfomgfjlaa
open Go.RowKit Go.Maps

theorem rsave_any (w : World) (X : List Nat) (M : DM) (T : Nat) (v : Value) (hv : RefV w X (refOf M) v) (hk : M.Ok T) (hst : M.steps + 5000 ≤ 1000000000) (hX : ∀ x ∈ X, x < w.heap.size) (hful : M.full) (first count : Nat) (hfit : first + 2 * count ≤ M.size) (hc2 : 2 ≤ count) (s : Int) (d : List UInt8) :
    Calls Try.prog 32 #[v, .int .i64 (first : Int), .int .i64 (count : Int), .int .i64 s, .string ⟨d.toArray⟩] w fun e w' => ∃ v', e = .returned (.tuple #[v', .int .i64 (saveR M first count s d).1]) ∧ RefV w' X (refOf (saveR M first count s d).2) v' ∧ Below w.heap.size w w' := by
  by_cases hb : saveBad M first count s d
  · exact rsave_bad w X M v hv hk.size hful first count hfit hc2 s d hb
  · exact rsave_ok w X M T v hv hk hst hX hful first count hfit hc2 s d hb
end Go.Proofs.Ytdjcpjfomgfjlaa
