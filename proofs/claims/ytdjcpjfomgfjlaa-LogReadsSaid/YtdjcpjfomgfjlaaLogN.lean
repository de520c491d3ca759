/- Records in memory; readAll. -/
import Derived.Test.YtdjcpjfomgfjlaaLogM
namespace Go.Proofs.Ytdjcpjfomgfjlaa
open Go.RowKit Go.Maps

theorem infoRec : (Try.prog.info? 110).map (fun i => (i.zero, i.size, i.bytes)) = some (some (.agg #[.int .i64 0, .slice none 0 0]), 2, 32) := by kernel_rfl
theorem noBytes_log {w : World} {base q p : Nat} {L : LG} {v : Value} (h : LogAt w base q p L v) : NoBytes w q := by
  intro cs fr hg
  rw [h.blk] at hg
  cases hg
/-- A record in memory. -/
structure RecR where
  s : Nat
  A : Option Addr
  d : List UInt8
  c : Nat
def RecR.cells (r : RecR) : List Value := [.int .i64 (r.s : Int), .slice r.A r.d.length r.c]
def recC (R : List RecR) : List Value := R.flatMap RecR.cells
theorem recC_len (R : List RecR) : (recC R).length = R.length * 2 := by
  induction R with
  | nil => rfl
  | cons a R ih => simp only [recC, List.flatMap_cons, List.length_append] at ih ⊢; rw [ih]; simp [RecR.cells]; omega
/-- Records that lie in a row of the call's own. -/
structure RecsAt (w : World) (lo : Nat) (u : Value) (rs : List Rec) : Prop where
  ex : ∃ R : List RecR, R.map (fun r => (r.s, r.d)) = rs ∧ w.ownsRow lo 110 2 u R.length (recC R) ∧ ∀ r ∈ R, DataAt w r.A r.d
theorem RecsAt.fr {w w' : World} {lo : Nat} {u : Value} {rs : List Rec} {S : List Nat} (h : RecsAt w lo u rs) (hf : Fr w w' S) (hS : ∀ s ∈ S, NoBytes w s) (hu : ∀ s ∈ u.ownBlock.toList, s ∉ S) : RecsAt w' lo u rs := by
  obtain ⟨R, h1, h2, h3⟩ := h.ex
  exact ⟨R, h1, rowFrS h2 hf hu, fun r hr => (h3 r hr).fr hf hS⟩
theorem RecsAt.below {w w' : World} {lo : Nat} {u : Value} {rs : List Rec} (h : RecsAt w lo u rs) (hb : Below w.heap.size w w') : RecsAt w' lo u rs := h.fr (Fr.of_below hb []) (by simp) (by simp)
def LG.of (first behind : Nat) (rs : List Rec) : LG := ⟨first, behind, rs, (nextR none rs).getD 1⟩
theorem nextR_snoc (rs : List Rec) (s : Nat) (d : List UInt8) : nextR none (rs ++ [(s, d)]) = some (s + 1) := by rw [nextR_append]; rfl
theorem of_add (first behind : Nat) (rs : List Rec) (s : Nat) (d : List UInt8) : (LG.of first behind rs).add s d = LG.of first behind (rs ++ [(s, d)]) := by
  unfold LG.of LG.add
  rw [nextR_snoc]
  rfl
theorem nextR_some {rs : List Rec} (h : rs ≠ []) : nextR none rs = some ((LG.of 0 0 rs).next) := by
  have : ∀ (rs : List Rec) (nx : Option Nat), rs ≠ [] → ∃ x, nextR nx rs = some x := by
    intro rs
    induction rs with
    | nil => intro nx h; exact absurd rfl h
    | cons y r ih =>
      obtain ⟨s, d⟩ := y
      intro nx _
      by_cases hr : r = []
      · subst hr; exact ⟨s + 1, rfl⟩
      · exact ih (some (s + 1)) hr
  obtain ⟨x, hx⟩ := this rs none h
  unfold LG.of
  rw [hx]
  rfl
end Go.Proofs.Ytdjcpjfomgfjlaa
