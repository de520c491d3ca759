/- KeyG, what this seat can fill of it. -/
import Derived.Test.YtgjjdmkoamjdpaaGreatDoorProg
import Derived.Test.YtgjjdmkoamjdpaaGreatDoorKeyC
import Derived.Test.YtgjjdmkoamjdpaaGreatDoorKeyP
import Derived.WalkKit
import Derived.WalkSpells
import Derived.WalkLawsBesides
import Derived.Deep.QuietTactic
import Derived.Deep.RegionHeld3
import Derived.BigQuiet
import Derived.KernelRfl
import Derived.Lib.Hide
namespace Go.Proofs.YtgjjdmkoamjdpaaGreatDoor
set_option maxRecDepth 100000
/- KeyBetween's closure and the step of KeyThree: a part appended to a copy of a key. -/
open Go.RowKit

/-- append of parts, at the operation, in a region that draws its order. -/
theorem step_appP {ops : Array Oper} {o : Oper} {a : Act} {K : Act → World → Prop} {Q : Exit → Act → World → Prop} {E : Prop} (w : World) (hw : Region.wanted o (yielded ops a.tmps) = true) (s x : Operand)
    (ho : o.op = .call { callee := .builtin .append, args := #[s, x], argTypes := #[131, 131] }) (base : Nat) (v : Value) (ks : List KPart) (hs : a.eval s = v) (hown : OwnP w base 150 v ks)
    (B : Nat) (A : Option Addr) (m c : Nat) (qs : List KPart) (hx : a.eval x = .slice A m c) (hm : m = qs.length) (hr : Rd w B A (pcs qs)) (hlen : ks.length + qs.length ≤ 4398046511104) (hbase : base ≤ w.heap.size)
    (h : ∀ v' w', OwnP w' base 150 v' (ks ++ qs) → Below base w w' → K (a.put o.dst v') w') :
    if Region.wanted o (yielded ops a.tmps) = true then Oper.wp Tryz.prog o a w K Q else E := by
  rw [if_pos hw]
  subst hm
  obtain ⟨i0, hi, hz0, hz1, hz2⟩ := info_parts infoPart
  obtain ⟨v', w', hrun, h2, h3, _⟩ := run_appR (P := Tryz.prog) w base 131 o.type 150 i0 _ 3 32 Tryz.underlying131 hi hz0 hz1 hz2 rfl (by omega) v _ _ hown B A qs.length c (pcs qs) (pcs_length qs) hr (pcs_one qs) (by omega) (by omega) hbase
  unfold Oper.wp execOp
  simp only [ho, resolve, invoke, builtin, Sem.run_bind, Sem.run_pure, Result.andThen_ok, List.map_toArray, List.map_cons, List.map_nil, hs, hx, hrun]
  refine h v' w' (by unfold OwnP; rw [List.length_append, pcs_append]; exact h2) ((Below.refl _ _).grown h3 hbase (fun k hk => (World.ownsRow.lt hown k hk).1))

theorem OwnP.shape {w : World} {base : Nat} {e : TypeId} {v : Value} {ks : List KPart} (h : OwnP w base e v ks) : ∃ A c, v = .slice A ks.length c ∧ ks.length ≤ c ∧ c ≤ maxLen ∧ Rd w w.heap.size A (pcs ks) := own_shape h
theorem OwnP.alloc {w : World} {base : Nat} {e : TypeId} {v : Value} {ks : List KPart} (h : OwnP w base e v ks) (o : Obj) : OwnP (w.alloc o) base e v ks := World.ownsRow.alloc h o
theorem OwnP.below {w w' : World} {base : Nat} {e : TypeId} {v : Value} {ks : List KPart} (h : OwnP w base e v ks) {B : Nat} (hb : Below B w w') (hB : w.heap.size ≤ B) : OwnP w' base e v ks := own_below h hb hB

theorem fits_snoc {ks : List KPart} {q : KPart} (hf : ∀ p ∈ ks, p.fits) (hq : q.fits) : ∀ p ∈ ks ++ [q], p.fits := by
  intro p hp
  rcases List.mem_append.1 hp with h | h
  · exact hf p h
  · simp at h
    subst h
    exact hq

end Go.Proofs.YtgjjdmkoamjdpaaGreatDoor
