/- What stays of a world; rows and bytes in memory: words that the walks of several layers share. -/
import Derived.Test.YtiadphgodhfhjabProg
import Derived.Test.YtiadphgodhfhjabMem
import Derived.WalkKit
import Derived.WalkSpells
import Derived.WalkLawsBesides
import Derived.WalkSmall
import Derived.Carry
import Derived.Deep.QuietTactic
import Derived.BigQuiet
import Derived.KernelRfl
import Derived.Lib.Hide
import Derived.Lib.SliceRun
import Derived.Deep.RegionHeld3
import Derived.Deep.RegionLaw
import Derived.Deep.RegionWith
import Derived.Deep.OwnRows
namespace Go.Proofs.Ytiadphgodhfhjab
open Go.RowKit Go.Maps

/-- Of the blocks that were there, only these may have turned. -/
structure Fr (w w' : World) (S : List Nat) : Prop where
  os : w'.os = w.os
  tape : w'.tape = w.tape
  output : w'.output = w.output
  size : w.heap.size ≤ w'.heap.size
  block : ∀ k, k < w.heap.size → k ∉ S → w'.heap[k]? = w.heap[k]?
theorem Fr.refl (w : World) (S : List Nat) : Fr w w S := ⟨rfl, rfl, rfl, Nat.le_refl _, fun _ _ _ => rfl⟩
theorem Fr.trans {a b c : World} {S : List Nat} (h : Fr a b S) (k : Fr b c S) : Fr a c S :=
  ⟨k.os.trans h.os, k.tape.trans h.tape, k.output.trans h.output, Nat.le_trans h.size k.size, fun i hi hs => (k.block i (Nat.lt_of_lt_of_le hi h.size) hs).trans (h.block i hi hs)⟩
theorem Fr.more {a b c : World} {S S' : List Nat} (h : Fr a b S) (k : Fr b c S') (hS : ∀ s ∈ S', s ∈ S ∨ a.heap.size ≤ s) : Fr a c S :=
  ⟨k.os.trans h.os, k.tape.trans h.tape, k.output.trans h.output, Nat.le_trans h.size k.size, fun i hi hs => (k.block i (Nat.lt_of_lt_of_le hi h.size) (fun hm => (hS i hm).elim hs (fun h => by omega))).trans (h.block i hi hs)⟩
theorem Fr.mono {w w' : World} {S S' : List Nat} (h : Fr w w' S) (hS : ∀ x ∈ S, x ∈ S') : Fr w w' S' :=
  ⟨h.os, h.tape, h.output, h.size, fun k hk hs => h.block k hk fun hx => hs (hS k hx)⟩
theorem Fr.below {w w' : World} {S : List Nat} (h : Fr w w' S) {B : Nat} (hB : B ≤ w.heap.size) (hS : ∀ x ∈ S, B ≤ x) : Below B w w' :=
  ⟨h.os, h.tape, h.output, h.size, fun k hk => h.block k (Nat.lt_of_lt_of_le hk hB) fun hx => by have := hS k hx; omega⟩
theorem Fr.of_below {w w' : World} (h : Below w.heap.size w w') (S : List Nat) : Fr w w' S := ⟨h.os, h.tape, h.output, h.size, fun k hk _ => h.block k hk⟩
theorem Fr.of_grown {w w' : World} {b : Nat} (h : w.grownBy w' (some b)) : Fr w w' [b] :=
  ⟨h.os, h.tape, h.output, h.size, fun k hk hs => h.block k hk fun e => by injection e with e; exact hs (by simp [e])⟩
theorem Fr.of_grown0 {w w' : World} (h : w.grownBy w' none) (S : List Nat) : Fr w w' S :=
  ⟨h.os, h.tape, h.output, h.size, fun k hk _ => h.block k hk fun e => by cases e⟩
theorem Fr.setCell {a w : World} {S : List Nat} (h : Fr a w S) {p : Addr} (hp : p.block ∈ S) (u : Value) : Fr a (w.setCell p u) S :=
  h.trans ⟨rfl, rfl, rfl, by simp [World.setCell], fun k _ hs => Below.heap_setCell _ _ _ _ (fun e => hs (e ▸ hp))⟩
theorem Fr.alloc {a w : World} {S : List Nat} (h : Fr a w S) (o : Obj) : Fr a (w.alloc o) S :=
  h.trans ⟨rfl, rfl, rfl, by simp, fun k hk _ => Below.heap_alloc _ _ _ hk⟩
theorem Fr.drew {a w : World} {S : List Nat} (h : Fr a w S) : Fr a w.drew S := ⟨h.os, h.tape, h.output, h.size, h.block⟩
theorem Fr.drewN {a w : World} {S : List Nat} (h : Fr a w S) (n : Nat) : Fr a (w.drewN n) S := ⟨h.os, h.tape, h.output, h.size, h.block⟩
theorem u8s_inj : ∀ {a b : List UInt8}, u8s a = u8s b → a = b
  | [], [], _ => rfl
  | [], _ :: _, h => by cases h
  | _ :: _, [], h => by cases h
  | x :: a, y :: b, h => by
    rw [u8s_cons, u8s_cons] at h
    injection h with h1 h2
    injection h1 with _ h3
    have : x.toNat = y.toNat := by omega
    rw [UInt8.toNat_inj.mp this, u8s_inj h2]
theorem u8s_len : ∀ l : List UInt8, (u8s l).length = l.length
  | [] => rfl
  | x :: l => by rw [u8s_cons]; simp [u8s_len l]
/-- A slice that reads xs, in none of the blocks of X. -/
def Sl (w : World) (X : List Nat) (A : Option Addr) (xs : List Value) : Prop := Rd w w.heap.size A xs ∧ ∀ a, A = some a → a.block ∉ X
theorem Sl.below {w w' : World} {X : List Nat} {A : Option Addr} {xs : List Value} (h : Sl w X A xs) (hb : Below w.heap.size w w') : Sl w' X A xs := by
  refine ⟨fun hn => ?_, h.2⟩
  obtain ⟨b, o, e, hlt, hc⟩ := h.1 hn
  exact ⟨b, o, e, Nat.lt_of_lt_of_le hlt hb.size, fun j u hu => by rw [← hc j u hu]; exact hb.cell (p := ⟨b, o + j, none⟩) hlt⟩
theorem Sl.fr {w w' : World} {X S : List Nat} {A : Option Addr} {xs : List Value} (h : Sl w X A xs) (hf : Fr w w' S) (hS : ∀ x ∈ S, x ∈ X) : Sl w' X A xs := by
  refine ⟨fun hn => ?_, h.2⟩
  obtain ⟨b, o, e, hlt, hc⟩ := h.1 hn
  have hx : b ∉ S := fun hb => h.2 _ e (hS b hb)
  exact ⟨b, o, e, Nat.lt_of_lt_of_le hlt hf.size, fun j u hu => by rw [← hc j u hu]; exact World.cell?_of_block (hf.block b hlt hx)⟩
theorem alloc1_size (w : World) (o : Obj) : (w.alloc o).heap.size = w.heap.size + 1 := by simp
theorem ret_int {k : IntKind} {a b : Int} (h : a = b) : Ending.returned (.int k a) = .returned (.int k b) := by rw [h]
theorem infoU8 : (Try.prog.info? 5).map (fun i => (i.zero, i.size, i.bytes)) = some (some (.int .u8 0), 1, 1) := by kernel_rfl
theorem lower {B C : Nat} {a b : World} (h : Below B a b) (hB : C ≤ B) : Below C a b := ⟨h.os, h.tape, h.output, h.size, fun k hk => h.block k (by omega)⟩
theorem Fr.lower {a b : World} {S : List Nat} {C : Nat} (h : Fr a b S) (hC : C ≤ a.heap.size) (hS : ∀ x ∈ S, C ≤ x) : Below C a b := h.below hC hS
theorem Sl.drew {w : World} {X : List Nat} {A : Option Addr} {xs : List Value} (h : Sl w X A xs) : Sl w.drew X A xs := h
theorem Below.drewN' {B : Nat} {a b : World} (h : Below B a b) (n : Nat) : Below B a (b.drewN n) := ⟨h.os, h.tape, h.output, h.size, h.block⟩
theorem beq_bytes {a b : List UInt8} (h : a ≠ b) : (a == b) = false := beq_eq_false_iff_ne.2 h
theorem infoStr : (Try.prog.info? 9).map (fun i => (i.zero, i.size, i.bytes)) = some (some (.string .empty), 1, 16) := by kernel_rfl
theorem infoBool : (Try.prog.info? 4).map (fun i => (i.zero, i.size, i.bytes)) = some (some (.bool false), 1, 1) := by kernel_rfl
theorem infoInt : (Try.prog.info? 3).map (fun i => (i.zero, i.size, i.bytes)) = some (some (.int .i64 0), 1, 8) := by kernel_rfl
theorem own_form {w : World} {base size n : Nat} {e : TypeId} {v : Value} {xs : List Value} (h : w.ownsRow base e size v n xs) (hn : 0 < n) : ∃ g c, v = .slice (some ⟨g, 0, none⟩) n c ∧ base ≤ g ∧ g < w.heap.size ∧ n ≤ c ∧ c ≤ maxLen := by
  have h' := h
  rcases h.2 with ⟨_, h0⟩ | ⟨g, cap, cur, hv, hg, hh, hle, hm, hr⟩
  · omega
  · subst hv
    exact ⟨g, cap, rfl, hg, (World.ownsRow.lt h' g rfl).2, hle, hm⟩
/-- What a call owns reads as a slice in none of some elder blocks. -/
theorem own_sl {w : World} {base size n : Nat} {e : TypeId} {X : List Nat} {v : Value} {xs : List Value} (h : w.ownsRow base e size v n xs) (hX : ∀ x ∈ X, x < base) : ∃ A c, v = .slice A n c ∧ n ≤ c ∧ c ≤ maxLen ∧ Sl w X A xs := by
  have h' := h
  rcases h.2 with ⟨hv, h0⟩ | ⟨g, cap, cur, hv, hg, hh, hle, hm, hr⟩
  · exact ⟨none, 0, by rw [hv, h0], by omega, by simp [maxLen], by
      have : xs = [] := List.eq_nil_of_length_eq_zero (by rw [h.1, h0]; simp)
      rw [this]; exact ⟨Rd.emp _ _ _, fun a ha => by cases ha⟩⟩
  · subst hv
    exact ⟨some ⟨g, 0, none⟩, cap, rfl, hle, hm, Rd.ofOwn h', fun a ha => by cases ha; exact fun hx => by have := hX g hx; omega⟩
theorem grown_fr {w w' : World} {g : Nat} (h : w.grownBy w' (some g)) : Fr w w' [g] := Fr.of_grown h
theorem lower' {B C : Nat} {a b : World} (h : Below B a b) (hB : C ≤ B) : Below C a b := ⟨h.os, h.tape, h.output, h.size, fun k hk => h.block k (by omega)⟩
theorem heap_lt {w : World} {b : Nat} {o : Obj} (h : w.heap[b]? = some o) : b < w.heap.size := (Array.getElem?_eq_some_iff.1 h).1
theorem append0_below {W w2 : World} {e : TypeId} (h : (W.alloc (.cells #[] e)).grownBy w2 (Value.slice (some ⟨W.heap.size, 0, none⟩) 0 0).ownBlock) : Below W.heap.size W w2 :=
  ((Below.refl _ W).alloc (Nat.le_refl _) _).trans (grown_below (g := W.heap.size) h (Nat.le_refl _) (by simp))
theorem two_new (w : World) (o o' : Obj) : ((w.alloc o).alloc o').heap[w.heap.size]? = some o ∧ ((w.alloc o).alloc o').heap[w.heap.size + 1]? = some o' := by
  refine ⟨(Below.heap_alloc _ _ _ (by simp)).trans (heap_alloc_new w o), ?_⟩
  have := heap_alloc_new (w.alloc o) o'
  rw [alloc1_size] at this
  exact this
theorem append0_below' {W w2 : World} {e : TypeId} {n : Nat} (hn : W.heap.size = n) (h : (W.alloc (.cells #[] e)).grownBy w2 (Value.slice (some ⟨n, 0, none⟩) 0 0).ownBlock) : Below n W w2 := by
  subst hn
  exact append0_below h
theorem own_lit0' {e : TypeId} {size n : Nat} (W : World) (hn : W.heap.size = n) : (W.alloc (.cells #[] e)).ownsRow n e size (.slice (some ⟨n, 0, none⟩) 0 0) 0 [] := by
  subst hn
  exact own_lit0 W (Nat.le_refl _)
/-- append whose run is known, at the operation, in a region that draws its order. -/
theorem step_appK {ops : Array Oper} {o : Oper} {a : Act} {K : Act → World → Prop} {Q : Exit → Act → World → Prop} {E : Prop} (w : World) (hw : Region.wanted o (yielded ops a.tmps) = true) (s x : Operand) (t : TypeId)
    (ho : o.op = .call { callee := .builtin .append, args := #[s, x], argTypes := #[t, t] }) (hty : o.type = t) (v y v' : Value) (w' : World) (hs : a.eval s = v) (hx : a.eval x = y)
    (hrun : (Builtin.append_ #[t, t] t #[v, y]).run Try.prog w = .ok v' w') (h : K (a.put o.dst v') w') :
    if Region.wanted o (yielded ops a.tmps) = true then Oper.wp Try.prog o a w K Q else E := by
  rw [if_pos hw]
  unfold Oper.wp execOp
  simp only [ho, hty, resolve, invoke, builtin, Sem.run_bind, Sem.run_pure, Result.andThen_ok, List.map_toArray, List.map_cons, List.map_nil, hs, hx, hrun]
  exact h
/-- append whose run is known, at the operation, in a region that draws its order. -/
theorem step_appK' {o : Oper} {a : Act} {K : Act → World → Prop} {Q : Exit → Act → World → Prop} (w : World) (s x : Operand) (t : TypeId)
    (ho : o.op = .call { callee := .builtin .append, args := #[s, x], argTypes := #[t, t] }) (hty : o.type = t) (v y v' : Value) (w' : World) (hs : a.eval s = v) (hx : a.eval x = y)
    (hrun : (Builtin.append_ #[t, t] t #[v, y]).run Try.prog w = .ok v' w') (h : K (a.put o.dst v') w') :
    Oper.wp Try.prog o a w K Q := by
  unfold Oper.wp execOp
  simp only [ho, hty, resolve, invoke, builtin, Sem.run_bind, Sem.run_pure, Result.andThen_ok, List.map_toArray, List.map_cons, List.map_nil, hs, hx, hrun]
  exact h
theorem grown_below' {w w' : World} {r : Option Nat} {B : Nat} (h : w.grownBy w' r) (hg : ∀ k, r = some k → B ≤ k) (hB : B ≤ w.heap.size) : Below B w w' :=
  ⟨h.os, h.tape, h.output, h.size, fun k hk => h.block k (by omega) (fun e => by have := hg k e.symm; omega)⟩
theorem own_ge {w : World} {base size n : Nat} {e : TypeId} {v : Value} {xs : List Value} (h : w.ownsRow base e size v n xs) : ∀ s ∈ v.ownBlock.toList, base ≤ s := fun s hs => (World.ownsRow.lt h s (by simpa using hs)).1
/-- Bytes that lie in a block of bytes. -/
def DataAt (w : World) (A : Option Addr) (l : List UInt8) : Prop := Rd w w.heap.size A (u8s l) ∧ ∀ a, A = some a → ∃ cs fr, w.heap[a.block]? = some (.cells cs 5 fr)
/-- A block that holds no bytes. -/
def NoBytes (w : World) (b : Nat) : Prop := ∀ cs fr, w.heap[b]? ≠ some (.cells cs 5 fr)
theorem DataAt.fr {w w' : World} {A : Option Addr} {l : List UInt8} {S : List Nat} (h : DataAt w A l) (hf : Fr w w' S) (hS : ∀ s ∈ S, NoBytes w s) : DataAt w' A l := by
  have hns : ∀ a, A = some a → a.block ∉ S ∧ a.block < w.heap.size := fun a ha => by
    obtain ⟨cs, fr, hg⟩ := h.2 a ha
    exact ⟨fun hm => hS _ hm cs fr hg, heap_lt hg⟩
  refine ⟨fun hn => ?_, fun a ha => ?_⟩
  · obtain ⟨b, o, e, hb, hc⟩ := h.1 hn
    have := hns _ e
    exact ⟨b, o, e, Nat.lt_of_lt_of_le hb hf.size, fun j u hu => (World.cell?_of_block (hf.block b hb this.1)).trans (hc j u hu)⟩
  · obtain ⟨cs, fr, hg⟩ := h.2 a ha
    exact ⟨cs, fr, (hf.block _ (hns a ha).2 (hns a ha).1).trans hg⟩
theorem noBytes_own {w : World} {base size n : Nat} {e : TypeId} {v : Value} {xs : List Value} (h : w.ownsRow base e size v n xs) (he : e ≠ 5) : ∀ s ∈ v.ownBlock.toList, NoBytes w s := by
  intro s hs cs fr hg
  rcases h.2 with ⟨hv, _⟩ | ⟨g, cap, cur, hv, _, hgg, _⟩
  · rw [hv] at hs; simp [Value.ownBlock] at hs
  · rw [hv] at hs
    simp [Value.ownBlock] at hs
    subst hs
    rw [hgg] at hg
    cases hg
    exact he rfl
theorem own_apart {w : World} {b1 b2 s1 s2 n1 n2 : Nat} {e1 e2 : TypeId} {v1 v2 : Value} {x1 x2 : List Value} (h1 : w.ownsRow b1 e1 s1 v1 n1 x1) (h2 : w.ownsRow b2 e2 s2 v2 n2 x2) (he : e1 ≠ e2) : ∀ s ∈ v1.ownBlock.toList, s ∉ v2.ownBlock.toList := by
  intro s hs hs2
  rcases h1.2 with ⟨hv, _⟩ | ⟨g, cap, cur, hv, _, hgg, _⟩
  · rw [hv] at hs; simp [Value.ownBlock] at hs
  · rcases h2.2 with ⟨hv2, _⟩ | ⟨g2, cap2, cur2, hv2, _, hgg2, _⟩
    · rw [hv2] at hs2; simp [Value.ownBlock] at hs2
    · rw [hv] at hs
      rw [hv2] at hs2
      simp [Value.ownBlock] at hs hs2
      subst hs hs2
      rw [hgg] at hgg2
      cases hgg2
      exact he rfl
theorem rowFrS {w w' : World} {base size n : Nat} {e : TypeId} {v : Value} {xs : List Value} {S : List Nat} (h : w.ownsRow base e size v n xs) (hf : Fr w w' S) (hS : ∀ s ∈ v.ownBlock.toList, s ∉ S) : w'.ownsRow base e size v n xs := by
  refine ⟨h.1, ?_⟩
  rcases h.2 with h2 | ⟨g, cap, cur, hv, hg, hgg, r⟩
  · exact .inl h2
  · refine .inr ⟨g, cap, cur, hv, hg, ?_, r⟩
    rw [hf.block g (Array.getElem?_eq_some_iff.1 hgg).1 (hS g (by rw [hv]; simp [Value.ownBlock]))]
    exact hgg
end Go.Proofs.Ytiadphgodhfhjab
