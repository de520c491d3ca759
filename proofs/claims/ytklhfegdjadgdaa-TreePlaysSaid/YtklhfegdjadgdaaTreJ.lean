/- between: copies of the pairs from one place on up to another one. -/
import Derived.Test.YtklhfegdjadgdaaTreI
namespace Go.Proofs.Ytklhfegdjadgdaa
open Go.RowKit Go.Maps

/-- The pairs from one place on up to another one. -/
def cutI (L : List Pr) (a b : Int) : List Pr := (L.take b.toNat).drop a.toNat
theorem cutI_none {L : List Pr} {a b : Int} (h : (L.length : Int) ≤ a ∨ b ≤ 0) : cutI L a b = [] := by
  unfold cutI
  rcases h with h | h
  · exact List.drop_eq_nil_of_le (by rw [List.length_take]; omega)
  · rw [show b.toNat = 0 by omega]; simp
theorem cutI_mid (A B : List Pr) (p : Pr) (a b : Int) : cutI (A ++ p :: B) a b = cutI A a b ++ ((if a ≤ (A.length : Int) ∧ (A.length : Int) < b then [p] else []) ++ cutI B (a - (A.length : Int) - 1) (b - (A.length : Int) - 1)) := by
  unfold cutI
  rw [List.take_append, List.drop_append]
  congr 1
  by_cases hb : (A.length : Int) < b
  · have e1 : (p :: B).take (b.toNat - A.length) = p :: B.take ((b - (A.length : Int) - 1).toNat) := by
      rw [show b.toNat - A.length = (b - (A.length : Int) - 1).toNat + 1 by omega]; rfl
    rw [e1, List.length_take]
    by_cases ha : a ≤ (A.length : Int)
    · rw [if_pos ⟨ha, hb⟩, show a.toNat - min b.toNat A.length = 0 by omega, show (a - (A.length : Int) - 1).toNat = 0 by omega]
      rfl
    · rw [if_neg (fun h => ha h.1), show a.toNat - min b.toNat A.length = (a - (A.length : Int) - 1).toNat + 1 by omega]
      rfl
  · rw [if_neg (fun h => hb h.2), show b.toNat - A.length = 0 by omega, show (b - (A.length : Int) - 1).toNat = 0 by omega]
    simp
theorem cutI_len (L : List Pr) (a b : Int) : (cutI L a b).length ≤ L.length := by unfold cutI; rw [List.length_drop, List.length_take]; omega
/-- Pairs in memory. -/
def prC (P : List (Bs × Bs)) : List Value := P.flatMap fun p => [.slice p.1.A p.1.l.length p.1.c, .slice p.2.A p.2.l.length p.2.c]
theorem prC_len (P : List (Bs × Bs)) : (prC P).length = P.length * 2 := by
  induction P with
  | nil => rfl
  | cons a P ih => simp only [prC, List.flatMap_cons, List.length_append] at ih ⊢; rw [ih]; simp; omega
theorem prC_snoc (P : List (Bs × Bs)) (p : Bs × Bs) : prC P ++ [.slice p.1.A p.1.l.length p.1.c, .slice p.2.A p.2.l.length p.2.c] = prC (P ++ [p]) := by simp [prC]
def prL (P : List (Bs × Bs)) : List Pr := P.map fun p => (p.1.l, p.2.l)
/-- A row of pairs of the call's own; their bytes were made from some block on. -/
structure Prs (w : World) (base : Nat) (v : Value) (P : List (Bs × Bs)) : Prop where
  row : w.ownsRow base 42 2 v P.length (prC P)
  key : ∀ p ∈ P, p.1.ok w ∧ (∀ a, p.1.A = some a → base ≤ a.block) ∧ p.2.ok w ∧ (∀ a, p.2.A = some a → base ≤ a.block)
theorem Prs.below {w w' : World} {base : Nat} {v : Value} {P : List (Bs × Bs)} (h : Prs w base v P) (hb : Below w.heap.size w w') : Prs w' base v P :=
  ⟨own_below h.row hb (Nat.le_refl _), fun p hp => ⟨(h.key p hp).1.below hb, (h.key p hp).2.1, (h.key p hp).2.2.1.below hb, (h.key p hp).2.2.2⟩⟩
theorem noBytes_row {w : World} {base n : Nat} {v : Value} {xs : List Value} (h : w.ownsRow base 42 2 v n xs) : ∀ s ∈ v.ownBlock.toList, NoBytes w s := noBytes_own h (by decide)
/-- Nodes lie in none of the row's blocks. -/
theorem node_apart {w : World} {base n : Nat} {v : Value} {xs : List Value} {t : Tn} (h : w.ownsRow base 42 2 v n xs) (ht : t.At w) : ∀ b ∈ t.blks, b ∉ v.ownBlock.toList := by
  induction t with
  | nil => intro b hb; cases hb
  | node b k x l r hl hr =>
    obtain ⟨h1, _, _, h2, h3⟩ := ht
    intro c hc
    simp only [Tn.blks, List.mem_cons, List.mem_append] at hc
    rcases hc with rfl | hc | hc
    · intro hm
      rcases h.2 with ⟨hv, _⟩ | ⟨g, cap, cur, hv, _, hgg, _⟩
      · rw [hv] at hm; simp [Value.ownBlock] at hm
      · rw [hv] at hm
        simp [Value.ownBlock] at hm
        subst hm
        rw [hgg] at h1
        cases h1
    · exact hl h2 c hc
    · exact hr h3 c hc
theorem Fr.of_grownR {w w' : World} {r : Option Nat} (h : w.grownBy w' r) : Fr w w' r.toList := by
  cases r with
  | none => exact Fr.of_grown0 h _
  | some b => exact Fr.of_grown h
/-- What between leaves. -/
def BtwPost (w : World) (base : Nat) (v : Value) (P : List (Bs × Bs)) (L : List Pr) (e : Ending) (w' : World) : Prop :=
  ∃ (v' : Value) (Q : List (Bs × Bs)), e = .returned v' ∧ Prs w' base v' (P ++ Q) ∧ prL Q = L ∧ Fr w w' v.ownBlock.toList ∧ ∀ s ∈ v'.ownBlock.toList, s ∈ v.ownBlock.toList ∨ w.heap.size ≤ s
theorem infoPair : (Try.prog.info? 42).map (fun i => (i.zero, i.size, i.bytes)) = some (some (.agg #[.slice none 0 0, .slice none 0 0]), 2, 48) := by kernel_rfl
set_option maxRecDepth 100000 in
set_option maxHeartbeats 4000000 in
theorem between_no (t : Tn) (w : World) (base : Nat) (A : Option Addr) (n c : Nat) (P : List (Bs × Bs)) (a b : Int) (ht : t.At w) (hp : Prs w base (.slice A n c) P) (h : t = .nil ∨ ((t.num : Int) ≤ a ∨ b ≤ 0)) :
    Calls Try.prog 24 #[.pointer t.adr, .int .i64 a, .int .i64 b, .slice A n c] w (BtwPost w base (.slice A n c) P (cutI t.flat a b)) := by
  have hcut : cutI t.flat a b = [] := by
    rcases h with rfl | h
    · simp [cutI, Tn.flat]
    · exact cutI_none (by rw [Tn.flat_len]; exact h)
  rw [hcut]
  clear hcut
  have HP := Lib.hid hp
  clear hp
  cases t with
  | nil =>
    clear h ht
    unfold Tn.adr
    go_enter Try.func24, Try.ntmps24
    go_wp2_with (fail)
    go_ret
    exact ⟨_, [], rfl, by rw [List.append_nil]; exact HP.out, rfl, Fr.refl _ _, fun s hs => .inl hs⟩
  | node bb k x l r =>
    have c4 : w.cell? ⟨bb, 4, none⟩ = some (.int .i64 ((Tn.node bb k x l r).num : Int)) := cell_of_row w bb 4 _ _ _ ht.1
    obtain ⟨N, hN⟩ : ∃ N, N = (Tn.node bb k x l r).num := ⟨_, rfl⟩
    rw [← hN] at c4 h
    clear ht hN
    have h : (N : Int) ≤ a ∨ b ≤ 0 := h.resolve_left (fun e => by cases e)
    rcases (show (N : Int) ≤ a ∨ (¬ (N : Int) ≤ a ∧ b ≤ 0) by omega) with h1 | ⟨h1, h2⟩
    · unfold Tn.adr
      clear h
      go_enter Try.func24, Try.ntmps24
      go_wp2_with (fail)
      go_ret
      exact ⟨_, [], rfl, by rw [List.append_nil]; exact HP.out, rfl, Fr.refl _ _, fun s hs => .inl hs⟩
    · unfold Tn.adr
      clear h
      go_enter Try.func24, Try.ntmps24
      go_wp2_with (fail)
      go_ret
      exact ⟨_, [], rfl, by rw [List.append_nil]; exact HP.out, rfl, Fr.refl _ _, fun s hs => .inl hs⟩
end Go.Proofs.Ytklhfegdjadgdaa
