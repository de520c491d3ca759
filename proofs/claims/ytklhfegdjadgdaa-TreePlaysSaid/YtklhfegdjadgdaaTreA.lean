/- Balanced trees, plainly: rotations, depth. -/
import Derived.Test.YtklhfegdjadgdaaMem
namespace Go.Proofs.Ytklhfegdjadgdaa

/-- Bytes that lie somewhere. -/
structure Bs where
  A : Option Addr
  l : List UInt8
  c : Nat
def Bs.v (r : Bs) : Value := .slice r.A r.l.length r.c
/-- A tree's nodes: block, key, value, both sides. -/
inductive Tn where
  | nil : Tn
  | node (b : Nat) (k x : Bs) (l r : Tn) : Tn
namespace Tn
def ht : Tn → Nat
  | nil => 0
  | node _ _ _ l r => max l.ht r.ht + 1
def num : Tn → Nat
  | nil => 0
  | node _ _ _ l r => l.num + 1 + r.num
def flat : Tn → List (List UInt8 × List UInt8)
  | nil => []
  | node _ k x l r => l.flat ++ (k.l, x.l) :: r.flat
def blks : Tn → List Nat
  | nil => []
  | node b _ _ l r => b :: (l.blks ++ r.blks)
def Bal : Tn → Prop
  | nil => True
  | node _ _ _ l r => l.Bal ∧ r.Bal ∧ l.ht ≤ r.ht + 1 ∧ r.ht ≤ l.ht + 1
def lHt : Tn → Nat
  | nil => 0
  | node _ _ _ l _ => l.ht
def rHt : Tn → Nat
  | nil => 0
  | node _ _ _ _ r => r.ht
def rotR : Tn → Tn
  | node b k x (node c kl xl ll lr) r => node c kl xl ll (node b k x lr r)
  | t => t
def rotL : Tn → Tn
  | node b k x l (node c kr xr rl rr) => node c kr xr (node b k x l rl) rr
  | t => t
def bal : Tn → Tn
  | nil => nil
  | node b k x l r =>
    if r.ht + 1 < l.ht then rotR (node b k x (if l.lHt < l.rHt then l.rotL else l) r)
    else if l.ht + 1 < r.ht then rotL (node b k x l (if r.rHt < r.lHt then r.rotR else r))
    else node b k x l r
theorem rotR_flat (t : Tn) : t.rotR.flat = t.flat := by
  unfold rotR
  split
  · simp [flat]
  · rfl
theorem rotL_flat (t : Tn) : t.rotL.flat = t.flat := by
  unfold rotL
  split
  · simp [flat]
  · rfl
theorem bal_flat (t : Tn) : t.bal.flat = t.flat := by
  cases t with
  | nil => rfl
  | node b k x l r =>
    simp only [bal]
    split
    · rw [rotR_flat]
      simp only [flat]
      split
      · rw [rotL_flat]
      · rfl
    · split
      · rw [rotL_flat]
        simp only [flat]
        split
        · rw [rotR_flat]
        · rfl
      · rfl
theorem rotR_blks (t : Tn) : t.rotR.blks.Perm t.blks := by
  unfold rotR
  split
  · rename_i b k x c kl xl ll lr r
    simp only [blks, List.cons_append]
    refine List.perm_iff_count.2 fun a => ?_
    simp only [List.count_cons, List.count_append]
    omega
  · exact List.Perm.refl _
theorem rotL_blks (t : Tn) : t.rotL.blks.Perm t.blks := by
  unfold rotL
  split
  · simp only [blks, List.cons_append]
    refine List.perm_iff_count.2 fun a => ?_
    simp only [List.count_cons, List.count_append]
    omega
  · exact List.Perm.refl _
theorem node_blks {b : Nat} {k x : Bs} {l r l' r' : Tn} (hl : l'.blks.Perm l.blks) (hr : r'.blks.Perm r.blks) : (node b k x l' r').blks.Perm (node b k x l r).blks :=
  (hl.append hr).cons b
theorem bal_blks (t : Tn) : t.bal.blks.Perm t.blks := by
  cases t with
  | nil => exact List.Perm.refl _
  | node b k x l r =>
    simp only [bal]
    split
    · refine (rotR_blks _).trans (node_blks ?_ (List.Perm.refl _))
      split
      · exact rotL_blks _
      · exact List.Perm.refl _
    · split
      · refine (rotL_blks _).trans (node_blks (List.Perm.refl _) ?_)
        split
        · exact rotR_blks _
        · exact List.Perm.refl _
      · exact List.Perm.refl _
theorem flat_len (t : Tn) : t.flat.length = t.num := by
  induction t with
  | nil => rfl
  | node b k x l r hl hr => simp only [flat, num, List.length_append, List.length_cons, hl, hr]; omega
theorem num_of_flat {t t' : Tn} (h : t'.flat = t.flat) : t'.num = t.num := by rw [← flat_len, ← flat_len, h]
theorem blks_len (t : Tn) : t.blks.length = t.num := by
  induction t with
  | nil => rfl
  | node b k x l r hl hr => simp only [blks, num, List.length_append, List.length_cons, hl, hr]; omega
/-- A node whose sides differ by two at most, balanced. -/
theorem bal_bal {b : Nat} {k x : Bs} {l r : Tn} (hl : l.Bal) (hr : r.Bal) (h1 : l.ht ≤ r.ht + 2) (h2 : r.ht ≤ l.ht + 2) :
    (node b k x l r).bal.Bal ∧ ((node b k x l r).bal.ht = max l.ht r.ht + 1 ∨ ((node b k x l r).bal.ht = max l.ht r.ht ∧ (l.ht = r.ht + 2 ∨ r.ht = l.ht + 2))) := by
  simp only [bal]
  by_cases c1 : r.ht + 1 < l.ht
  · rw [if_pos c1]
    cases l with
    | nil => simp [ht] at c1
    | node c kl xl ll lr =>
      obtain ⟨q1, q2, q3, q4⟩ := hl
      simp only [ht] at c1 h1 h2
      by_cases c2 : ll.ht < lr.ht
      · have e : (node c kl xl ll lr).lHt < (node c kl xl ll lr).rHt := c2
        rw [if_pos e]
        cases lr with
        | nil => simp [ht] at c2
        | node d km xm ml mr =>
          obtain ⟨p1, p2, p3, p4⟩ := q2
          simp only [ht] at c2 c1 q3 q4 h1 h2
          simp only [rotL, rotR, Bal, ht]
          refine ⟨⟨⟨q1, p1, by omega, by omega⟩, ⟨p2, hr, by omega, by omega⟩, by omega, by omega⟩, by omega⟩
      · have e : ¬ (node c kl xl ll lr).lHt < (node c kl xl ll lr).rHt := c2
        rw [if_neg e]
        simp only [rotR, Bal, ht]
        refine ⟨⟨q1, ⟨q2, hr, by omega, by omega⟩, by omega, by omega⟩, by omega⟩
  · rw [if_neg c1]
    by_cases c3 : l.ht + 1 < r.ht
    · rw [if_pos c3]
      cases r with
      | nil => simp [ht] at c3
      | node c kl xl rl rr =>
        obtain ⟨q1, q2, q3, q4⟩ := hr
        simp only [ht] at c1 c3 h1 h2
        by_cases c2 : rr.ht < rl.ht
        · have e : (node c kl xl rl rr).rHt < (node c kl xl rl rr).lHt := c2
          rw [if_pos e]
          cases rl with
          | nil => simp [ht] at c2
          | node d km xm ml mr =>
            obtain ⟨p1, p2, p3, p4⟩ := q1
            simp only [ht] at c2 c1 c3 q3 q4 h1 h2
            simp only [rotL, rotR, Bal, ht]
            refine ⟨⟨⟨hl, p1, by omega, by omega⟩, ⟨p2, q2, by omega, by omega⟩, by omega, by omega⟩, by omega⟩
        · have e : ¬ (node c kl xl rl rr).rHt < (node c kl xl rl rr).lHt := c2
          rw [if_neg e]
          simp only [rotL, Bal, ht]
          refine ⟨⟨⟨hl, q1, by omega, by omega⟩, q2, by omega, by omega⟩, by omega⟩
    · rw [if_neg c3]
      exact ⟨⟨hl, hr, by omega, by omega⟩, .inl rfl⟩
theorem ht_pos_num (t : Tn) : t.num = 0 ↔ t.ht = 0 := by
  cases t with
  | nil => exact ⟨fun _ => rfl, fun _ => rfl⟩
  | node => simp [num, ht]
theorem ht_le_num (t : Tn) : t.ht ≤ t.num := by
  induction t with
  | nil => exact Nat.le_refl _
  | node b k x l r hl hr => simp only [ht, num]; omega
/-- A balanced tree of depth h has at least 2^((h+1)/2) - 1 pairs. -/
theorem bal_num : ∀ (n : Nat) (t : Tn), t.ht ≤ n → t.Bal → 2 ^ ((t.ht + 1) / 2) ≤ t.num + 1 := by
  intro n
  induction n with
  | zero =>
    intro t h _
    cases t with
    | nil => simp [ht, num]
    | node => simp [ht] at h
  | succ n ih =>
    intro t h hb
    cases t with
    | nil => simp [ht, num]
    | node b k x l r =>
      obtain ⟨hl, hr, h1, h2⟩ := hb
      simp only [ht] at h ⊢
      have il := ih l (by omega) hl
      have ir := ih r (by omega) hr
      simp only [num]
      have hmono : ∀ {a b : Nat}, a ≤ b → 2 ^ a ≤ 2 ^ b := fun h => Nat.pow_le_pow_right (by omega) h
      have key : ∀ m : Nat, m ≤ l.ht → m ≤ r.ht → max l.ht r.ht ≤ m + 1 → 2 ^ ((max l.ht r.ht + 1 + 1) / 2) ≤ l.num + 1 + r.num + 1 := by
        intro m a1 a2 a3
        have e1 := hmono (show (m + 1) / 2 ≤ (l.ht + 1) / 2 by omega)
        have e2 := hmono (show (m + 1) / 2 ≤ (r.ht + 1) / 2 by omega)
        have e3 := hmono (show (max l.ht r.ht + 1 + 1) / 2 ≤ (m + 1) / 2 + 1 by omega)
        rw [Nat.pow_succ] at e3
        omega
      exact key (min l.ht r.ht) (by omega) (by omega) (by omega)
end Tn
/-- How many binary digits a number has. -/
def bits (n : Nat) : Nat := if n = 0 then 0 else bits (n / 2) + 1
theorem bits_ge : ∀ (c n : Nat), 2 ^ c ≤ n + 1 → c ≤ bits n := by
  intro c
  induction c with
  | zero => intro n _; exact Nat.zero_le _
  | succ c ih =>
    intro n h
    rw [Nat.pow_succ] at h
    have hp : 1 ≤ 2 ^ c := Nat.one_le_two_pow
    rw [bits, if_neg (by omega)]
    have := ih (n / 2) (by omega)
    omega
theorem Tn.flat_deep {t : Tn} (h : t.Bal) : t.ht ≤ 2 * bits t.num := by
  have := bits_ge _ _ (bal_num _ t (Nat.le_refl _) h)
  omega
end Go.Proofs.Ytklhfegdjadgdaa
