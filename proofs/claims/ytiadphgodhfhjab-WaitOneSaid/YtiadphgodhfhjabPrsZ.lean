/- Pairs of numbers ([2]int) in memory: lists, and rows of the call's own. -/
import Derived.Test.YtiadphgodhfhjabFr
import Derived.ChangeKeysEq
import Derived.Laws.StructEq
namespace Go.Proofs.Ytiadphgodhfhjab
open Go.RowKit

def prsZ : List (Int × Int) → List Value
  | [] => []
  | (a, b) :: r => .int .i64 a :: .int .i64 b :: prsZ r
theorem prsZ_app : ∀ (l r : List (Int × Int)), prsZ (l ++ r) = prsZ l ++ prsZ r
  | [], _ => rfl
  | (a, b) :: l, r => by simp [prsZ, prsZ_app l r]
theorem prsZ_len : ∀ (l : List (Int × Int)), (prsZ l).length = l.length * 2
  | [] => rfl
  | (a, b) :: l => by simp [prsZ, prsZ_len l]; omega
theorem prsZ_at : ∀ (l : List (Int × Int)) (k : Nat) (hk : k < l.length), (prsZ l)[k * 2]? = some (.int .i64 l[k].1) ∧ (prsZ l)[k * 2 + 1]? = some (.int .i64 l[k].2)
  | [], k, hk => absurd hk (by simp)
  | (a, b) :: l, 0, _ => by simp [prsZ]
  | (a, b) :: l, k + 1, hk => by
    have := prsZ_at l k (by simpa using hk)
    rw [show (k + 1) * 2 = k * 2 + 1 + 1 from by omega, show k * 2 + 1 + 1 + 1 = (k * 2 + 1) + 1 + 1 from rfl]
    simp only [prsZ, List.getElem?_cons_succ, List.getElem_cons_succ]
    exact this
theorem prsZ_one : ∀ (l : List (Int × Int)), ∀ u ∈ prsZ l, u.oneCell' = true
  | [], u, hu => nomatch hu
  | (a, b) :: l, u, hu => by
    rcases List.mem_cons.1 hu with rfl | hu
    · rfl
    rcases List.mem_cons.1 hu with rfl | hu
    · rfl
    exact prsZ_one l u hu
/-- A list of pairs in memory. -/
structure PrL (w : World) (A : Option Addr) (c : Nat) (l : List (Int × Int)) : Prop where
  rd : Rd w w.heap.size A (prsZ l)
  cap : l.length ≤ c
theorem PrL.below {w w' : World} {A : Option Addr} {c : Nat} {l : List (Int × Int)} (h : PrL w A c l) (hb : Below w.heap.size w w') : PrL w' A c l := ⟨(h.rd.below hb (Nat.le_refl _)).more hb.size, h.cap⟩
theorem PrL.cell {w : World} {A : Option Addr} {c : Nat} {l : List (Int × Int)} (h : PrL w A c l) {k : Nat} (hk : k < l.length) : ∃ b o, A = some ⟨b, o, none⟩ ∧ b < w.heap.size ∧ w.cell? ⟨b, o + k * 2, none⟩ = some (.int .i64 l[k].1) ∧ w.cell? ⟨b, o + k * 2 + 1, none⟩ = some (.int .i64 l[k].2) := by
  have hne : prsZ l ≠ [] := fun e => by have := prsZ_len l; rw [e] at this; simp at this; omega
  obtain ⟨b, o, e, hb, hc⟩ := h.rd hne
  have hat := prsZ_at l k hk
  refine ⟨b, o, e, hb, hc (k * 2) _ hat.1, ?_⟩
  rw [Nat.add_assoc]; exact hc (k * 2 + 1) _ hat.2
theorem infoPr2 : (Try.prog.info? 30).map (fun i => (i.zero, i.size, i.bytes)) = some (some (.agg #[.int .i64 0, .int .i64 0]), 2, 16) := by kernel_rfl
theorem cells_int1 : Try.prog.cellsOf 3 = 1 := by kernel_rfl
theorem eql_pr (a b c d : Int) (W : World) : (binOp BinOp.eql 30 (.agg #[.int .i64 a, .int .i64 b]) (.agg #[.int .i64 c, .int .i64 d])).run Try.prog W = .ok (.bool (a == c && b == d)) W := by
  obtain ⟨i, hi, hz0, hz1, hz2⟩ := info_parts infoInt
  rw [run_eql_struct, run_equalIn_array W 9999 _ _ Try.underlying30 hi, cells_int1, show List.range 2 = [0, 1] from rfl]
  by_cases h : a = c <;> by_cases h2 : b = d <;> simp [Op.eqItems, go_sem, h, h2]
theorem neq_pr (a b : Int) (W : World) : (binOp BinOp.neq 30 (.agg #[.int .i64 a, .int .i64 b]) (.agg #[.int .i64 a, .int .i64 b])).run Try.prog W = .ok (.bool false) W := by
  obtain ⟨i, hi, hz0, hz1, hz2⟩ := info_parts infoInt
  rw [run_neq_struct, run_equalIn_array W 9999 _ _ Try.underlying30 hi, cells_int1, show List.range 2 = [0, 1] from rfl]
  simp [Op.eqItems, go_sem]
/-- A row of pairs of the call's own. -/
def OwnP (w : World) (base : Nat) (v : Value) (l : List (Int × Int)) : Prop := w.ownsRow base 30 2 v l.length (prsZ l)
theorem OwnP.nil (w : World) (base : Nat) : OwnP w base (.slice none 0 0) [] := World.ownsRow_nil _ _ _ _
theorem OwnP.below {w w' : World} {base : Nat} {v : Value} {l : List (Int × Int)} (h : OwnP w base v l) (hb : Below w.heap.size w w') : OwnP w' base v l := own_below h hb (Nat.le_refl _)
theorem OwnP.prl {w : World} {base : Nat} {v : Value} {l : List (Int × Int)} (h : OwnP w base v l) : ∃ A c, v = .slice A l.length c ∧ PrL w A c l := by
  obtain ⟨A, c, e, h1, h2, h3⟩ := own_shape h
  exact ⟨A, c, e, h3, h1⟩
/-- append of pairs to a row of the call's own. -/
theorem OwnP.app {w : World} {base : Nat} {v : Value} {l m : List (Int × Int)} {B k c : Nat} {A : Option Addr} (hown : OwnP w base v l) (hB : base ≤ w.heap.size) (hk : k = m.length) (hr : Rd w B A (prsZ m)) (hl : l.length + m.length ≤ 1000000) :
    ∃ A5 c5 w5, (Builtin.append_ #[22, 22] 22 #[v, .slice A k c]).run Try.prog w = .ok (.slice A5 (l.length + k) c5) w5 ∧ OwnP w5 base (.slice A5 (l.length + k) c5) (l ++ m) ∧ Fr w w5 v.ownBlock.toList ∧ (∀ s ∈ (Value.slice A5 (l.length + k) c5).ownBlock.toList, s ∈ v.ownBlock.toList ∨ w.heap.size ≤ s) ∧ Below base w w5 := by
  obtain ⟨i, hi, hz0, hz1, hz2⟩ := info_parts infoPr2
  obtain ⟨v', w', hrun, h1, h2, h3⟩ := run_appR (P := Try.prog) w base 22 22 30 i _ 2 16 Try.underlying22 hi hz0 hz1 hz2 rfl (by omega) v l.length (prsZ l) hown B A k c (prsZ m) (by rw [prsZ_len, hk]) hr (prsZ_one _) (by omega) (by omega) hB
  obtain ⟨A5, c5, rfl, _, _, _⟩ := own_shape h1
  rw [← prsZ_app] at h1
  refine ⟨A5, c5, w', hrun, ?_, ?_, fun s hs => ?_, (Below.refl base _).grown h2 hB (fun z hz => (World.ownsRow.lt hown z hz).1)⟩
  · unfold OwnP
    rw [List.length_append, ← hk]
    exact h1
  · cases hv : v.ownBlock with
    | none => rw [hv] at h2; exact Fr.of_grown0 h2 _
    | some b => rw [hv] at h2; exact Fr.of_grown h2
  · rcases h3 with h3 | h3
    · rw [h3] at hs; exact .inl hs
    · rw [h3] at hs
      simp at hs
      exact .inr (by omega)
/-- Where a list of pairs lies: below a block, or in one of its type. -/
def PlE (B : Nat) (w : World) (A : Option Addr) (l : List (Int × Int)) : Prop := l ≠ [] → ∃ b o, A = some ⟨b, o, none⟩ ∧ (b < B ∨ ∃ cs, w.heap[b]? = some (.cells cs 30 (0, 0)))
theorem PrL.pl {w : World} {A : Option Addr} {c : Nat} {l : List (Int × Int)} (h : PrL w A c l) : PlE w.heap.size w A l := fun hn => by
  obtain ⟨b, o, e, hb, _⟩ := h.rd (fun e => hn (by cases l with | nil => rfl | cons a l => obtain ⟨x, y⟩ := a; cases e))
  exact ⟨b, o, e, .inl hb⟩
theorem OwnP.pl {w : World} {base n c B : Nat} {A : Option Addr} {l : List (Int × Int)} (h : OwnP w base (.slice A n c) l) : PlE B w A l := fun hn => by
  rcases h.2 with ⟨_, h0⟩ | ⟨g, cap, cur, hv, hg, hh, _⟩
  · exact absurd (List.eq_nil_of_length_eq_zero h0) hn
  · injection hv with e1
    subst e1
    exact ⟨g, 0, rfl, .inr ⟨cur, hh⟩⟩
theorem PrL.fr {w w' : World} {A : Option Addr} {c : Nat} {l : List (Int × Int)} {S : List Nat} (h : PrL w A c l) (hf : Fr w w' S) (hS : ∀ b o, A = some ⟨b, o, none⟩ → l ≠ [] → b ∉ S) : PrL w' A c l := by
  refine ⟨fun hn => ?_, h.cap⟩
  obtain ⟨b, o, e, hb, hc⟩ := h.rd hn
  have hl : l ≠ [] := fun e => hn (by rw [e]; rfl)
  refine ⟨b, o, e, Nat.lt_of_lt_of_le hb hf.size, fun j u hu => ?_⟩
  rw [World.cell?_of_block (hf.block b hb (hS b o e hl))]
  exact hc j u hu
theorem rd_prs {w : World} {l : List (Int × Int)} {t : TypeId} {b : Nat} {f : Nat × Nat} (h : w.heap[b]? = some (.cells (prsZ l).toArray t f)) : Rd w (b + 1) (some ⟨b, 0, none⟩) (prsZ l) := fun _ => ⟨b, 0, rfl, by omega, fun j u hu => by
  rw [cell_of_row w b (0 + j) _ _ _ h, Nat.zero_add]
  simpa using hu⟩
end Go.Proofs.Ytiadphgodhfhjab
