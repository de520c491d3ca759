/- The variables of a pattern: query.Vars. -/
import Derived.Test.YtgldcahhliokeaaJnB
import Derived.Test.YtgldcahhliokeaaShelfC
namespace Go.Proofs.Ytgldcahhliokeaa
open Go.RowKit Go.Maps

set_option maxRecDepth 100000 in
theorem clone_any (l : Nm) (w : World) (hs : l.length ≤ 1000000) :
    Calls Try.prog 78 #[.string ⟨l.toArray⟩] w fun e w' => e = .returned (.string ⟨l.toArray⟩) ∧ Below w.heap.size w w' := by
  have HS := Lib.hid (Try.stringslite_Clone ⟨l.toArray⟩ w (by rw [ba_size]; omega))
  clear hs
  go_enter Try.func78, Try.ntmps78
  go_wp2_with (go_at_call 95; (with_reducible refine HS.out.mono ?_); rintro e w' ⟨rfl, hb⟩)
  go_ret
  exact ⟨rfl, hb⟩
/-- A set of names in a map. -/
def SeenS (w : World) (b : Nat) (vs : List Nm) : Prop := ∃ g, MapV w 9 b vs.length g ∧ ∀ s : Nm, g (.string ⟨s.toArray⟩) = if s ∈ vs then some (.agg #[]) else none
theorem strV_inj {a b : Nm} (h : Value.string ⟨a.toArray⟩ = Value.string ⟨b.toArray⟩) : a = b := by
  injection h with h
  injection h with h
  simpa using h
theorem SeenS.made (w : World) : SeenS (w.alloc (.map #[] 0)) w.heap.size [] := ⟨_, MapV.made w _, fun _ => rfl⟩
theorem SeenS.fr {w w' : World} {b : Nat} {vs : List Nm} {S : List Nat} (h : SeenS w b vs) (hf : Fr w w' S) (hS : b ∉ S) : SeenS w' b vs := by
  obtain ⟨g, h, hg⟩ := h
  exact ⟨g, h.fr hf hS, hg⟩
theorem SeenS.below {w w' : World} {b : Nat} {vs : List Nm} (h : SeenS w b vs) (hb : Below w.heap.size w w') : SeenS w' b vs := h.fr (Fr.of_below hb []) (by simp)
theorem zeroUnit (w : World) : (zeroValue 113).run Try.prog w = .ok (.agg #[]) w := by kernel_rfl
theorem SeenS.look {w : World} {b : Nat} {vs : List Nm} (h : SeenS w b vs) {s : Nm} (hs : s.length ≤ maxLen) :
    (Instr.lookup 126 (.map (some b)) (.string ⟨s.toArray⟩) true).run Try.prog w = .ok (.tuple #[.agg #[], .bool (decide (s ∈ vs))]) w := by
  obtain ⟨g, h, hg⟩ := h
  obtain ⟨kl, hk⟩ := keyStr hs
  rw [h.look kStr Try.underlying126 (zeroUnit w) hk, hg]
  by_cases hm : s ∈ vs
  · rw [if_pos hm, decide_eq_true hm]; rfl
  · rw [if_neg hm, decide_eq_false hm]; rfl
theorem SeenS.put {w : World} {b : Nat} {vs : List Nm} (h : SeenS w b vs) {s : Nm} (hs : s.length ≤ maxLen) (hn : vs.length ≤ 1000) :
    ∃ w', (Instr.mapUpdate 126 (.map (some b)) (.string ⟨s.toArray⟩) (.agg #[])).run Try.prog w = .ok () w' ∧ SeenS w' b (vs ++ [s]) ∧ Fr w w' [b] := by
  obtain ⟨g, h, hg⟩ := h
  obtain ⟨kl, hk⟩ := keyStr hs
  obtain ⟨w', h1, h2, h3⟩ := h.store kStr Try.underlying126 (by simp only [maxLen]; omega) hk (.agg #[]) (fun v => open Classical in if v = .string ⟨s.toArray⟩ then some (.agg #[]) else g v) (if_pos rfl) (fun q hq => if_neg hq)
  refine ⟨w', h1, ⟨_, by rw [List.length_append]; exact h2, fun q => ?_⟩, h3⟩
  by_cases e : q = s
  · subst e
    rw [if_pos rfl, if_pos (by simp)]
  · rw [if_neg (fun h => e (strV_inj h)), hg]
    by_cases hm : q ∈ vs
    · rw [if_pos hm, if_pos (by simp [hm])]
    · rw [if_neg hm, if_neg (by simp [hm, e])]
theorem SeenS.lt {w : World} {b : Nat} {vs : List Nm} (h : SeenS w b vs) : b < w.heap.size := by
  obtain ⟨g, h, _⟩ := h
  exact h.lt
theorem MapV.apart {w : World} {k : TypeId} {b n : Nat} {g : Value → Option Value} (h : MapV w k b n g) {base size m : Nat} {e : TypeId} {v : Value} {xs : List Value} (ho : w.ownsRow base e size v m xs) : b ∉ v.ownBlock.toList := by
  intro hm
  obtain ⟨D, ⟨es, clock, hb, _⟩, _⟩ := h
  rcases ho.2 with ⟨hv, _⟩ | ⟨q, cap, cur, hv, _, hq, _⟩
  · rw [hv] at hm; simp [Value.ownBlock] at hm
  · rw [hv] at hm
    simp [Value.ownBlock] at hm
    subst hm
    rw [hb] at hq
    cases hq
/-- Where Vars is. -/
structure VarsAt (w wr : World) (b : Nat) (v : Value) (vs : List Nm) : Prop where
  row : wr.ownsRow w.heap.size 9 1 v vs.length (strs vs)
  seen : SeenS wr b vs
  lo : w.heap.size ≤ b
  below : Below w.heap.size w wr
  len : vs.length ≤ 200
theorem VarsAt.kept {w wr w' : World} {b : Nat} {v : Value} {vs : List Nm} (h : VarsAt w wr b v vs) (hb : Below wr.heap.size wr w') : VarsAt w w' b v vs :=
  ⟨own_below h.row hb (Nat.le_refl _), h.seen.below hb, h.lo, h.below.trans (lower' hb h.below.size), h.len⟩
theorem VarsAt.alloc {w wr : World} {b : Nat} {v : Value} {vs : List Nm} (h : VarsAt w wr b v vs) (o : Obj) : VarsAt w (wr.alloc o) b v vs := h.kept ((Below.refl _ _).alloc (Nat.le_refl _) _)
/-- A name more is seen. -/
theorem VarsAt.put {w wr : World} {b : Nat} {v : Value} {vs : List Nm} (h : VarsAt w wr b v vs) {s : Nm} (hs : s.length ≤ maxLen) :
    ∃ w2, (Instr.mapUpdate 126 (.map (some b)) (.string ⟨s.toArray⟩) (.agg #[])).run Try.prog wr = .ok () w2 ∧ Below w.heap.size wr w2 ∧
      ∀ w3, Below w2.heap.size w2 w3 → ∃ v5 w5, (Builtin.append_ #[22, 22] 22 #[v, .slice (some ⟨w3.heap.size, 0, none⟩) 1 1]).run Try.prog (w3.alloc (.cells #[.string ⟨s.toArray⟩] 9)) = .ok v5 w5 ∧ (vs.length ≤ 199 → VarsAt w w5 b v5 (vs ++ [s])) ∧ ∀ q, q < wr.heap.size → q ≠ b → q ∉ v.ownBlock.toList → w5.heap[q]? = wr.heap[q]? ∧ q ∉ v5.ownBlock.toList := by
  obtain ⟨w2, h1, h2, h3⟩ := h.seen.put hs (by have := h.len; omega)
  have hb2 : Below w.heap.size wr w2 := h3.below h.below.size (by have := h.lo; simp; omega)
  refine ⟨w2, h1, hb2, fun w3 hb3 => ?_⟩
  obtain ⟨g, hg, _⟩ := h.seen
  have hr2 := rowFrS h.row h3 (fun x hx hm => hg.apart h.row (by rw [List.mem_singleton.1 hm] at hx; exact hx))
  have hr3 := own_below hr2 hb3 (Nat.le_refl _)
  have hb4 : Below w3.heap.size w3 (w3.alloc (.cells #[.string ⟨s.toArray⟩] 9)) := (Below.refl _ _).alloc (Nat.le_refl _) _
  have hr4 := own_below hr3 hb4 (Nat.le_refl _)
  have hs4 := (h2.below hb3).below hb4
  have hz : w.heap.size ≤ (w3.alloc (.cells #[.string ⟨s.toArray⟩] 9)).heap.size := Nat.le_trans h.below.size (Nat.le_trans hb2.size (Nat.le_trans hb3.size hb4.size))
  obtain ⟨i, hi, hz0, hz1, hz2⟩ := info_parts infoStr
  have hrd : Rd (w3.alloc (.cells #[.string ⟨s.toArray⟩] 9)) (w3.heap.size + 1) (some ⟨w3.heap.size, 0, none⟩) (strs [s]) := Rd.new w3 #[.string ⟨s.toArray⟩] 9 (0, 0)
  obtain ⟨v5, w5, hrun, g1, g2, g3⟩ := run_appR (P := Try.prog) _ w.heap.size 22 22 9 i _ 1 16 Try.underlying22 hi hz0 hz1 hz2 rfl (by omega) v vs.length (strs vs) hr4 (w3.heap.size + 1) (some ⟨w3.heap.size, 0, none⟩) 1 1 (strs [s]) rfl hrd (strs_one _) (by have := h.len; omega) (by omega) hz
  have hb5 : Below w.heap.size (w3.alloc (.cells #[.string ⟨s.toArray⟩] 9)) w5 := (Below.refl w.heap.size _).grown g2 hz (fun k hk => (World.ownsRow.lt hr4 k hk).1)
  have hall : Below w.heap.size w w5 := ((h.below.trans hb2).trans (lower' hb3 (Nat.le_trans h.below.size hb2.size))).trans ((lower' hb4 (Nat.le_trans h.below.size (Nat.le_trans hb2.size hb3.size))).trans hb5)
  have hfr : Fr (w3.alloc (.cells #[.string ⟨s.toArray⟩] 9)) w5 v.ownBlock.toList := by
    rcases ho' : v.ownBlock with _ | q
    · rw [ho'] at g2; exact Fr.of_grown0 g2 _
    · rw [ho'] at g2; exact Fr.of_grown g2
  refine ⟨v5, w5, hrun, fun hl => ⟨?_, ?_, h.lo, hall, by rw [List.length_append]; simp; omega⟩, fun q hq hqb hqv => ⟨?_, ?_⟩⟩
  · rw [strs_app, List.length_append]
    exact g1
  · have hs5 := hs4
    obtain ⟨gg, hgg, _⟩ := hs5
    exact hs4.fr hfr (hgg.apart hr4)
  · have q2 : q < w2.heap.size := Nat.lt_of_lt_of_le hq hb2.size
    have q3 : q < w3.heap.size := Nat.lt_of_lt_of_le q2 hb3.size
    rw [hfr.block q (Nat.lt_of_lt_of_le q3 hb4.size) hqv, hb4.block q q3, hb3.block q q2, h3.block q hq (by simpa using hqb)]
  · rcases g3 with e | e
    · rw [e]; exact hqv
    · rw [e]
      have := hb2.size
      have := hb3.size
      have := hb4.size
      simp
      omega
end Go.Proofs.Ytgldcahhliokeaa
