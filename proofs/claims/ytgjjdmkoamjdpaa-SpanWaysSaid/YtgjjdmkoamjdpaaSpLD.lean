/- Rings' rows in memory: a row that is appended to, alone among its like; a row of rows that are not its own. -/
import Derived.Test.YtgjjdmkoamjdpaaSpLB
namespace Go.Proofs.Ytgjjdmkoamjdpaa
open Go.RowKit Go.Maps Go.Sort

/-- A number more at the end of a row of a nest. -/
theorem Nest.app {w : World} {lo g : Nat} {us : List TV} {i : Nat} (h : Nest w lo g us) (hi : i < us.length) (hlo : lo ≤ w.heap.size) (x : Int) (hl : us[i].l.length ≤ 5000) :
    ∃ u : TV, ∃ w1, (Builtin.append_ #[25, 25] 25 #[.slice us[i].A us[i].l.length us[i].c, .slice (some ⟨w.heap.size, 0, none⟩) 1 1]).run Try.prog (w.alloc (.cells #[.int .i64 x] 3)) = .ok (.slice u.A u.l.length u.c) w1 ∧ u.l = us[i].l ++ [x] ∧
      (w1.cell? ⟨g, i, none⟩ = some (.slice us[i].A us[i].l.length us[i].c) ∧ w1.frozen? ⟨g, i, none⟩ = false) ∧ Nest (w1.setCell ⟨g, i, none⟩ (.slice u.A u.l.length u.c)) lo g (us.set i u) ∧ Below lo w (w1.setCell ⟨g, i, none⟩ (.slice u.A u.l.length u.c)) ∧ Fr w (w1.setCell ⟨g, i, none⟩ (.slice u.A u.l.length u.c)) (g :: us[i].val.ownBlock.toList) ∧ Below w.heap.size w (w.alloc (.cells #[.int .i64 x] 3)) ∧ Fr w w1 us[i].val.ownBlock.toList := by
  have hti := h.tup _ (List.getElem_mem hi)
  obtain ⟨u, w1, hrun, hul, hou, hfr, hat, _⟩ := run_appN w lo us[i] [x] hti hlo (by simp; omega)
  have hb1 : Below w.heap.size w (w.alloc (.cells #[.int .i64 x] 3)) := (Below.refl _ _).alloc (Nat.le_refl _) _
  have hf : Fr w w1 us[i].val.ownBlock.toList := (Fr.of_below hb1 _).trans hfr
  have hat' : ∀ b ∈ u.val.ownBlock.toList, b ∈ us[i].val.ownBlock.toList ∨ w.heap.size ≤ b := fun b hb => by
    rcases hat with e | e
    · rw [e] at hb; exact .inl hb
    · rw [e] at hb
      simp at hb
      exact .inr (by omega)
  obtain ⟨h1, h2, h3⟩ := h.put hi hou hf hat'
  exact ⟨u, w1, hrun, hul, h1, h2, h.low hi hlo h3, h3, hb1, hf⟩
/-- A row of rows that stand elsewhere. -/
def RowM (w : World) (lo : Nat) (v : Value) (ys : List TV) : Prop := w.ownsRow lo 25 1 v ys.length (vals ys)
theorem RowM.nil (w : World) (lo : Nat) : RowM w lo (.slice none 0 0) [] := World.ownsRow_nil _ _ _ _
theorem RowM.below {w w' : World} {lo : Nat} {v : Value} {ys : List TV} (h : RowM w lo v ys) (hb : Below w.heap.size w w') : RowM w' lo v ys := own_below h hb (Nat.le_refl _)
theorem RowM.push {w : World} {lo : Nat} {v : Value} {ys : List TV} (h : RowM w lo v ys) (u : TV) (hl : ys.length ≤ 5000) (hlo : lo ≤ w.heap.size) :
    ∃ A5 c5 w5, (Builtin.append_ #[38, 38] 38 #[v, .slice (some ⟨w.heap.size, 0, none⟩) 1 1]).run Try.prog (w.alloc (.cells #[.slice u.A u.l.length u.c] 25)) = .ok (.slice A5 (ys.length + 1) c5) w5 ∧ RowM w5 lo (.slice A5 (ys.length + 1) c5) (ys ++ [u]) ∧ Below lo w w5 ∧ Fr w w5 v.ownBlock.toList := by
  obtain ⟨i0, hi, hz0, hz1, hz2⟩ := info_parts infoRow
  have hb4 : Below w.heap.size w (w.alloc (.cells #[.slice u.A u.l.length u.c] 25)) := (Below.refl _ _).alloc (Nat.le_refl _) _
  have h4 := h.below hb4
  have hrd : Rd (w.alloc (.cells #[.slice u.A u.l.length u.c] 25)) (w.heap.size + 1) (some ⟨w.heap.size, 0, none⟩) (vals [u]) := Rd.new w #[.slice u.A u.l.length u.c] 25 (0, 0)
  obtain ⟨v5, w5, hrun, g1, g2, g3⟩ := run_appR (P := Try.prog) _ lo 38 38 25 i0 _ 1 24 Try.underlying38 hi hz0 hz1 hz2 rfl (by omega) v ys.length (vals ys) h4 (w.heap.size + 1) (some ⟨w.heap.size, 0, none⟩) 1 1 (vals [u]) rfl hrd (vals_one _) (by omega) (by omega) (Nat.le_trans hlo hb4.size)
  rw [← vals_app] at g1
  obtain ⟨A, c, rfl, _, _, _⟩ := own_shape g1
  have hfr := fr_grown g2
  exact ⟨A, c, w5, hrun, by unfold RowM; rw [List.length_append]; exact g1, (lower' hb4 hlo).trans (hfr.below (Nat.le_trans hlo hb4.size) (own_ge h4)), (Fr.of_below hb4 _).trans hfr⟩
/-- Rows by part, of the first k places. -/
def memP (N P : List Int) (k r : Nat) : List Int := ((List.range k).filter fun q => decide (P.getD q (-1) = (r : Int))).map fun q => N.getD q 0
theorem memP_succ (N P : List Int) (k r : Nat) : memP N P (k + 1) r = memP N P k r ++ if P.getD k (-1) = (r : Int) then [N.getD k 0] else [] := by
  unfold memP
  rw [List.range_succ, List.filter_append, List.map_append, List.filter_cons]
  by_cases h : P.getD k (-1) = (r : Int)
  · rw [if_pos h, if_pos (decide_eq_true h)]; rfl
  · rw [if_neg h, if_neg (by simpa using h)]; rfl
theorem memP_len (N P : List Int) (k r : Nat) : (memP N P k r).length ≤ k := by
  unfold memP
  rw [List.length_map]
  have := List.length_filter_le (fun q => decide (P.getD q (-1) = (r : Int))) (List.range k)
  rw [List.length_range] at this
  exact this
def memsP (N P : List Int) (k : Nat) : List Tu := (List.range N.length).map (memP N P k)
theorem memsP_zero (N P : List Int) : memsP N P 0 = List.replicate N.length [] := by
  unfold memsP
  rw [List.eq_replicate_iff]
  exact ⟨by simp, fun x hx => by obtain ⟨p, _, rfl⟩ := List.mem_map.1 hx; rfl⟩
theorem memsP_len (N P : List Int) (k : Nat) : (memsP N P k).length = N.length := by unfold memsP; simp
theorem memsP_at {N P : List Int} {k r : Nat} (h : r < N.length) : (memsP N P k)[r]'(by rw [memsP_len]; exact h) = memP N P k r := by simp [memsP]
theorem memsP_put {N P : List Int} {k r : Nat} (h : P.getD k (-1) = (r : Int)) (hr : r < N.length) : memsP N P (k + 1) = (memsP N P k).set r (memP N P k r ++ [N.getD k 0]) := by
  apply List.ext_getElem
  · rw [List.length_set, memsP_len, memsP_len]
  · intro j h1 h2
    rw [memsP_len] at h1
    rw [List.getElem_set, memsP_at h1, memP_succ]
    by_cases e : r = j
    · subst e; rw [if_pos rfl, if_pos h]
    · rw [if_neg e, if_neg (by omega), memsP_at h1, List.append_nil]
theorem memP_all (N P : List Int) (r : Nat) : memP N P N.length r = partOf N P (r : Int) := rfl
/-- Each place is in a part that is a place's. -/
theorem PartAt.range {O : Rows} {n : Nat} {L : List Nat} {P : List Int} (h : PartAt O n L 0 P) (hL : LeftOk O n L) {p : Nat} (hp : p < n) : ∃ r : Nat, P.getD p (-1) = (r : Int) ∧ r < n := by
  obtain ⟨j, hj, e⟩ := List.getElem_of_mem ((hL.mem p).2 hp)
  have := h.late j hj (Nat.zero_le _)
  rw [e] at this
  obtain ⟨r, h1, h2, _⟩ := h.root p this
  exact ⟨r, h1, h2⟩
theorem part_in {N P : List Int} {p r : Nat} (hp : p < N.length) (h : P.getD p (-1) = (r : Int)) : N.getD p 0 ∈ partOf N P (r : Int) := mem_partOf.2 ⟨p, hp, h, rfl⟩
end Go.Proofs.Ytgjjdmkoamjdpaa
