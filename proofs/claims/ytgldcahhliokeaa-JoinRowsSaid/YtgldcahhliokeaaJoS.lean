/- join.with: the rows of one atom more. -/
import Derived.Test.YtgldcahhliokeaaJoR
namespace Go.Proofs.Ytgldcahhliokeaa
open Go.RowKit Go.Maps

/-- Rows that the call has made. -/
structure RowsAt (wr : World) (lo : Nat) (v : Value) (us : List TV) : Prop where
  row : OwnT wr lo v us
  tup : ∀ u ∈ us, OwnI wr lo u ∧ u.l.length ≤ 100
theorem RowsAt.nil (w : World) (lo : Nat) : RowsAt w lo (.slice none 0 0) [] := ⟨World.ownsRow_nil _ _ _ _, fun _ h => nomatch h⟩
theorem RowsAt.kept {w w' : World} {lo : Nat} {v : Value} {us : List TV} (h : RowsAt w lo v us) (hb : Below w.heap.size w w') : RowsAt w' lo v us :=
  ⟨OwnT.below h.row hb, fun u hu => ⟨(h.tup u hu).1.below hb, (h.tup u hu).2⟩⟩
/-- A row more. -/
theorem RowsAt.push {w : World} {lo : Nat} {v : Value} {us : List TV} {u : TV} (h : RowsAt w lo v us) (hu : OwnI w lo u) (hul : u.l.length ≤ 100) (hl : us.length ≤ 5000) (hlo : lo ≤ w.heap.size) :
    ∃ A5 c5 w5, (Builtin.append_ #[30, 30] 30 #[v, .slice (some ⟨w.heap.size, 0, none⟩) 1 1]).run Try.prog (w.alloc (.cells #[.slice u.A u.l.length u.c] 43)) = .ok (.slice A5 (us.length + 1) c5) w5 ∧ RowsAt w5 lo (.slice A5 (us.length + 1) c5) (us ++ [u]) ∧ Below lo w w5 := by
  obtain ⟨i0, hi, hz0, hz1, hz2⟩ := info_parts infoTup
  have hb4 : Below w.heap.size w (w.alloc (.cells #[.slice u.A u.l.length u.c] 43)) := (Below.refl _ _).alloc (Nat.le_refl _) _
  have h4 := h.kept hb4
  have hu4 := hu.below hb4
  have hrd : Rd (w.alloc (.cells #[.slice u.A u.l.length u.c] 43)) (w.heap.size + 1) (some ⟨w.heap.size, 0, none⟩) (vals [u]) := Rd.new w #[.slice u.A u.l.length u.c] 43 (0, 0)
  obtain ⟨v5, w5, hrun, g1, g2, g3⟩ := run_appR (P := Try.prog) _ lo 30 30 43 i0 _ 1 24 Try.underlying30 hi hz0 hz1 hz2 rfl (by omega) v us.length (vals us) h4.row (w.heap.size + 1) (some ⟨w.heap.size, 0, none⟩) 1 1 (vals [u]) rfl hrd (vals_one _) (by omega) (by omega) (Nat.le_trans hlo hb4.size)
  rw [← vals_app] at g1
  obtain ⟨A, c, rfl, _, _, _⟩ := own_shape g1
  have hfr := fr_grown g2
  refine ⟨A, c, w5, hrun, ⟨by unfold OwnT; rw [List.length_append]; exact g1, fun t ht => ?_⟩, (lower' hb4 hlo).trans (hfr.below (Nat.le_trans hlo hb4.size) (own_ge h4.row))⟩
  have hap : ∀ t : TV, OwnI (w.alloc (.cells #[.slice u.A u.l.length u.c] 43)) lo t → ∀ a, t.A = some a → a.block ∉ v.ownBlock.toList := fun t ht a ha hm =>
    own_apart ht h4.row (by decide) a.block (by unfold TV.val; rw [ha]; simp [Value.ownBlock]) hm
  rcases List.mem_append.1 ht with ht | ht
  · exact ⟨(h4.tup t ht).1.fr hfr (hap t (h4.tup t ht).1), (h4.tup t ht).2⟩
  · rw [List.mem_singleton.1 ht]
    exact ⟨hu4.fr hfr (hap u hu4), hul⟩
theorem RowsAt.ok {w : World} {lo : Nat} {A : Option Addr} {n c : Nat} {us : List TV} (h : RowsAt w lo (.slice A n c) us) (hl : us.length ≤ 5000) : n = us.length ∧ LV.Ok w ⟨A, us, c⟩ := by
  obtain ⟨A', c', e, h1, _, h2⟩ := own_shape h.row
  injection e with e1 e2 e3
  subst e1 e2 e3
  exact ⟨rfl, h2, fun t ht => (h.tup t ht).1.ok (by have := (h.tup t ht).2; omega), h1, hl⟩
theorem withL_at {s : Stp} {ahead : List Tu} {es : List Ed} {k : Nat} (h : k < ahead.length) : withL s ahead es = withL s (ahead.take k) es ++ (foundL s es (tellsS s ahead[k])).map (withS s ahead[k]) ++ withL s (ahead.drop (k + 1)) es := by
  unfold withL
  rw [← List.flatMap_singleton (f := fun row => (foundL s es (tellsS s row)).map (withS s row)) ahead[k], ← List.flatMap_append, ← List.flatMap_append]
  congr 1
  rw [List.append_assoc, List.singleton_append, ← List.drop_eq_getElem_cons h, List.take_append_drop]
theorem withL_take {s : Stp} {ahead : List Tu} {es : List Ed} {k : Nat} (h : k < ahead.length) : withL s (ahead.take (k + 1)) es = withL s (ahead.take k) es ++ (foundL s es (tellsS s ahead[k])).map (withS s ahead[k]) := by
  unfold withL
  rw [List.take_succ_eq_append_getElem h, List.flatMap_append, List.flatMap_singleton]
theorem tells_i64 {s : Stp} {row : Tu} (h : ∀ v ∈ row, I64 v) : I64 (tellsS s row).1 ∧ I64 (tellsS s row).2 := by
  have h0 : I64 0 := by unfold I64; omega
  have hg : ∀ i, I64 (row.getD i 0) := fun i => by
    rw [List.getD_eq_getElem?_getD]
    rcases hi : row[i]? with _ | v
    · exact h0
    · exact h v (List.mem_of_getElem? hi)
  unfold tellsS
  constructor
  · dsimp only; split
    · exact hg _
    · exact h0
  · dsimp only; split
    · exact hg _
    · exact h0
theorem told_i64 {s : Stp} {e : Int × Int} (h1 : I64 e.1) (h2 : I64 e.2) : I64 (toldS s e).1 ∧ I64 (toldS s e).2 := by
  have h0 : I64 0 := by unfold I64; omega
  unfold toldS
  constructor
  · dsimp only; split
    · exact h0
    · exact h1
  · dsimp only; split
    · exact h0
    · exact h2
theorem fit_i64 {s : Stp} {es : List Ed} (h : ∀ e ∈ es, e.Ok) : ∀ e ∈ fitL s es, I64 e.1 ∧ I64 e.2 := by
  intro e he
  unfold fitL at he
  obtain ⟨d, hd, rfl⟩ := List.mem_map.1 he
  have := h d (List.mem_filter.1 hd).1
  exact ⟨this.f, this.t⟩
end Go.Proofs.Ytgldcahhliokeaa
