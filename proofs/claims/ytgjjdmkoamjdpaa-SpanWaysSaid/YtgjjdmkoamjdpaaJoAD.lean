/- A row of edges of the call's own. -/
import Derived.Test.YtgjjdmkoamjdpaaJnD
namespace Go.Proofs.Ytgjjdmkoamjdpaa
open Go.RowKit Go.Maps

def EdRow (lo : Nat) (wr : World) (v : Value) (l : List Ed) : Prop := wr.ownsRow lo 34 3 v l.length (edsC l)
theorem EdRow.nil (lo : Nat) (w : World) : EdRow lo w (.slice none 0 0) [] := World.ownsRow_nil _ _ _ _
theorem EdRow.kept {lo : Nat} {w w' : World} {v : Value} {l : List Ed} (h : EdRow lo w v l) (hb : Below w.heap.size w w') : EdRow lo w' v l := own_below h hb (Nat.le_refl _)
theorem EdRow.eds {lo : Nat} {w : World} {v : Value} {l : List Ed} (h : EdRow lo w v l) (hk : ∀ e ∈ l, e.Ok) (hl : l.length ≤ 200) : ∃ A c, v = .slice A l.length c ∧ Eds w A c l := by
  obtain ⟨A, c, e, h1, h2, h3⟩ := own_shape h
  exact ⟨A, c, e, h3, h1, hk, hl⟩
/-- An edge more. -/
theorem EdRow.push {lo : Nat} {w : World} {v : Value} {l : List Ed} (h : EdRow lo w v l) (e : Ed) (hl : l.length ≤ 5000) (hlo : lo ≤ w.heap.size) :
    ∃ v5 w5, (Builtin.append_ #[22, 22] 22 #[v, .slice (some ⟨w.heap.size, 0, none⟩) 1 1]).run Try.prog (w.alloc (.cells #[.int .i64 e.f, .string ⟨e.lab.toArray⟩, .int .i64 e.t] 34)) = .ok v5 w5 ∧ EdRow lo w5 v5 (l ++ [e]) ∧ Below lo w w5 := by
  obtain ⟨i, hi, hz0, hz1, hz2⟩ := info_parts infoEdge
  have hb4 : Below w.heap.size w (w.alloc (.cells (edC e).toArray 34)) := (Below.refl _ _).alloc (Nat.le_refl _) _
  have hr4 := own_below h hb4 (Nat.le_refl _)
  have hz : lo ≤ (w.alloc (.cells (edC e).toArray 34)).heap.size := Nat.le_trans hlo hb4.size
  have hrd : Rd (w.alloc (.cells (edC e).toArray 34)) (w.heap.size + 1) (some ⟨w.heap.size, 0, none⟩) (edsC [e]) := by
    have := Rd.new w (edC e).toArray 34 (0, 0)
    exact this
  obtain ⟨v5, w5, hrun, g1, g2, g3⟩ := run_appR (P := Try.prog) _ lo 22 22 34 i _ 3 32 Try.underlying22 hi hz0 hz1 hz2 rfl (by omega) v l.length (edsC l) hr4 (w.heap.size + 1) (some ⟨w.heap.size, 0, none⟩) 1 1 (edsC [e]) (by rw [edsC_len]; rfl) hrd (edsC_one _) (by omega) (by omega) hz
  have hb5 : Below lo (w.alloc (.cells (edC e).toArray 34)) w5 := (Below.refl lo _).grown g2 hz (fun k hk => (World.ownsRow.lt hr4 k hk).1)
  refine ⟨v5, w5, hrun, ?_, (lower' hb4 hlo).trans hb5⟩
  unfold EdRow
  rw [edsC_app, List.length_append]
  exact g1
end Go.Proofs.Ytgjjdmkoamjdpaa
