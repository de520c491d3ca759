/- An Open of a new disk; what a call on a log leaves as it was. -/
import Derived.Test.YtajakmfloeefpaaJnN
import Derived.Test.YtajakmfloeefpaaJnA
namespace Go.Proofs.Ytajakmfloeefpaa
open Go.RowKit Go.Maps

theorem doneOps_armed (o : List DOp) (M : DM) : (doneOps o M).armed = M.armed := by
  induction o generalizing M with
  | nil => rfl
  | cons x r ih => exact (ih _).trans (doneOp_size M x).2.2.1
theorem new_scan (n behind first : Nat) : scan (DM.new n).get behind first none = [] := scan_none (fun _ => hdr_zero)
theorem new_dirty (n : Nat) (L : LG) : L.dirty (DM.new n) = [] := by
  unfold LG.dirty dirtyL
  apply List.filter_eq_nil_iff.2
  intro i _
  show ¬ (!(zero64 == zero64)) = true
  simp
theorem new_ops (n first behind : Nat) : openOps (DM.new n) first behind = [] := by unfold openOps; rw [new_scan, if_pos (new_dirty n _)]
theorem Logged.below {w w' : World} {base q p bs bw T T' B : Nat} {L L' : LG} {v : Value} {M M' : DM} (h : LogD w base q p bs bw T L v M) (hl : Logged w w' base q p bs bw T' v M' L') (hB : B ≤ w.heap.size) (hp : B ≤ p ∧ B ≤ bs ∧ B ≤ bw ∧ B ≤ q) : Below B w w' := by
  obtain ⟨v', _, hf⟩ := hl
  refine hf.below hB (fun x hx => ?_)
  have := h.log.lt
  rcases List.mem_append.1 hx with h1 | h1
  · simp at h1; omega
  · have := own_ge h.log.row x h1; omega
theorem open_new {w : World} {p bs bw m : Nat} (hm : m ≤ 80) (hD : DiskM w p bs bw (DM.new m) 0) (first count : Nat) (hc : 2 ≤ count) (hfit : first + count ≤ m) :
    Calls Try.prog 7 #[.pointer (some ⟨p, 0, none⟩), .int .i64 (first : Int), .int .i64 (count : Int)] w fun e w' => ∃ q A c v, e = .returned (.tuple #[.pointer (some ⟨q, 0, none⟩), .slice A 0 c, .int .i64 0]) ∧ w.heap.size ≤ q ∧ LogD w' (q + 1) q p bs bw 4097 (LG.of first (first + count) []) v (DM.new m) ∧ Fr w w' [p, bs, bw] := by
  refine (open_any hD first count hc hfit ⟨by show m ≤ _; omega, by show 0 + 4097 ≤ _; omega, by show 0 ≤ _; omega, by omega⟩).mono ?_
  rintro e w' ⟨h1, _, h3⟩
  rw [new_ops] at h1
  obtain ⟨q, u, v, rfl, h4, h5, h6⟩ := h1 rfl
  rw [new_scan] at h5 h6
  obtain ⟨R, hR1, hR2, _⟩ := h5.ex
  have hR : R = [] := by cases R with
    | nil => rfl
    | cons a b => simp at hR1
  subst hR
  obtain ⟨A, c, rfl, _, _, _⟩ := own_shape hR2
  refine ⟨q, A, c, v, rfl, h4, ?_, h3⟩
  have h7 := h6
  rw [Nat.zero_add] at h7
  exact h7
end Go.Proofs.Ytajakmfloeefpaa
