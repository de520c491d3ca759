/- Pairs in memory; the document's has. -/
import Derived.Test.YtgjjdmkoamjdpaaJoAD
import Derived.Test.YtgjjdmkoamjdpaaJnD
import Derived.Test.YtgjjdmkoamjdpaaJnG
namespace Go.Proofs.Ytgjjdmkoamjdpaa
open Go.RowKit Go.Maps

def prC (p : Pr) : List Value := [.int .i64 p.1, .int .i64 p.2]
def psC (l : List Pr) : List Value := l.flatMap prC
theorem psC_app (a b : List Pr) : psC (a ++ b) = psC a ++ psC b := List.flatMap_append
theorem psC_len (l : List Pr) : (psC l).length = l.length * 2 := by
  induction l with
  | nil => rfl
  | cons a l ih =>
    show (prC a ++ psC l).length = _
    rw [List.length_append, ih, List.length_cons]
    show 2 + _ = _
    omega
theorem psC_one (l : List Pr) : ∀ u ∈ psC l, u.oneCell' = true := by
  intro u hu
  obtain ⟨s, _, hs⟩ := List.mem_flatMap.1 hu
  simp [prC] at hs
  rcases hs with rfl | rfl <;> rfl
/-- A list of pairs in memory. -/
structure Prs (w : World) (A : Option Addr) (c : Nat) (l : List Pr) : Prop where
  rd : Rd w w.heap.size A (psC l)
  cap : l.length ≤ c
  sm : l.length ≤ 5000
theorem Prs.below {w w' : World} {A : Option Addr} {c : Nat} {l : List Pr} (h : Prs w A c l) (hb : Below w.heap.size w w') : Prs w' A c l :=
  ⟨(h.rd.below hb (Nat.le_refl _)).more hb.size, h.cap, h.sm⟩
theorem Prs.cell {w : World} {A : Option Addr} {c : Nat} {l : List Pr} (h : Prs w A c l) {k : Nat} (hk : k < l.length) : ∃ b o, A = some ⟨b, o, none⟩ ∧ b < w.heap.size ∧ w.cell? ⟨b, o + k * 2, none⟩ = some (.int .i64 l[k].1) ∧ w.cell? ⟨b, o + k * 2 + 1, none⟩ = some (.int .i64 l[k].2) := by
  have hne : psC l ≠ [] := fun e => by have := psC_len l; rw [e] at this; simp at this; omega
  obtain ⟨b, o, e, hb, hc⟩ := h.rd hne
  have hat := fun j hj => flat2_at prC (fun _ => rfl) l k j hk hj
  refine ⟨b, o, e, hb, hc (k * 2) _ (hat 0 (by omega)), ?_⟩
  rw [Nat.add_assoc]; exact hc (k * 2 + 1) _ (hat 1 (by omega))
theorem infoPair : (Try.prog.info? 49).map (fun i => (i.zero, i.size, i.bytes)) = some (some (.agg #[.int .i64 0, .int .i64 0]), 2, 16) := by kernel_rfl
/-- A row of pairs of the call's own. -/
def PrRow (lo : Nat) (wr : World) (v : Value) (l : List Pr) : Prop := wr.ownsRow lo 49 2 v l.length (psC l)
theorem PrRow.nil (lo : Nat) (w : World) : PrRow lo w (.slice none 0 0) [] := World.ownsRow_nil _ _ _ _
theorem PrRow.kept {lo : Nat} {w w' : World} {v : Value} {l : List Pr} (h : PrRow lo w v l) (hb : Below w.heap.size w w') : PrRow lo w' v l := own_below h hb (Nat.le_refl _)
theorem PrRow.prs {lo : Nat} {w : World} {v : Value} {l : List Pr} (h : PrRow lo w v l) (hl : l.length ≤ 5000) : ∃ A c, v = .slice A l.length c ∧ Prs w A c l := by
  obtain ⟨A, c, e, h1, h2, h3⟩ := own_shape h
  exact ⟨A, c, e, h3, h1, hl⟩
/-- Pairs more. -/
theorem PrRow.app {lo : Nat} {w : World} {v : Value} {l m : List Pr} {B : Nat} {A : Option Addr} {k c : Nat} (h : PrRow lo w v l) (hk : k = m.length) (hr : Rd w B A (psC m)) (hl : l.length + m.length ≤ 10000) (hlo : lo ≤ w.heap.size) :
    ∃ v5 w5, (Builtin.append_ #[46, 46] 46 #[v, .slice A k c]).run Try.prog w = .ok v5 w5 ∧ PrRow lo w5 v5 (l ++ m) ∧ Below lo w w5 := by
  obtain ⟨i, hi, hz0, hz1, hz2⟩ := info_parts infoPair
  obtain ⟨v5, w5, hrun, g1, g2, g3⟩ := run_appR (P := Try.prog) w lo 46 46 49 i _ 2 16 Try.underlying46 hi hz0 hz1 hz2 rfl (by omega) v l.length (psC l) h B A k c (psC m) (by rw [psC_len, hk]) hr (psC_one _) (by omega) (by omega) hlo
  refine ⟨v5, w5, hrun, ?_, (Below.refl lo _).grown g2 hlo (fun k hk => (World.ownsRow.lt h k hk).1)⟩
  unfold PrRow
  rw [psC_app, List.length_append, ← hk]
  exact g1
/-- A pair more. -/
theorem PrRow.push {lo : Nat} {w : World} {v : Value} {l : List Pr} (h : PrRow lo w v l) (p : Pr) (hl : l.length ≤ 5000) (hlo : lo ≤ w.heap.size) :
    ∃ v5 w5, (Builtin.append_ #[46, 46] 46 #[v, .slice (some ⟨w.heap.size, 0, none⟩) 1 1]).run Try.prog (w.alloc (.cells #[.int .i64 p.1, .int .i64 p.2] 49)) = .ok v5 w5 ∧ PrRow lo w5 v5 (l ++ [p]) ∧ Below lo w w5 := by
  have hb4 : Below w.heap.size w (w.alloc (.cells (prC p).toArray 49)) := (Below.refl _ _).alloc (Nat.le_refl _) _
  have hrd : Rd (w.alloc (.cells (prC p).toArray 49)) (w.heap.size + 1) (some ⟨w.heap.size, 0, none⟩) (psC [p]) := by
    have := Rd.new w (prC p).toArray 49 (0, 0)
    exact this
  obtain ⟨v5, w5, h1, h2, h3⟩ := (h.kept hb4).app (m := [p]) (k := 1) (c := 1) rfl hrd (by simp; omega) (Nat.le_trans hlo hb4.size)
  exact ⟨v5, w5, h1, h2, (lower' hb4 hlo).trans h3⟩
theorem mem_take_succ {l : List Pr} {k : Nat} (h : k < l.length) (p : Pr) : p ∈ l.take (k + 1) ↔ p ∈ l.take k ∨ p = l[k] := by
  rw [List.take_succ_eq_append_getElem h, List.mem_append, List.mem_singleton]
set_option maxRecDepth 100000 in
set_option maxHeartbeats 4000000 in
theorem has13_any (A : Option Addr) (c : Nat) (l : List Pr) (pa pb : Int) (w : World) (h : Prs w A c l) : Calls Try.prog 25 #[.slice A l.length c, .agg #[.int .i64 pa, .int .i64 pb]] w fun e w' => e = .returned (.bool (decide ((pa, pb) ∈ l))) ∧ Below w.heap.size w w' := by
  obtain ⟨R, hR⟩ : ∃ R, R = decide ((pa, pb) ∈ l) := ⟨_, rfl⟩
  rw [← hR]
  have hs := h.sm
  have hb0 : Below w.heap.size w (w.alloc (.cells #[.int .i64 pa, .int .i64 pb] 49)) := (Below.refl _ _).alloc (Nat.le_refl _) _
  have hg0 := heap_alloc_new w (.cells #[.int .i64 pa, .int .i64 pb] 49)
  have HA := Lib.hid (And.intro (h.below hb0) (And.intro hR (And.intro hb0 hg0)))
  clear h hR hb0 hg0
  go_enter Try.func25, Try.ntmps25
  go_wp2_with (fail)
  generalize w.alloc (.cells #[.int .i64 pa, .int .i64 pb] 49) = w1 at HA ⊢
  go_loopw [8] (fun v8 wr => ∃ k : Nat, k ≤ l.length ∧ v8 = .int .i64 (k : Int) ∧ Hid (Below w1.heap.size w1 wr ∧ (pa, pb) ∉ l.take k)) (fun v8 _ => l.length - (intOf v8).toNat)
  case atStart => exact ⟨0, by omega, rfl, Lib.hid ⟨Below.refl _ _, by simp⟩⟩
  case round =>
    obtain ⟨k, hk, rfl, hrel⟩ := hrel
    rename World => wr
    by_cases hlt : k < l.length
    · have hlI : (k : Int) < (l.length : Int) := by omega
      obtain ⟨b, o, hA, _, c0, c1⟩ := (HA.out.1.below hrel.out.1).cell hlt
      have HM := Lib.hid (fun h => (mem_take_succ hlt (pa, pb)).1 h)
      have HY := Lib.hid (List.getElem_mem hlt)
      have hg := (hrel.out.1.block _ (heap_lt HA.out.2.2.2)).trans HA.out.2.2.2
      have d0 := cell_of_row _ _ 0 _ _ _ hg
      have d1 := cell_of_row _ _ 1 _ _ _ hg
      rw [hA]
      generalize l[k] = q at c0 c1 HM HY
      obtain ⟨qa, qb⟩ := q
      dsimp only at c0 c1
      clear hg hA
      have no : ¬ (pa, pb) = (qa, qb) → Hid ((pa, pb) ∉ l.take (k + 1)) := fun hn => Lib.hid fun h => (HM.out h).elim hrel.out.2 hn
      by_cases h1 : qa = pa
      · by_cases h2 : qb = pb
        · have HR := Lib.hid (show R = true from by rw [HA.out.2.1, decide_eq_true_iff, ← h1, ← h2]; exact HY.out)
          have HB := Lib.hid (HA.out.2.2.1.trans (lower' hrel.out.1 HA.out.2.2.1.size))
          have g1 := h1.symm
          have g2 := h2.symm
          clear h1 h2 hrel no HM HY
          subst g1 g2
          go_upto_region 4 with (fail)
          go_quiet (fail)
          go_wp2_with (fail)
          go_ret
          exact ⟨by rw [HR.out]; rfl, Below.drewN' HB.out _⟩
        · have HN := no fun e => h2 (Prod.mk.inj e).2.symm
          have HB := Lib.hid hrel.out.1
          have g1 := h1.symm
          clear h1 hrel no HM HY
          subst g1
          go_upto_region 4 with (fail)
          go_quiet (fail)
          clear h2
          go_wp2_with (fail)
          go_roundw
          case rel => exact ⟨k + 1, by omega, by go_num, Lib.hid ⟨Below.drewN' HB.out _, HN.out⟩⟩
          case measure => simp [intOf]; omega
      · have HN := no fun e => h1 (Prod.mk.inj e).1.symm
        have HB := Lib.hid hrel.out.1
        clear hrel no HM HY
        go_upto_region 4 with (fail)
        go_quiet (fail)
        clear h1
        go_wp2_with (fail)
        go_roundw
        case rel => exact ⟨k + 1, by omega, by go_num, Lib.hid ⟨Below.drewN' HB.out _, HN.out⟩⟩
        case measure => simp [intOf]; omega
    · obtain rfl : k = l.length := by omega
      have hlI : ¬ (l.length : Int) < (l.length : Int) := by omega
      have HB := Lib.hid (HA.out.2.2.1.trans (lower' hrel.out.1 HA.out.2.2.1.size))
      have HR := Lib.hid (show R = false from by
        rw [HA.out.2.1, decide_eq_false_iff_not]
        have := hrel.out.2
        rwa [List.take_of_length_le (Nat.le_refl _)] at this)
      clear hrel
      go_wp2_with (fail)
      go_ret
      exact ⟨by rw [HR.out]; rfl, HB.out⟩
end Go.Proofs.Ytgjjdmkoamjdpaa
