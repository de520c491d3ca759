/- A step's calls: Fitting, Told, Tells. -/
import Derived.Test.YtgldcahhliokeaaJoM
namespace Go.Proofs.Ytgldcahhliokeaa
open Go.RowKit Go.Maps

def enC (e : Int × Int) : List Value := [.int .i64 e.1, .int .i64 e.2]
def ensC (l : List (Int × Int)) : List Value := l.flatMap enC
theorem ensC_app (a b : List (Int × Int)) : ensC (a ++ b) = ensC a ++ ensC b := List.flatMap_append
theorem ensC_len (l : List (Int × Int)) : (ensC l).length = l.length * 2 := by
  induction l with
  | nil => rfl
  | cons a l ih =>
    show (enC a ++ ensC l).length = _
    rw [List.length_append, ih, List.length_cons]
    show 2 + _ = _
    omega
theorem ensC_one (l : List (Int × Int)) : ∀ u ∈ ensC l, u.oneCell' = true := by
  intro u hu
  obtain ⟨s, _, hs⟩ := List.mem_flatMap.1 hu
  simp [enC] at hs
  rcases hs with rfl | rfl <;> rfl
theorem flat2_at {α : Type} (f : α → List Value) (hf : ∀ a, (f a).length = 2) : ∀ (l : List α) (k j : Nat) (hk : k < l.length), j < 2 → (l.flatMap f)[k * 2 + j]? = (f l[k])[j]?
  | [], k, _, hk, _ => absurd hk (by simp)
  | a :: l, 0, j, _, hj => by
    rw [List.flatMap_cons, Nat.zero_mul, Nat.zero_add, List.getElem?_append_left (by rw [hf]; exact hj)]
    rfl
  | a :: l, k + 1, j, hk, hj => by
    rw [List.flatMap_cons, List.getElem?_append_right (by rw [hf]; omega), hf]
    have e : (k + 1) * 2 + j - 2 = k * 2 + j := by omega
    rw [e, flat2_at f hf l k j (by simpa using hk) hj]
    rfl
theorem infoEnds : (Try.prog.info? 120).map (fun i => (i.zero, i.size, i.bytes)) = some (some (.agg #[.int .i64 0, .int .i64 0]), 2, 16) := by kernel_rfl
/-- A list of ends in memory. -/
structure Ens (w : World) (A : Option Addr) (c : Nat) (l : List (Int × Int)) : Prop where
  rd : Rd w w.heap.size A (ensC l)
  cap : l.length ≤ c
theorem Ens.below {w w' : World} {A : Option Addr} {c : Nat} {l : List (Int × Int)} (h : Ens w A c l) (hb : Below w.heap.size w w') : Ens w' A c l := ⟨(h.rd.below hb (Nat.le_refl _)).more hb.size, h.cap⟩
theorem Ens.cell {w : World} {A : Option Addr} {c : Nat} {l : List (Int × Int)} (h : Ens w A c l) {k : Nat} (hk : k < l.length) : ∃ b o, A = some ⟨b, o, none⟩ ∧ b < w.heap.size ∧ w.cell? ⟨b, o + k * 2, none⟩ = some (.int .i64 l[k].1) ∧ w.cell? ⟨b, o + k * 2 + 1, none⟩ = some (.int .i64 l[k].2) := by
  have hne : ensC l ≠ [] := fun e => by have := ensC_len l; rw [e] at this; simp at this; omega
  obtain ⟨b, o, e, hb, hc⟩ := h.rd hne
  have hat := fun j hj => flat2_at enC (fun _ => rfl) l k j hk hj
  refine ⟨b, o, e, hb, hc (k * 2) _ (hat 0 (by omega)), ?_⟩
  rw [Nat.add_assoc]
  exact hc (k * 2 + 1) _ (hat 1 (by omega))
/-- append of one pair of ends to a row of the call's own. -/
theorem run_appE (w : World) (base : Nat) (v : Value) (l : List (Int × Int)) (e : Int × Int) (h : w.ownsRow base 120 2 v l.length (ensC l)) (hb : base ≤ w.heap.size) (hl : l.length ≤ 1000) :
    ∃ v' w', (Builtin.append_ #[117, 117] 117 #[v, .slice (some ⟨w.heap.size, 0, none⟩) 1 1]).run Try.prog (w.alloc (.cells #[.int .i64 e.1, .int .i64 e.2] 120)) = .ok v' w' ∧ w'.ownsRow base 120 2 v' (l ++ [e]).length (ensC (l ++ [e])) ∧ (w.alloc (.cells #[.int .i64 e.1, .int .i64 e.2] 120)).grownBy w' v.ownBlock ∧ Below base w w' ∧ (v'.ownBlock = v.ownBlock ∨ v'.ownBlock = some (w.heap.size + 1)) := by
  obtain ⟨i, hi, hz0, hz1, hz2⟩ := info_parts infoEnds
  have hb4 : Below w.heap.size w (w.alloc (.cells #[.int .i64 e.1, .int .i64 e.2] 120)) := (Below.refl _ _).alloc (Nat.le_refl _) _
  have hr4 := own_below h hb4 (Nat.le_refl _)
  have hrd : Rd (w.alloc (.cells #[.int .i64 e.1, .int .i64 e.2] 120)) (w.heap.size + 1) (some ⟨w.heap.size, 0, none⟩) (ensC [e]) := Rd.new w #[.int .i64 e.1, .int .i64 e.2] 120 (0, 0)
  obtain ⟨v5, w5, hrun, g1, g2, g3⟩ := run_appR (P := Try.prog) _ base 117 117 120 i _ 2 16 Try.underlying117 hi hz0 hz1 hz2 rfl (by omega) v l.length (ensC l) hr4 (w.heap.size + 1) (some ⟨w.heap.size, 0, none⟩) 1 1 (ensC [e]) (by rw [ensC_len]; rfl) hrd (ensC_one _) (by omega) (by omega) (Nat.le_trans hb hb4.size)
  refine ⟨v5, w5, hrun, ?_, g2, (lower' hb4 hb).trans (grown_below' g2 (fun z hz => (World.ownsRow.lt hr4 z hz).1) (Nat.le_trans hb hb4.size)), ?_⟩
  · rw [ensC_app, List.length_append]
    exact g1
  · rw [alloc1_size] at g3
    exact g3
/-- What Fitting answers. -/
def FiPost (w : World) (l : List (Int × Int)) (e : Ending) (w' : World) : Prop := ∃ A c, e = .returned (.slice A l.length c) ∧ Ens w' A c l ∧ Below w.heap.size w w'
set_option maxRecDepth 100000 in
set_option maxHeartbeats 4000000 in
theorem fitting_any (s : Stp) (A : Option Addr) (c : Nat) (es : List Ed) (w : World) (h : Eds w A c es) : Calls Try.prog 79 #[stV s, .slice A es.length c] w (FiPost w (fitL s es)) := by
  have hs := h.sm
  have hb0 : Below w.heap.size w (w.alloc (.cells #[.string ⟨s.lab.toArray⟩, .int .i64 (s.fr : Int), .int .i64 (s.to : Int), .int .i64 (s.kn : Int)] 99)) := (Below.refl _ _).alloc (Nat.le_refl _) _
  have hg0 := heap_alloc_new w (.cells #[.string ⟨s.lab.toArray⟩, .int .i64 (s.fr : Int), .int .i64 (s.to : Int), .int .i64 (s.kn : Int)] 99)
  have HA := Lib.hid h
  have H0 := Lib.hid (And.intro hb0 hg0)
  clear h hb0 hg0
  go_enter Try.func79, Try.ntmps79
  go_wp2_with (fail)
  go_loopw [5, 10] (fun out i wr => ∃ k : Nat, k ≤ es.length ∧ i = .int .i64 (k : Int) ∧ Hid (wr.ownsRow (w.heap.size + 1) 120 2 out (fitL s (es.take k)).length (ensC (fitL s (es.take k))) ∧ wr.heap[w.heap.size]? = some (.cells #[.string ⟨s.lab.toArray⟩, .int .i64 (s.fr : Int), .int .i64 (s.to : Int), .int .i64 (s.kn : Int)] 99 (0, 0)) ∧ Below w.heap.size w wr)) (fun _ i _ => es.length - (intOf i).toNat)
  case atStart => exact ⟨0, by omega, rfl, Lib.hid ⟨World.ownsRow_nil _ _ _ _, H0.out.2, H0.out.1⟩⟩
  case round =>
    obtain ⟨k, hk, rfl, hrel⟩ := hrel
    by_cases hlt : k < es.length
    · obtain ⟨b, o, hA, _, c0, c1, c2⟩ := (HA.out.below hrel.out.2.2).cell hlt
      have hlI : (k : Int) < (es.length : Int) := by omega
      have hft := fitL_take (s := s) hlt
      have hfl : (fitL s (es.take k)).length ≤ 200 := by
        have h1 := fitL_len s (es.take k)
        rw [List.length_take] at h1
        omega
      rw [hA]
      generalize es[k] = y at c0 c1 c2 hft
      generalize fitL s (es.take k) = L at hrel hft hfl
      have hwl := heap_lt hrel.out.2.1
      have hb1 := hrel.out.2.2.alloc hrel.out.2.2.size (.cells #[.int .i64 y.f, .string ⟨y.lab.toArray⟩, .int .i64 y.t] 61)
      have hg1 := (Below.heap_alloc _ (.cells #[.int .i64 y.f, .string ⟨y.lab.toArray⟩, .int .i64 y.t] 61) _ hwl).trans hrel.out.2.1
      have ho1 := World.ownsRow.alloc hrel.out.1 (.cells #[.int .i64 y.f, .string ⟨y.lab.toArray⟩, .int .i64 y.t] 61)
      have d0 := cell_of_row _ _ 0 _ _ _ hg1; have d1 := cell_of_row _ _ 1 _ _ _ hg1; have d2 := cell_of_row _ _ 2 _ _ _ hg1
      obtain ⟨v5, w5, hrun, h5, h6, h7, h8⟩ := run_appE _ (w.heap.size + 1) u5 L (y.f, y.t) ho1 (by simp; omega) (by omega)
      dsimp only at hrun
      rw [alloc1_size] at hrun
      have hg5 : w5.heap[w.heap.size]? = _ := (h7.block _ (Nat.lt_succ_self _)).trans hg1
      have H1 := Lib.hid (And.intro hb1 (And.intro hg1 ho1))
      have H5 := Lib.hid (And.intro h5 (And.intro hg5 (hb1.trans (lower' h7 (Nat.le_succ _)))))
      unfold fitB at hft
      clear hb1 hg1 ho1 h5 h6 h7 h8 hg5 hrel
      by_cases hlab : y.lab = s.lab
      rotate_left
      · have hl : (y.lab == s.lab) = false := beq_eq_false_iff_ne.2 hlab
        have hft : Hid (fitL s (es.take (k + 1)) = L) := Lib.hid (by rw [hft, decide_eq_false hlab]; simp)
        clear hlab
        go_wp2_with (fail)
        go_roundw
        case rel => exact ⟨k + 1, by omega, by go_num, Lib.hid (by rw [hft.out]; exact ⟨H1.out.2.2, H1.out.2.1, H1.out.1⟩)⟩
        case measure => simp [intOf]; omega
      · obtain ⟨yf, yl, yt⟩ := y
        dsimp only at *
        subst hlab
        have hft := hft
        by_cases hne : s.fr = s.to
        · have hneI : ((s.fr : Int) != (s.to : Int)) = false := by rw [hne]; simp
          have hneJ : (s.fr != s.to) = false := by rw [hne]; simp
          have hneK : ((s.fr : Int) == (s.to : Int)) = true := by rw [hne]; simp
          by_cases hxy : yf = yt
          · have hft : Hid (fitL s (es.take (k + 1)) = L ++ [(yf, yt)]) := Lib.hid (by rw [hft, decide_eq_true rfl, decide_eq_true hxy]; simp)
            have hft := hft.out
            subst hxy
            have hft := Lib.hid hft
            go_wp2_with (at_builtin; refine wpL_appK _ rfl (.tmp 33) (.tmp 39) 117 rfl rfl _ _ _ _ rfl rfl hrun ?_)
            go_roundw
            case rel => exact ⟨k + 1, by omega, by go_num, Lib.hid (by rw [hft.out]; exact H5.out)⟩
            case measure => simp [intOf]; omega
          · have hxyI : (yf == yt) = false := beq_eq_false_iff_ne.2 hxy
            have hft : Hid (fitL s (es.take (k + 1)) = L) := Lib.hid (by rw [hft, decide_eq_true hne, decide_eq_false hxy]; simp)
            clear hxy
            go_wp2_with (fail)
            go_roundw
            case rel => exact ⟨k + 1, by omega, by go_num, Lib.hid (by rw [hft.out]; exact ⟨H1.out.2.2, H1.out.2.1, H1.out.1⟩)⟩
            case measure => simp [intOf]; omega
        · have hneI : ((s.fr : Int) == (s.to : Int)) = false := by rw [beq_eq_false_iff_ne]; omega
          have hft : Hid (fitL s (es.take (k + 1)) = L ++ [(yf, yt)]) := Lib.hid (by rw [hft, decide_eq_true rfl, decide_eq_false hne]; simp)
          clear hne
          go_wp2_with (at_builtin; refine wpL_appK _ rfl (.tmp 33) (.tmp 39) 117 rfl rfl _ _ _ _ rfl rfl hrun ?_)
          go_roundw
          case rel => exact ⟨k + 1, by omega, by go_num, Lib.hid (by rw [hft.out]; exact H5.out)⟩
          case measure => simp [intOf]; omega
    · have g0 : ¬ (k : Int) < (es.length : Int) := by omega
      have ht : es.take k = es := List.take_of_length_le (by omega)
      have ho := hrel.out.1
      rw [ht] at ho
      obtain ⟨A', c', e, hcap, _, hrd⟩ := own_shape ho
      rw [e]
      have HF := Lib.hid (And.intro hrd (And.intro hcap hrel.out.2.2))
      clear e hcap hrd ho hrel ht
      go_wp2_with (fail)
      go_ret
      exact ⟨A', c', rfl, ⟨HF.out.1, HF.out.2.1⟩, HF.out.2.2⟩
end Go.Proofs.Ytgldcahhliokeaa
