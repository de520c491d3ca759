/- RcA, what this seat can fill of it. -/
import Derived.Test.YtgjjdmkoamjdpaaGreatDoorValC
import Derived.Test.YtgjjdmkoamjdpaaGreatDoorValV
import Derived.Test.YtgjjdmkoamjdpaaGreatDoorRcN
import Derived.Test.YtgjjdmkoamjdpaaGreatDoorFr
namespace Go.Proofs.YtgjjdmkoamjdpaaGreatDoor
/- A change as the program holds it; is it in form: record.Form, and the document's Form. -/
open Go.RowKit Go.Maps

structure ChV where
  kind : Int
  node : Int
  ef : Int
  lab : ByteArray
  et : Int
  key : ByteArray
  v : VVal
abbrev ChV.cells (c : ChV) : Array Value := #[.int .i64 c.kind, .int .i64 c.node, .int .i64 c.ef, .string c.lab, .int .i64 c.et, .string c.key, .int .i64 c.v.kind, .int .i64 c.v.n, .string c.v.s]
structure ChV.fits (c : ChV) : Prop where
  lab : c.lab.size ≤ 140737488355328
  key : c.key.size ≤ 140737488355328
  v : c.v.fits
def nodeB (n : Int) : Bool := decide (1 ≤ n) && decide (n ≤ 1000)
/-- Is a change in form? -/
def formB (c : ChV) : Bool :=
  if c.kind = 1 ∨ c.kind = 2 then nodeB c.node
  else if c.kind = 3 ∨ c.kind = 4 then nodeB c.ef && isNm c.lab.data.toList && nodeB c.et
  else if c.kind = 5 then nodeB c.node && isNm c.key.data.toList && decide (ckN c.v = 0)
  else if c.kind = 6 then nodeB c.node && isNm c.key.data.toList
  else false
theorem isNmB_any (s : ByteArray) (w : World) : Calls Tryz.prog 34 #[.string s] w fun e w' => e = .returned (.bool (isNm s.data.toList)) ∧ w = w' := by
  have h := is_any s.data.toList w
  have e : (⟨s.data.toList.toArray⟩ : ByteArray) = s := rfl
  rw [e] at h
  exact h
theorem isNode_any (n : Int) (w : World) : Calls Tryz.prog 67 #[.int .i64 n] w fun e w' => e = .returned (.bool (nodeB n)) ∧ w = w' := by
  by_cases h1 : 1 ≤ n
  · by_cases h2 : n ≤ 1000
    · have e : nodeB n = true := by unfold nodeB; rw [decide_eq_true h1, decide_eq_true h2]; rfl
      rw [e]
      clear e
      go_enter Tryz.func67, Tryz.ntmps67
      go_wp2_with (fail)
      go_ret
      exact ⟨rfl, rfl⟩
    · have e : nodeB n = false := by unfold nodeB; rw [decide_eq_false h2, Bool.and_false]
      rw [e]
      clear e
      go_enter Tryz.func67, Tryz.ntmps67
      go_wp2_with (fail)
      go_ret
      exact ⟨rfl, rfl⟩
  · have e : nodeB n = false := by unfold nodeB; rw [decide_eq_false h1, Bool.false_and]
    rw [e]
    clear e
    go_enter Tryz.func67, Tryz.ntmps67
    go_wp2_with (fail)
    go_ret
    exact ⟨rfl, rfl⟩
theorem rnode_any (n : Int) (w : World) : Calls Tryz.prog 35 #[.int .i64 n] w fun e w' => e = .returned (.bool (nodeB n)) ∧ w = w' := by
  by_cases h1 : 1 ≤ n
  · by_cases h2 : n ≤ 1000
    · have e : nodeB n = true := by unfold nodeB; rw [decide_eq_true h1, decide_eq_true h2]; rfl
      rw [e]
      clear e
      go_enter Tryz.func35, Tryz.ntmps35
      go_wp2_with (fail)
      go_ret
      exact ⟨rfl, rfl⟩
    · have e : nodeB n = false := by unfold nodeB; rw [decide_eq_false h2, Bool.and_false]
      rw [e]
      clear e
      go_enter Tryz.func35, Tryz.ntmps35
      go_wp2_with (fail)
      go_ret
      exact ⟨rfl, rfl⟩
  · have e : nodeB n = false := by unfold nodeB; rw [decide_eq_false h1, Bool.false_and]
    rw [e]
    clear e
    go_enter Tryz.func35, Tryz.ntmps35
    go_wp2_with (fail)
    go_ret
    exact ⟨rfl, rfl⟩
theorem box9 {w : World} {b : Nat} {a0 a1 a2 a3 a4 a5 a6 a7 a8 : Value} {t : TypeId} (h : w.heap[b]? = some (.cells #[a0, a1, a2, a3, a4, a5, a6, a7, a8] t (0, 0))) :
    w.cell? ⟨b, 0, none⟩ = some a0 ∧ w.cell? ⟨b, 1, none⟩ = some a1 ∧ w.cell? ⟨b, 2, none⟩ = some a2 ∧ w.cell? ⟨b, 3, none⟩ = some a3 ∧ w.cell? ⟨b, 4, none⟩ = some a4 ∧ w.cell? ⟨b, 5, none⟩ = some a5 ∧ w.cell? ⟨b, 6, none⟩ = some a6 ∧ w.cell? ⟨b, 7, none⟩ = some a7 ∧ w.cell? ⟨b, 8, none⟩ = some a8 :=
  ⟨cell_of_row _ _ 0 _ _ _ h, cell_of_row _ _ 1 _ _ _ h, cell_of_row _ _ 2 _ _ _ h, cell_of_row _ _ 3 _ _ _ h, cell_of_row _ _ 4 _ _ _ h, cell_of_row _ _ 5 _ _ _ h, cell_of_row _ _ 6 _ _ _ h, cell_of_row _ _ 7 _ _ _ h, cell_of_row _ _ 8 _ _ _ h⟩
set_option maxRecDepth 100000 in
set_option maxHeartbeats 4000000 in
theorem isInForm_any (c : ChV) (w : World) (hf : c.fits) (hT : Tabs w) : Calls Tryz.prog 56 #[.agg c.cells] w fun e w' => e = .returned (.bool (formB c)) ∧ Below w.heap.size w w' := by
  obtain ⟨k, n, ef, lab, et, key, vk, vn, vs⟩ := c
  have hb0 : Below w.heap.size w (w.alloc (.cells #[.int .i64 k, .int .i64 n, .int .i64 ef, .string lab, .int .i64 et, .string key, .int .i64 vk, .int .i64 vn, .string vs] 53)) := (Below.refl _ _).alloc (Nat.le_refl _) _
  have hx0 := heap_alloc_new w (.cells #[.int .i64 k, .int .i64 n, .int .i64 ef, .string lab, .int .i64 et, .string key, .int .i64 vk, .int .i64 vn, .string vs] 53)
  obtain ⟨c0, c1, c2, c3, c4, c5, c6, c7, c8⟩ := box9 hx0
  have HN := Lib.hid isNode_any
  have HM := Lib.hid isNmB_any
  have HC := Lib.hid (check_any ⟨vk, vn, vs⟩ (w.alloc (.cells #[.int .i64 k, .int .i64 n, .int .i64 ef, .string lab, .int .i64 et, .string key, .int .i64 vk, .int .i64 vn, .string vs] 53)) hf.v (hT.alloc _))
  have HB := Lib.hid (And.intro hb0 (And.intro hf.lab hf.key))
  clear hb0 hx0 hf hT
  dsimp only [ChV.cells]
  by_cases h12 : k = 1 ∨ k = 2
  · have hv : formB ⟨k, n, ef, lab, et, key, vk, vn, vs⟩ = nodeB n := by unfold formB; rw [if_pos h12]
    rw [hv]
    have H1 := Lib.hid (HN.out n)
    clear hv HN HM HC
    generalize nodeB n = B1 at H1
    rcases h12 with rfl | rfl
    all_goals
      go_enter Tryz.func56, Tryz.ntmps56
      go_wp2_with (go_at_call 67; (with_reducible refine (H1.out _).mono ?_); rintro e w1 ⟨rfl, rfl⟩)
      go_ret
      exact ⟨rfl, HB.out.1⟩
  · have g1 : (k == 1) = false := beq_eq_false_iff_ne.2 fun e => h12 (.inl e)
    have g2 : (k == 2) = false := beq_eq_false_iff_ne.2 fun e => h12 (.inr e)
    by_cases h34 : k = 3 ∨ k = 4
    · have hv : formB ⟨k, n, ef, lab, et, key, vk, vn, vs⟩ = (nodeB ef && isNm lab.data.toList && nodeB et) := by unfold formB; rw [if_neg h12, if_pos h34]
      rw [hv]
      have H1 := Lib.hid (HN.out ef)
      have H2 := Lib.hid (HM.out lab)
      have H3 := Lib.hid (HN.out et)
      clear hv h12 HN HM HC
      generalize nodeB ef = B1 at H1
      generalize isNm lab.data.toList = B2 at H2
      generalize nodeB et = B3 at H3
      rcases h34 with rfl | rfl
      all_goals
        clear g1 g2
        cases B1 <;> cases B2 <;> cases B3
      all_goals
        go_enter Tryz.func56, Tryz.ntmps56
        go_wp2_with (first
          | (go_at_call 67; (with_reducible refine (H1.out _).mono ?_); rintro e w1 ⟨rfl, rfl⟩)
          | (go_at_call 67; (with_reducible refine (H3.out _).mono ?_); rintro e w1 ⟨rfl, rfl⟩)
          | (go_at_call 34; (with_reducible refine (H2.out _).mono ?_); rintro e w1 ⟨rfl, rfl⟩))
        go_ret
        exact ⟨rfl, HB.out.1⟩
    · have g3 : (k == 3) = false := beq_eq_false_iff_ne.2 fun e => h34 (.inl e)
      have g4 : (k == 4) = false := beq_eq_false_iff_ne.2 fun e => h34 (.inr e)
      by_cases h5 : k = 5
      · have hv : formB ⟨k, n, ef, lab, et, key, vk, vn, vs⟩ = (nodeB n && isNm key.data.toList && decide (ckN ⟨vk, vn, vs⟩ = 0)) := by unfold formB; rw [if_neg h12, if_neg h34, if_pos h5]
        rw [hv]
        have H1 := Lib.hid (HN.out n)
        have H2 := Lib.hid (HM.out key)
        have hc := HC.out
        dsimp only [VVal.cells] at hc
        skip
        clear hv h12 h34 g1 g2 g3 g4 HN HM HC
        generalize nodeB n = B1 at H1
        generalize isNm key.data.toList = B2 at H2
        subst h5
        by_cases hz : ckN ⟨vk, vn, vs⟩ = 0
        · rw [decide_eq_true hz]
          rw [hz] at hc
          have H3 := Lib.hid hc
          clear hc hz
          cases B1 <;> cases B2
          all_goals
            go_enter Tryz.func56, Tryz.ntmps56
            go_wp2_with (first
              | (go_at_call 67; (with_reducible refine (H1.out _).mono ?_); rintro e w1 ⟨rfl, rfl⟩)
              | (go_at_call 34; (with_reducible refine (H2.out _).mono ?_); rintro e w1 ⟨rfl, rfl⟩)
              | (go_at_call 68; (with_reducible refine H3.out.mono ?_); rintro e w1 ⟨rfl, b1⟩; have B1 := Lib.hid (HB.out.1.trans (lower' b1 HB.out.1.size)); clear b1))
            go_ret
            exact ⟨rfl, by first | exact B1.out | exact HB.out.1⟩
        · rw [decide_eq_false hz]
          obtain ⟨m, hm⟩ : ∃ m, ckN ⟨vk, vn, vs⟩ = m + 1 := ⟨ckN ⟨vk, vn, vs⟩ - 1, by omega⟩
          rw [hm] at hc
          have hne : (((m + 1 : Nat) : Int) == 0) = false := beq_eq_false_iff_ne.2 (by omega)
          have hne2 : ((m : Int) + 1 == 0) = false := beq_eq_false_iff_ne.2 (by omega)
          have H3 := Lib.hid hc
          clear hc hz hm
          cases B1 <;> cases B2
          all_goals
            go_enter Tryz.func56, Tryz.ntmps56
            go_wp2_with (first
              | (go_at_call 67; (with_reducible refine (H1.out _).mono ?_); rintro e w1 ⟨rfl, rfl⟩)
              | (go_at_call 34; (with_reducible refine (H2.out _).mono ?_); rintro e w1 ⟨rfl, rfl⟩)
              | (go_at_call 68; (with_reducible refine H3.out.mono ?_); rintro e w1 ⟨rfl, b1⟩; have B1 := Lib.hid (HB.out.1.trans (lower' b1 HB.out.1.size)); clear b1))
            go_ret
            exact ⟨rfl, by first | exact B1.out | exact HB.out.1⟩
      · have g5 : (k == 5) = false := beq_eq_false_iff_ne.2 h5
        by_cases h6 : k = 6
        · have hv : formB ⟨k, n, ef, lab, et, key, vk, vn, vs⟩ = (nodeB n && isNm key.data.toList) := by unfold formB; rw [if_neg h12, if_neg h34, if_neg h5, if_pos h6]
          rw [hv]
          have H1 := Lib.hid (HN.out n)
          have H2 := Lib.hid (HM.out key)
          clear hv h12 h34 h5 g1 g2 g3 g4 g5 HN HM HC
          generalize nodeB n = B1 at H1
          generalize isNm key.data.toList = B2 at H2
          subst h6
          cases B1 <;> cases B2
          all_goals
            go_enter Tryz.func56, Tryz.ntmps56
            go_wp2_with (first
              | (go_at_call 67; (with_reducible refine (H1.out _).mono ?_); rintro e w1 ⟨rfl, rfl⟩)
              | (go_at_call 34; (with_reducible refine (H2.out _).mono ?_); rintro e w1 ⟨rfl, rfl⟩))
            go_ret
            exact ⟨rfl, HB.out.1⟩
        · have g6 : (k == 6) = false := beq_eq_false_iff_ne.2 h6
          have hv : formB ⟨k, n, ef, lab, et, key, vk, vn, vs⟩ = false := by unfold formB; rw [if_neg h12, if_neg h34, if_neg h5, if_neg h6]
          rw [hv]
          clear hv h12 h34 h5 h6 HN HM HC
          go_enter Tryz.func56, Tryz.ntmps56
          go_wp2_with (fail)
          go_ret
          exact ⟨rfl, HB.out.1⟩
set_option maxRecDepth 100000 in
set_option maxHeartbeats 4000000 in
theorem rForm_any (c : ChV) (w : World) (hf : c.fits) (_hT : Tabs w) : Calls Tryz.prog 21 #[.agg c.cells] w fun e w' => e = .returned (.bool (formB c)) ∧ Below w.heap.size w w' := by
  obtain ⟨k, n, ef, lab, et, key, vk, vn, vs⟩ := c
  have hb0 : Below w.heap.size w (w.alloc (.cells #[.int .i64 k, .int .i64 n, .int .i64 ef, .string lab, .int .i64 et, .string key, .int .i64 vk, .int .i64 vn, .string vs] 53)) := (Below.refl _ _).alloc (Nat.le_refl _) _
  have hx0 := heap_alloc_new w (.cells #[.int .i64 k, .int .i64 n, .int .i64 ef, .string lab, .int .i64 et, .string key, .int .i64 vk, .int .i64 vn, .string vs] 53)
  obtain ⟨c0, c1, c2, c3, c4, c5, c6, c7, c8⟩ := box9 hx0
  have HN := Lib.hid rnode_any
  have HM := Lib.hid (fun (s : ByteArray) (hs : s.size ≤ 140737488355328) (W : World) => name_ba s W (show s.size ≤ maxLen by simp only [maxLen]; omega))
  have HC := Lib.hid (refCheck_any ⟨vk, vn, vs⟩ (w.alloc (.cells #[.int .i64 k, .int .i64 n, .int .i64 ef, .string lab, .int .i64 et, .string key, .int .i64 vk, .int .i64 vn, .string vs] 53)) hf.v)
  have HB := Lib.hid (And.intro hb0 (And.intro hf.lab hf.key))
  clear hb0 hx0 hf
  dsimp only [ChV.cells]
  by_cases h12 : k = 1 ∨ k = 2
  · have hv : formB ⟨k, n, ef, lab, et, key, vk, vn, vs⟩ = nodeB n := by unfold formB; rw [if_pos h12]
    rw [hv]
    have H1 := Lib.hid (HN.out n)
    clear hv HN HM HC
    generalize nodeB n = B1 at H1
    rcases h12 with rfl | rfl
    all_goals
      go_enter Tryz.func21, Tryz.ntmps21
      go_wp2_with (go_at_call 35; (with_reducible refine (H1.out _).mono ?_); rintro e w1 ⟨rfl, rfl⟩)
      go_ret
      exact ⟨rfl, HB.out.1⟩
  · have g1 : (k == 1) = false := beq_eq_false_iff_ne.2 fun e => h12 (.inl e)
    have g2 : (k == 2) = false := beq_eq_false_iff_ne.2 fun e => h12 (.inr e)
    by_cases h34 : k = 3 ∨ k = 4
    · have hv : formB ⟨k, n, ef, lab, et, key, vk, vn, vs⟩ = (nodeB ef && isNm lab.data.toList && nodeB et) := by unfold formB; rw [if_neg h12, if_pos h34]
      rw [hv]
      have H1 := Lib.hid (HN.out ef)
      have H2 := Lib.hid (HM.out lab HB.out.2.1)
      have H3 := Lib.hid (HN.out et)
      clear hv h12 HN HM HC
      generalize nodeB ef = B1 at H1
      generalize isNm lab.data.toList = B2 at H2
      generalize nodeB et = B3 at H3
      rcases h34 with rfl | rfl
      all_goals
        clear g1 g2
        cases B1 <;> cases B2 <;> cases B3
      all_goals
        go_enter Tryz.func21, Tryz.ntmps21
        go_wp2_with (first
          | (go_at_call 35; (with_reducible refine (H1.out _).mono ?_); rintro e w1 ⟨rfl, rfl⟩)
          | (go_at_call 35; (with_reducible refine (H3.out _).mono ?_); rintro e w1 ⟨rfl, rfl⟩)
          | (go_at_call 25; (with_reducible refine (H2.out _).mono ?_); rintro e w1 ⟨rfl, rfl⟩))
        go_ret
        exact ⟨rfl, HB.out.1⟩
    · have g3 : (k == 3) = false := beq_eq_false_iff_ne.2 fun e => h34 (.inl e)
      have g4 : (k == 4) = false := beq_eq_false_iff_ne.2 fun e => h34 (.inr e)
      by_cases h5 : k = 5
      · have hv : formB ⟨k, n, ef, lab, et, key, vk, vn, vs⟩ = (nodeB n && isNm key.data.toList && decide (ckN ⟨vk, vn, vs⟩ = 0)) := by unfold formB; rw [if_neg h12, if_neg h34, if_pos h5]
        rw [hv]
        have H1 := Lib.hid (HN.out n)
        have H2 := Lib.hid (HM.out key HB.out.2.2)
        have hc := HC.out
        dsimp only [VVal.cells] at hc
        rw [ckR_eq] at hc
        clear hv h12 h34 g1 g2 g3 g4 HN HM HC
        generalize nodeB n = B1 at H1
        generalize isNm key.data.toList = B2 at H2
        subst h5
        by_cases hz : ckN ⟨vk, vn, vs⟩ = 0
        · rw [decide_eq_true hz]
          rw [hz] at hc
          have H3 := Lib.hid hc
          clear hc hz
          cases B1 <;> cases B2
          all_goals
            go_enter Tryz.func21, Tryz.ntmps21
            go_wp2_with (first
              | (go_at_call 35; (with_reducible refine (H1.out _).mono ?_); rintro e w1 ⟨rfl, rfl⟩)
              | (go_at_call 25; (with_reducible refine (H2.out _).mono ?_); rintro e w1 ⟨rfl, rfl⟩)
              | (go_at_call 36; (with_reducible refine H3.out.mono ?_); rintro e w1 ⟨rfl, b1⟩; have B1 := Lib.hid (HB.out.1.trans (lower' b1 HB.out.1.size)); clear b1))
            go_ret
            exact ⟨rfl, by first | exact B1.out | exact HB.out.1⟩
        · rw [decide_eq_false hz]
          obtain ⟨m, hm⟩ : ∃ m, ckN ⟨vk, vn, vs⟩ = m + 1 := ⟨ckN ⟨vk, vn, vs⟩ - 1, by omega⟩
          rw [hm] at hc
          have hne : (((m + 1 : Nat) : Int) == 0) = false := beq_eq_false_iff_ne.2 (by omega)
          have hne2 : ((m : Int) + 1 == 0) = false := beq_eq_false_iff_ne.2 (by omega)
          have H3 := Lib.hid hc
          clear hc hz hm
          cases B1 <;> cases B2
          all_goals
            go_enter Tryz.func21, Tryz.ntmps21
            go_wp2_with (first
              | (go_at_call 35; (with_reducible refine (H1.out _).mono ?_); rintro e w1 ⟨rfl, rfl⟩)
              | (go_at_call 25; (with_reducible refine (H2.out _).mono ?_); rintro e w1 ⟨rfl, rfl⟩)
              | (go_at_call 36; (with_reducible refine H3.out.mono ?_); rintro e w1 ⟨rfl, b1⟩; have B1 := Lib.hid (HB.out.1.trans (lower' b1 HB.out.1.size)); clear b1))
            go_ret
            exact ⟨rfl, by first | exact B1.out | exact HB.out.1⟩
      · have g5 : (k == 5) = false := beq_eq_false_iff_ne.2 h5
        by_cases h6 : k = 6
        · have hv : formB ⟨k, n, ef, lab, et, key, vk, vn, vs⟩ = (nodeB n && isNm key.data.toList) := by unfold formB; rw [if_neg h12, if_neg h34, if_neg h5, if_pos h6]
          rw [hv]
          have H1 := Lib.hid (HN.out n)
          have H2 := Lib.hid (HM.out key HB.out.2.2)
          clear hv h12 h34 h5 g1 g2 g3 g4 g5 HN HM HC
          generalize nodeB n = B1 at H1
          generalize isNm key.data.toList = B2 at H2
          subst h6
          cases B1 <;> cases B2
          all_goals
            go_enter Tryz.func21, Tryz.ntmps21
            go_wp2_with (first
              | (go_at_call 35; (with_reducible refine (H1.out _).mono ?_); rintro e w1 ⟨rfl, rfl⟩)
              | (go_at_call 25; (with_reducible refine (H2.out _).mono ?_); rintro e w1 ⟨rfl, rfl⟩))
            go_ret
            exact ⟨rfl, HB.out.1⟩
        · have g6 : (k == 6) = false := beq_eq_false_iff_ne.2 h6
          have hv : formB ⟨k, n, ef, lab, et, key, vk, vn, vs⟩ = false := by unfold formB; rw [if_neg h12, if_neg h34, if_neg h5, if_neg h6]
          rw [hv]
          clear hv h12 h34 h5 h6 HN HM HC
          go_enter Tryz.func21, Tryz.ntmps21
          go_wp2_with (fail)
          go_ret
          exact ⟨rfl, HB.out.1⟩
end Go.Proofs.YtgjjdmkoamjdpaaGreatDoor
