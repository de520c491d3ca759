/- What the law JoinGreat wants of rows, plainly. -/
import Derived.Test.YtobieolonlddlaaJoZ
namespace Go.Proofs.Ytobieolonlddlaa

theorem onceL_same (es : List Ed) : ∀ out : List Ed, (out ++ es).Nodup → es.foldl addE out = out ++ es := by
  induction es with
  | nil => intro out _; simp
  | cons e es ih =>
    intro out h
    have hn : e ∉ out := by
      rw [List.nodup_append] at h
      intro hm
      exact h.2.2 e hm e (by simp) rfl
    rw [List.foldl_cons]
    have e1 : addE out e = out ++ [e] := by unfold addE; rw [if_neg hn]
    rw [e1, ih (out ++ [e]) (by rw [List.append_assoc]; exact h), List.append_assoc]
    rfl
def fanE (l : Nm) (n : Nat) : List Ed := (List.range n).map fun i : Nat => (⟨1, l, (i : Int) + 2⟩ : Ed)
theorem fanE_succ (l : Nm) (n : Nat) : fanE l (n + 1) = fanE l n ++ [⟨1, l, (n : Int) + 2⟩] := by unfold fanE; rw [List.range_succ, List.map_append]; rfl
theorem fanE_len (l : Nm) (n : Nat) : (fanE l n).length = n := by unfold fanE; rw [List.length_map, List.length_range]
theorem fanE_lab {l : Nm} {n : Nat} {e : Ed} (h : e ∈ fanE l n) : e.lab = l := by
  obtain ⟨i, _, rfl⟩ := List.mem_map.1 h
  rfl
theorem fanE_nodup (l : Nm) (n : Nat) : (fanE l n).Nodup := by
  unfold fanE
  rw [List.nodup_iff_pairwise_ne, List.pairwise_map]
  refine List.nodup_range.imp ?_
  intro a b hab he
  injection he with _ _ h3
  omega
def greatE (n m : Nat) : List Ed := fanE [97] n ++ fanE [98] m
def greatV : Vw := ⟨[118], 1, [[120]], [⟨[120], [97], [121]⟩, ⟨[120], [98], [122]⟩], []⟩
theorem greatE_once (n m : Nat) : onceL (greatE n m) = greatE n m := by
  have h : (greatE n m).Nodup := by
    unfold greatE
    rw [List.nodup_append]
    refine ⟨fanE_nodup _ _, fanE_nodup _ _, ?_⟩
    rintro a ha b hb rfl
    have h1 := fanE_lab ha
    rw [fanE_lab hb] at h1
    cases h1
  exact onceL_same _ [] h
theorem fit_fan (s : Stp) (l : Nm) (n : Nat) (hne : s.fr ≠ s.to) : fitL s (fanE l n) = if l = s.lab then (List.range n).map fun i : Nat => ((1 : Int), (i : Int) + 2) else [] := by
  unfold fitL
  by_cases h : l = s.lab
  · rw [if_pos h, List.filter_eq_self.2]
    · unfold fanE; rw [List.map_map]; rfl
    · intro e he
      unfold fitB
      rw [fanE_lab he, decide_eq_true h, decide_eq_false hne]; rfl
  · rw [if_neg h, List.filter_eq_nil_iff.2]
    · rfl
    · intro e he
      unfold fitB
      rw [fanE_lab he, decide_eq_false h]; simp
theorem fit_app (s : Stp) (a b : List Ed) : fitL s (a ++ b) = fitL s a ++ fitL s b := by unfold fitL; rw [List.filter_append, List.map_append]
def s1 : Stp := ⟨[97], 0, 1, 0⟩
def s2 : Stp := ⟨[98], 0, 2, 2⟩
theorem great_steps : stepsL greatV.atoms = [s1, s2] := by decide +kernel
theorem great_good : goodP greatV = true := by decide +kernel
theorem great_with1 (n m : Nat) : withL s1 [[]] (greatE n m) = (List.range n).map fun i : Nat => [(1 : Int), (i : Int) + 2] := by
  unfold withL foundL greatE
  rw [fit_app, fit_fan s1 [97] n (by decide), fit_fan s1 [98] m (by decide), if_pos (show ([97] : Nm) = s1.lab from rfl), if_neg (show ¬ ([98] : Nm) = s1.lab by decide), List.append_nil]
  rw [List.flatMap_cons, List.flatMap_nil, List.append_nil, List.filter_eq_self.2, List.map_map]
  · rfl
  · intro e he
    rfl
theorem great_with2 (n m : Nat) : withL s2 ((List.range n).map fun i : Nat => [(1 : Int), (i : Int) + 2]) (greatE n m) = (List.range n).flatMap fun i : Nat => (List.range m).map fun j : Nat => [(1 : Int), (i : Int) + 2, (j : Int) + 2] := by
  unfold withL foundL greatE
  rw [fit_app, fit_fan s2 [97] n (by decide), fit_fan s2 [98] m (by decide), if_neg (show ¬ ([97] : Nm) = s2.lab by decide), if_pos (show ([98] : Nm) = s2.lab from rfl), List.nil_append, List.flatMap_map]
  refine congrArg (fun f => (List.range n).flatMap f) (funext fun i => ?_)
  rw [List.filter_eq_self.2, List.map_map]
  · rfl
  · intro e he
    obtain ⟨j, _, rfl⟩ := List.mem_map.1 he
    rfl
theorem great_len (n m : Nat) : ((List.range n).flatMap fun i : Nat => (List.range m).map fun j : Nat => [(1 : Int), (i : Int) + 2, (j : Int) + 2]).length = n * m := by
  rw [List.length_flatMap]
  simp only [List.length_map, List.length_range]
  induction n with
  | zero => simp
  | succ n ih => rw [List.range_succ, List.map_append, List.sum_append, ih, Nat.succ_mul]; simp
theorem great_rows (n m : Nat) (hn : n ≤ 60) : rowsOfL greatV.atoms (greatE n m) = if 3000 < n * m then ((List.range n).flatMap fun i : Nat => (List.range m).map fun j : Nat => [(1 : Int), (i : Int) + 2, (j : Int) + 2]).take 3001 else (List.range n).flatMap fun i : Nat => (List.range m).map fun j : Nat => [(1 : Int), (i : Int) + 2, (j : Int) + 2] := by
  unfold rowsOfL
  rw [greatE_once, great_steps]
  unfold rowsN
  rw [great_with1, if_neg (by rw [List.length_map, List.length_range]; omega)]
  unfold rowsN
  rw [great_with2, great_len]
  rfl
theorem great_code (n m : Nat) (hn : n ≤ 60) : rowsC greatV (greatE n m) = if 3000 < n * m then 5 else 0 := by
  unfold rowsC
  rw [if_pos great_good, great_rows n m hn]
  by_cases h : 3000 < n * m
  · rw [if_pos h, if_pos h, if_neg (by rw [List.length_take, great_len]; omega)]
  · rw [if_neg h, if_neg h, great_len, if_pos (by omega)]
theorem all_one {α : Type} {l : List α} {a : α} (hn : l.Nodup) (h : ∀ x ∈ l, x = a) (hne : l ≠ []) : l = [a] := by
  rcases l with _ | ⟨x, _ | ⟨y, r⟩⟩
  · exact absurd rfl hne
  · rw [h x (by simp)]
  · have h1 := h x (by simp)
    have h2 := h y (by simp)
    rw [h1, h2] at hn
    simp at hn
theorem great_outs (n m : Nat) (hn : n ≤ 60) (h : ¬ 3000 < n * m) : outsOf greatV (greatE n m) = List.replicate (n * m) [1] := by
  have hr := great_rows n m hn
  rw [if_neg h] at hr
  have hlow : (rowsOfL greatV.atoms (greatE n m)).length ≤ 3000 := by rw [hr, great_len]; omega
  have hnd : (rowsOfL greatV.atoms (greatE n m)).Nodup := by
    unfold rowsOfL
    rw [rowsN_low _ _ (lowP_iff.2 hlow)]
    exact rows_nodup _ _
  have hR : rowsR greatV (greatE n m) = setL (rowsOfL greatV.atoms (greatE n m)) := by
    unfold rowsR
    rw [if_pos great_good, if_pos hlow]
  rw [List.eq_replicate_iff]
  unfold outsOf
  rw [hR]
  refine ⟨by rw [List.length_map, set_of_nodup hnd, hr, great_len], ?_⟩
  intro t ht
  obtain ⟨r, h1, rfl⟩ := List.mem_map.1 ht
  rw [mem_set, hr] at h1
  obtain ⟨i, _, h2⟩ := List.mem_flatMap.1 h1
  obtain ⟨j, _, rfl⟩ := List.mem_map.1 h2
  rfl
theorem great_res (n m : Nat) (hn : n ≤ 60) (h : ¬ 3000 < n * m) (h0 : 0 < n * m) : resR greatV (greatE n m) = [[1]] ∧ resN greatV (greatE n m) = [((n * m : Nat) : Int)] := by
  have hc := great_code n m hn
  rw [if_neg h] at hc
  have hs : setL (outsOf greatV (greatE n m)) = [[1]] := by
    rw [great_outs n m hn h]
    refine all_one (nodup_set _) (fun x hx => ?_) (fun e => ?_)
    · rw [mem_set] at hx
      exact List.eq_of_mem_replicate hx
    · have : ([1] : Tu) ∈ setL (List.replicate (n * m) [1]) := mem_set.2 (List.mem_replicate.2 ⟨by omega, rfl⟩)
      rw [e] at this
      cases this
  unfold resR resN
  rw [if_pos hc, if_pos hc, countsL_eq, hs, great_outs n m hn h]
  refine ⟨rfl, ?_⟩
  unfold cnt
  rw [List.map_cons, List.map_nil, List.filter_eq_self.2 (fun x hx => by rw [List.eq_of_mem_replicate hx]; rfl), List.length_replicate]
theorem great_none (n m : Nat) (hn : n ≤ 60) (h : 3000 < n * m) : resR greatV (greatE n m) = [] ∧ resN greatV (greatE n m) = [] := by
  have hc := great_code n m hn
  rw [if_pos h] at hc
  unfold resR resN
  rw [hc]
  exact ⟨rfl, rfl⟩
end Go.Proofs.Ytobieolonlddlaa
