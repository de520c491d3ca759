/- Rows, plainly: the document's way to them; outputs and counts. Nothing of the program is stated here. -/
import Derived.Test.YtgldcahhliokeaaJoB
namespace Go.Proofs.Ytgldcahhliokeaa

/-- What the document makes of a row and an edge. -/
def refOne (s : Stp) (row : Tu) (e : Ed) : List Tu := if e.lab = s.lab then if edgeAt s (withS s row (e.f, e.t)) = e then [withS s row (e.f, e.t)] else [] else []
def refRow (s : Stp) (es : List Ed) (row : Tu) : List Tu := es.flatMap (refOne s row)
theorem refRow_eq {s : Stp} {row : Tu} (h : row.length = s.kn) (h1 : s.fr ≤ s.kn) (h2 : s.to ≤ max s.kn (s.fr + 1)) : ∀ es : List Ed, refRow s es row = (foundL s es (tellsS s row)).map (withS s row)
  | [] => rfl
  | e :: es => by
    have ih := refRow_eq h h1 h2 es
    unfold refRow foundL fitL at *
    rw [List.flatMap_cons, ih, List.filter_cons]
    have key : (edgeAt s (withS s row (e.f, e.t)) = e ∧ e.lab = s.lab) ↔ (fitB s e = true ∧ toldS s (e.f, e.t) = tellsS s row) := by
      unfold fitB
      rw [Bool.and_eq_true, Bool.or_eq_true, decide_eq_true_eq, Bool.not_eq_true', decide_eq_false_iff_not, decide_eq_true_eq]
      constructor
      · rintro ⟨k1, k2⟩
        have f1 : (withS s row (e.f, e.t)).getD s.fr 0 = e.f := congrArg Ed.f k1
        have f2 : (withS s row (e.f, e.t)).getD s.to 0 = e.t := congrArg Ed.t k1
        refine ⟨⟨k2, ?_⟩, ?_⟩
        · by_cases hq : s.fr = s.to
          · right
            rw [← f1, hq, f2]
          · exact .inl hq
        · unfold toldS tellsS
          have g1 : s.fr < s.kn → row.getD s.fr 0 = e.f := fun hl => by
            rw [← f1]
            unfold withS
            rw [push1_get (by rw [push1_len]; split <;> omega), push1_get (by omega)]
          have g2 : s.to < s.kn → row.getD s.to 0 = e.t := fun hl => by
            rw [← f2]
            unfold withS
            rw [push1_get (by rw [push1_len]; split <;> omega), push1_get (by omega)]
          congr 1
          · by_cases hl : s.fr < s.kn
            · rw [if_neg (by omega), if_pos hl, g1 hl]
            · rw [if_pos (by omega), if_neg hl]
          · by_cases hl : s.to < s.kn
            · rw [if_neg (by omega), if_pos hl, g2 hl]
            · rw [if_pos (by omega), if_neg hl]
      · rintro ⟨⟨k1, k2⟩, k3⟩
        refine ⟨?_, k1⟩
        rw [withS_edge h h1 h2 (fun hq => k2.resolve_left (fun hn => hn hq)) k3, ← k1]
    unfold refOne
    by_cases hf : fitB s e = true
    · rw [if_pos hf]
      have hlab : e.lab = s.lab := by
        unfold fitB at hf
        rw [Bool.and_eq_true, decide_eq_true_eq] at hf
        exact hf.1
      rw [if_pos hlab, List.map_cons, List.filter_cons]
      by_cases ht : toldS s (e.f, e.t) = tellsS s row
      · rw [if_pos (key.2 ⟨hf, ht⟩).1, if_pos (decide_eq_true ht)]
        rfl
      · rw [if_neg (fun hc => ht (key.1 ⟨hc, hlab⟩).2), if_neg (by rw [decide_eq_true_eq]; exact ht)]
        rfl
    · rw [if_neg hf]
      by_cases hlab : e.lab = s.lab
      · rw [if_pos hlab, if_neg (fun hc => hf (key.1 ⟨hc, hlab⟩).1)]
        rfl
      · rw [if_neg hlab]
        rfl
def refWith (s : Stp) (ahead : List Tu) (es : List Ed) : List Tu := ahead.flatMap (refRow s es)
theorem refWith_eq {s : Stp} {ahead : List Tu} {es : List Ed} (hl : ∀ r ∈ ahead, r.length = s.kn) (h1 : s.fr ≤ s.kn) (h2 : s.to ≤ max s.kn (s.fr + 1)) : refWith s ahead es = withL s ahead es := by
  unfold refWith withL
  rw [List.flatMap_def, List.flatMap_def]
  congr 1
  exact List.map_congr_left fun r hr => refRow_eq (hl r hr) h1 h2 es
/-- The document's rows: none, where there are too many. -/
def refRows (es : List Ed) : List Stp → List Tu → Option (List Tu)
  | [], rows => some rows
  | s :: r, rows => if 3000 < (refWith s rows es).length then none else refRows es r (refWith s rows es)
theorem refRows_eq {es : List Ed} : ∀ (ss : List Stp) (kn : Nat) (rows : List Tu), ChainOk kn ss → (∀ r ∈ rows, r.length = kn) → rows.length ≤ 3000 → refRows es ss rows = if (rowsN es ss rows).length ≤ 3000 then some (rowsN es ss rows) else none
  | [], _, rows, _, _, h => by
    unfold refRows rowsN
    rw [if_pos h]
  | s :: r, kn, rows, hc, hl, h => by
    obtain ⟨c0, c1, c2, c3⟩ := hc
    have hl' : ∀ q ∈ rows, q.length = s.kn := fun q hq => by rw [c0]; exact hl q hq
    unfold refRows rowsN
    rw [refWith_eq hl' c1 c2]
    by_cases hb : 3000 < (withL s rows es).length
    · rw [if_pos hb, if_pos hb, if_neg (by rw [List.length_take]; omega)]
    · rw [if_neg hb, if_neg hb]
      exact refRows_eq r s.next _ c3 (with_lens hl' c1 c2) (by omega)
/-- A merge of two rising lists, each tuple once. -/
def mrg2 : List Tu → List Tu → List Tu
  | [], b => b
  | x :: a, [] => x :: a
  | x :: a, y :: b => if cmpI x y < 0 then x :: mrg2 a (y :: b) else if cmpI x y = 0 then mrg2 a (y :: b) else y :: mrg2 (x :: a) b
termination_by a b => a.length + b.length
theorem mrg2_nil_left (b : List Tu) : mrg2 [] b = b := by rw [mrg2]
theorem mrg2_nil_right (a : List Tu) : mrg2 a [] = a := by
  cases a <;> rw [mrg2]
theorem mrg2_cons (x y : Tu) (a b : List Tu) : mrg2 (x :: a) (y :: b) = if cmpI x y < 0 then x :: mrg2 a (y :: b) else if cmpI x y = 0 then mrg2 a (y :: b) else y :: mrg2 (x :: a) b := by rw [mrg2]
theorem mem_mrg2 {t : Tu} : ∀ {a b : List Tu}, t ∈ mrg2 a b ↔ t ∈ a ∨ t ∈ b
  | [], b => by rw [mrg2_nil_left]; simp
  | x :: a, [] => by rw [mrg2_nil_right]; simp
  | x :: a, y :: b => by
    rw [mrg2_cons]
    split
    · rw [List.mem_cons, mem_mrg2, List.mem_cons, List.mem_cons, or_assoc]
    · split
      · rename_i h0
        have e := cmpI_eq h0
        subst e
        rw [mem_mrg2, List.mem_cons, List.mem_cons]
        constructor
        · rintro (h | h)
          · exact .inl (.inr h)
          · exact .inr h
        · rintro ((rfl | h) | h)
          · exact .inr (.inl rfl)
          · exact .inl h
          · exact .inr h
      · rw [List.mem_cons, mem_mrg2, List.mem_cons, List.mem_cons]
        constructor
        · rintro (h | h | h)
          · exact .inr (.inl h)
          · exact .inl h
          · exact .inr (.inr h)
        · rintro (h | h | h)
          · exact .inr (.inl h)
          · exact .inl h
          · exact .inr (.inr h)
termination_by a b => a.length + b.length
theorem ris_mrg2 : ∀ {a b : List Tu}, Ris a → Ris b → Ris (mrg2 a b)
  | [], b, _, hb => by rw [mrg2_nil_left]; exact hb
  | x :: a, [], ha, _ => by rw [mrg2_nil_right]; exact ha
  | x :: a, y :: b, ha, hb => by
    obtain ⟨ha1, ha2⟩ := List.pairwise_cons.1 ha
    obtain ⟨hb1, hb2⟩ := List.pairwise_cons.1 hb
    rw [mrg2_cons]
    split
    · rename_i hlt
      refine List.pairwise_cons.2 ⟨fun q hq => ?_, ris_mrg2 ha2 hb⟩
      rcases mem_mrg2.1 hq with h | h
      · exact ha1 q h
      · rcases List.mem_cons.1 h with rfl | h
        · exact hlt
        · exact cmpI_trans hlt (hb1 q h)
    · split
      · exact ris_mrg2 ha2 hb
      · rename_i h1 h2
        have hgt : cmpI y x < 0 := by rw [cmpI_swap]; omega
        refine List.pairwise_cons.2 ⟨fun q hq => ?_, ris_mrg2 ha hb2⟩
        rcases mem_mrg2.1 hq with h | h
        · rcases List.mem_cons.1 h with rfl | h
          · exact hgt
          · exact cmpI_trans hgt (ha1 q h)
        · exact hb1 q h
termination_by a b => a.length + b.length
theorem mrg2_len : ∀ (a b : List Tu), (mrg2 a b).length ≤ a.length + b.length
  | [], b => by rw [mrg2_nil_left]; simp
  | x :: a, [] => by rw [mrg2_nil_right]; simp
  | x :: a, y :: b => by
    rw [mrg2_cons]
    split
    · have := mrg2_len a (y :: b); simp at *; omega
    · split
      · have := mrg2_len a (y :: b); simp at *; omega
      · have := mrg2_len (x :: a) b; simp at *; omega
termination_by a b => a.length + b.length
theorem set_mrg2 (a b : List Tu) : mrg2 (setL a) (setL b) = setL (a ++ b) :=
  ris_ext (ris_mrg2 (ris_set a) (ris_set b)) (ris_set _) fun q => by rw [mem_mrg2, mem_set, mem_set, mem_set, List.mem_append]
theorem setL_one (t : Tu) : setL [t] = [t] := rfl
/-- What a row has at the outputs. -/
def outL (vs out : List Nm) (row : Tu) : Tu := out.map fun o => row.getD (vs.idxOf o) 0
def countsL (all : List Tu) : List Int := (setL all).map fun t => ((all.filter fun u => decide (u = t)).length : Int)
end Go.Proofs.Ytgldcahhliokeaa
