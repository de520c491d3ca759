/- Rows, plainly: what is a row; that no row comes twice; the limit. Nothing of the program is stated here. -/
import Derived.Test.YtgldcahhliokeaaJoA
namespace Go.Proofs.Ytgldcahhliokeaa

/-- The edge that a row has at a step. -/
def edgeAt (s : Stp) (row : Tu) : Ed := ⟨row.getD s.fr 0, s.lab, row.getD s.to 0⟩
theorem push1_take {row : Tu} {p : Nat} {x : Int} {k : Nat} (h : k ≤ row.length) : (push1 row p x).take k = row.take k := by
  unfold push1
  split
  · rw [List.take_append_of_le_length h]
  · rfl
theorem push1_get {row : Tu} {p : Nat} {x : Int} {i : Nat} (h : i < row.length) : (push1 row p x).getD i 0 = row.getD i 0 := by
  unfold push1
  split
  · rw [List.getD_eq_getElem?_getD, List.getD_eq_getElem?_getD, List.getElem?_append_left h]
  · rfl
theorem push1_new {row : Tu} {p : Nat} {x : Int} (h : p = row.length) : (push1 row p x).getD p 0 = x := by
  subst h
  unfold push1
  rw [if_pos rfl, List.getD_eq_getElem?_getD, List.getElem?_append_right (Nat.le_refl _)]
  simp
theorem withS_take {s : Stp} {row : Tu} (e : Int × Int) (h : row.length = s.kn) : (withS s row e).take s.kn = row := by
  unfold withS
  rw [push1_take (by rw [push1_len]; split <;> omega), push1_take (by omega), ← h, List.take_length]
theorem found_mem {s : Stp} {es : List Ed} {k e : Int × Int} : e ∈ foundL s es k ↔ (⟨e.1, s.lab, e.2⟩ : Ed) ∈ es ∧ (s.fr = s.to → e.1 = e.2) ∧ toldS s e = k := by
  unfold foundL fitL
  rw [List.mem_filter, List.mem_map]
  constructor
  · rintro ⟨⟨ed, h, rfl⟩, ht⟩
    rw [List.mem_filter] at h
    obtain ⟨h1, h2⟩ := h
    unfold fitB at h2
    rw [Bool.and_eq_true, Bool.or_eq_true, decide_eq_true_eq, Bool.not_eq_true', decide_eq_false_iff_not, decide_eq_true_eq] at h2
    refine ⟨?_, fun e => h2.2.resolve_left (fun h => h e), of_decide_eq_true ht⟩
    rw [← h2.1]
    exact h1
  · rintro ⟨h1, h2, h3⟩
    refine ⟨⟨⟨e.1, s.lab, e.2⟩, List.mem_filter.2 ⟨h1, ?_⟩, rfl⟩, decide_eq_true h3⟩
    unfold fitB
    rw [Bool.and_eq_true, Bool.or_eq_true, decide_eq_true_eq, Bool.not_eq_true', decide_eq_false_iff_not, decide_eq_true_eq]
    refine ⟨rfl, ?_⟩
    by_cases h : s.fr = s.to
    · exact .inr (h2 h)
    · exact .inl h
/-- What a row that goes on has at the step's places. -/
theorem withS_edge {s : Stp} {row : Tu} {e : Int × Int} (h : row.length = s.kn) (h1 : s.fr ≤ s.kn) (h2 : s.to ≤ max s.kn (s.fr + 1)) (hq : s.fr = s.to → e.1 = e.2) (ht : toldS s e = tellsS s row) : edgeAt s (withS s row e) = ⟨e.1, s.lab, e.2⟩ := by
  unfold toldS tellsS at ht
  injection ht with t1 t2
  have hf : (withS s row e).getD s.fr 0 = e.1 := by
    unfold withS
    by_cases a : s.fr = row.length
    · have hl := push1_len row s.fr e.1
      rw [if_pos a] at hl
      rw [push1_get (by omega), push1_new a]
    · have hl := push1_len row s.fr e.1
      rw [if_neg a] at hl
      rw [push1_get (by omega), push1_get (by omega)]
      rw [if_neg (by omega), if_pos (by omega)] at t1
      exact t1.symm
  have hg : (withS s row e).getD s.to 0 = e.2 := by
    unfold withS
    by_cases a : s.fr = row.length
    · have hl := push1_len row s.fr e.1
      rw [if_pos a] at hl
      by_cases b : s.to = row.length + 1
      · exact push1_new (by omega)
      · rw [push1_get (by omega)]
        by_cases c : s.to = row.length
        · have hft : s.fr = s.to := by omega
          rw [← hq hft, ← hft, push1_new a]
        · rw [push1_get (by omega)]
          rw [if_neg (by omega), if_pos (by omega)] at t2
          exact t2.symm
    · have hl := push1_len row s.fr e.1
      rw [if_neg a] at hl
      by_cases b : s.to = row.length
      · exact push1_new (by omega)
      · rw [push1_get (by omega), push1_get (by omega)]
        rw [if_neg (by omega), if_pos (by omega)] at t2
        exact t2.symm
  unfold edgeAt
  rw [hf, hg]
theorem take_snoc {row : Tu} {k : Nat} (h : k < row.length) : row.take (k + 1) = row.take k ++ [row.getD k 0] := by
  rw [List.take_succ_eq_append_getElem h, List.getD_eq_getElem?_getD, List.getElem?_eq_getElem h]
  rfl
/-- A row is its beginning gone on with the edge that it has. -/
theorem withS_back {s : Stp} {row : Tu} (h : row.length = s.next) (h1 : s.fr ≤ s.kn) (h2 : s.to ≤ max s.kn (s.fr + 1)) : withS s (row.take s.kn) (row.getD s.fr 0, row.getD s.to 0) = row := by
  unfold Stp.next at h
  have hl : (row.take s.kn).length = s.kn := by rw [List.length_take]; omega
  unfold withS push1
  simp only [hl]
  by_cases a : s.fr = s.kn
  · rw [if_pos a, ← a]
    rw [← take_snoc (by omega)]
    have hl2 : (row.take (s.fr + 1)).length = s.fr + 1 := by rw [List.length_take]; omega
    rw [hl2]
    by_cases b : s.to = s.fr + 1
    · rw [if_pos b, b, ← take_snoc (by omega), List.take_of_length_le (by omega)]
    · rw [if_neg b, List.take_of_length_le (by omega)]
  · rw [if_neg a, hl]
    by_cases b : s.to = s.kn
    · rw [if_pos b, b, ← take_snoc (by omega), List.take_of_length_le (by omega)]
    · rw [if_neg b, List.take_of_length_le (by omega)]
theorem take_get {row : Tu} {k i : Nat} (h : i < k) : (row.take k).getD i 0 = row.getD i 0 := by
  rw [List.getD_eq_getElem?_getD, List.getD_eq_getElem?_getD, List.getElem?_take, if_pos h]
theorem told_tells {s : Stp} {row : Tu} : toldS s (row.getD s.fr 0, row.getD s.to 0) = tellsS s (row.take s.kn) := by
  unfold toldS tellsS
  congr 1
  · by_cases a : s.fr < s.kn
    · rw [if_neg (by omega), if_pos a, take_get a]
    · rw [if_pos (by omega), if_neg a]
  · by_cases a : s.to < s.kn
    · rw [if_neg (by omega), if_pos a, take_get a]
    · rw [if_pos (by omega), if_neg a]
theorem mem_with {s : Stp} {ahead : List Tu} {es : List Ed} (hl : ∀ r ∈ ahead, r.length = s.kn) (h1 : s.fr ≤ s.kn) (h2 : s.to ≤ max s.kn (s.fr + 1)) {row : Tu} : row ∈ withL s ahead es ↔ row.length = s.next ∧ row.take s.kn ∈ ahead ∧ edgeAt s row ∈ es := by
  unfold withL
  rw [List.mem_flatMap]
  constructor
  · rintro ⟨q, hq, hr⟩
    obtain ⟨e, he, rfl⟩ := List.mem_map.1 hr
    obtain ⟨f1, f2, f3⟩ := found_mem.1 he
    refine ⟨withS_len e (hl q hq) h1 h2, ?_, ?_⟩
    · rw [withS_take e (hl q hq)]
      exact hq
    · rw [withS_edge (hl q hq) h1 h2 f2 f3]
      exact f1
  · rintro ⟨g1, g2, g3⟩
    refine ⟨_, g2, List.mem_map.2 ⟨(row.getD s.fr 0, row.getD s.to 0), found_mem.2 ⟨g3, fun h => by rw [h], told_tells⟩, withS_back g1 h1 h2⟩⟩
theorem nodup_fit {s : Stp} {es : List Ed} (h : es.Nodup) : (fitL s es).Nodup := by
  unfold fitL
  have h2 : ∀ a ∈ es.filter (fitB s), a.lab = s.lab := fun a ha => by
    have h3 := (List.mem_filter.1 ha).2
    unfold fitB at h3
    rw [Bool.and_eq_true, decide_eq_true_eq] at h3
    exact h3.1
  unfold List.Nodup
  rw [List.pairwise_map]
  refine (List.Pairwise.and_mem.1 (h.filter (fitB s))).imp ?_
  rintro ⟨af, al, at'⟩ ⟨bf, bl, bt⟩ ⟨ha, hb, hne⟩ e
  injection e with e1 e2
  have ea := h2 _ ha
  have eb := h2 _ hb
  simp only at ea eb e1 e2
  subst ea e1 e2
  rw [eb] at hne
  exact hne rfl
theorem nodup_with {s : Stp} {ahead : List Tu} {es : List Ed} (hl : ∀ r ∈ ahead, r.length = s.kn) (h1 : s.fr ≤ s.kn) (h2 : s.to ≤ max s.kn (s.fr + 1)) (ha : ahead.Nodup) (he : es.Nodup) : (withL s ahead es).Nodup := by
  unfold withL List.Nodup
  rw [List.pairwise_flatMap]
  constructor
  · intro q hq
    rw [List.pairwise_map]
    refine (List.Pairwise.and_mem.1 ((nodup_fit (s := s) he).filter _)).imp ?_
    rintro a b ⟨hma, hmb, hne⟩ e
    obtain ⟨_, a2, a3⟩ := found_mem.1 hma
    obtain ⟨_, b2, b3⟩ := found_mem.1 hmb
    have ea := withS_edge (hl q hq) h1 h2 a2 a3
    have eb := withS_edge (hl q hq) h1 h2 b2 b3
    rw [e, eb] at ea
    injection ea with x1 _ x2
    exact hne (Prod.ext x1.symm x2.symm)
  · refine (List.Pairwise.and_mem.1 ha).imp ?_
    rintro a b ⟨hma, hmb, hne⟩ x hxa y hxb hxy
    subst hxy
    obtain ⟨e, _, rfl⟩ := List.mem_map.1 hxa
    obtain ⟨f, _, hf⟩ := List.mem_map.1 hxb
    have h3 := withS_take e (hl a hma)
    rw [← hf, withS_take f (hl b hmb)] at h3
    exact hne h3.symm
/-- The rows of the steps, all of them. -/
def rowsU (es : List Ed) : List Stp → List Tu → List Tu
  | [], rows => rows
  | s :: r, rows => rowsU es r (withL s rows es)
/-- At no step are there too many. -/
def LowL (es : List Ed) : List Stp → List Tu → Prop
  | [], _ => True
  | s :: r, rows => (withL s rows es).length ≤ 3000 ∧ LowL es r (withL s rows es)
theorem rowsN_low {es : List Ed} : ∀ (ss : List Stp) (rows : List Tu), LowL es ss rows → rowsN es ss rows = rowsU es ss rows
  | [], _, _ => rfl
  | s :: r, rows, h => by
    unfold rowsN rowsU
    rw [if_neg (by have := h.1; omega)]
    exact rowsN_low r _ h.2
theorem rowsN_big {es : List Ed} : ∀ (ss : List Stp) (rows : List Tu), ¬ LowL es ss rows → 3000 < (rowsN es ss rows).length
  | [], _, h => absurd trivial h
  | s :: r, rows, h => by
    unfold rowsN
    by_cases hb : 3000 < (withL s rows es).length
    · rw [if_pos hb, List.length_take]; omega
    · rw [if_neg hb]
      exact rowsN_big r _ fun hl => h ⟨by omega, hl⟩
theorem rowsU_len {es : List Ed} : ∀ (ss : List Stp) (rows : List Tu), rows.length ≤ 3000 → LowL es ss rows → (rowsU es ss rows).length ≤ 3000
  | [], _, h, _ => h
  | _ :: r, _, _, h => rowsU_len r _ h.1 h.2
theorem low_iff {es : List Ed} (ss : List Stp) (rows : List Tu) (h : rows.length ≤ 3000) : LowL es ss rows ↔ (rowsN es ss rows).length ≤ 3000 := by
  constructor
  · intro hl
    rw [rowsN_low ss rows hl]
    exact rowsU_len ss rows h hl
  · intro hn
    exact Classical.byContradiction fun hc => by have := rowsN_big ss rows hc; omega
theorem knEnd_le : ∀ (ss : List Stp) (kn : Nat), ChainOk kn ss → kn ≤ knEnd kn ss
  | [], _, _ => Nat.le_refl _
  | s :: r, kn, h => by
    have := knEnd_le r _ h.2.2.2
    have h0 := h.1
    show kn ≤ knEnd s.next r
    have : kn ≤ s.next := by unfold Stp.next; omega
    omega
theorem mem_rowsU {es : List Ed} : ∀ (ss : List Stp) (kn : Nat) (rows : List Tu), ChainOk kn ss → (∀ r ∈ rows, r.length = kn) → ∀ row : Tu, row ∈ rowsU es ss rows ↔ row.length = knEnd kn ss ∧ row.take kn ∈ rows ∧ ∀ s ∈ ss, edgeAt s row ∈ es := by
  intro ss
  induction ss with
  | nil =>
    intro kn rows _ hl row
    show row ∈ rows ↔ row.length = kn ∧ _
    constructor
    · intro h
      refine ⟨hl row h, ?_, fun _ h => nomatch h⟩
      rw [← hl row h, List.take_length]
      exact h
    · rintro ⟨h1, h2, _⟩
      rw [← h1, List.take_length] at h2
      exact h2
  | cons s r ih =>
    intro kn rows hc hl row
    obtain ⟨c0, c1, c2, c3⟩ := hc
    have hl' : ∀ q ∈ rows, q.length = s.kn := fun q hq => by rw [c0]; exact hl q hq
    show row ∈ rowsU es r (withL s rows es) ↔ row.length = knEnd s.next r ∧ _
    rw [ih s.next (withL s rows es) c3 (with_lens hl' c1 c2) row, mem_with hl' c1 c2]
    have hle := knEnd_le r s.next c3
    have hn : s.kn ≤ s.next ∧ s.fr < s.next ∧ s.to < s.next := by unfold Stp.next; omega
    have he : edgeAt s (row.take s.next) = edgeAt s row := by
      unfold edgeAt
      rw [take_get hn.2.1, take_get hn.2.2]
    rw [he, List.take_take, Nat.min_eq_left hn.1, ← c0]
    simp only [List.mem_cons, forall_eq_or_imp, List.length_take]
    constructor
    · rintro ⟨h1, ⟨_, h3, h4⟩, h5⟩
      exact ⟨h1, h3, h4, h5⟩
    · rintro ⟨h1, h3, h4, h5⟩
      exact ⟨h1, ⟨by omega, h3, h4⟩, h5⟩
theorem nodup_rowsU {es : List Ed} (he : es.Nodup) : ∀ (ss : List Stp) (kn : Nat) (rows : List Tu), ChainOk kn ss → (∀ r ∈ rows, r.length = kn) → rows.Nodup → (rowsU es ss rows).Nodup
  | [], _, _, _, _, h => h
  | s :: r, kn, rows, hc, hl, h => by
    obtain ⟨c0, c1, c2, c3⟩ := hc
    have hl' : ∀ q ∈ rows, q.length = s.kn := fun q hq => by rw [c0]; exact hl q hq
    exact nodup_rowsU he r s.next _ c3 (with_lens hl' c1 c2) (nodup_with hl' c1 c2 h he)
/-- Is it a row? -/
def IsRow (as : List Atm) (es : List Ed) (row : Tu) : Prop := row.length = (varsL as).length ∧ ∀ a ∈ as, (⟨row.getD ((varsL as).idxOf a.fr) 0, a.lab, row.getD ((varsL as).idxOf a.to) 0⟩ : Ed) ∈ es
theorem steps_all {vs : List Nm} {p : Stp → Prop} (q : Atm → Prop) (h : ∀ a kn, p (stepOf vs kn a) ↔ q a) : ∀ (as : List Atm) (kn : Nat), (∀ s ∈ stepsK vs kn as, p s) ↔ ∀ a ∈ as, q a
  | [], _ => by simp [stepsK]
  | a :: r, kn => by
    unfold stepsK
    rw [List.forall_mem_cons, List.forall_mem_cons, steps_all q h r, h]
theorem mem_rows {as : List Atm} {es : List Ed} {row : Tu} : row ∈ rowsU (onceL es) (stepsL as) [[]] ↔ IsRow as es row := by
  rw [mem_rowsU (stepsL as) 0 [[]] (chain_ok as) (by simp) row, knEnd_ok]
  unfold IsRow stepsL
  rw [steps_all (fun a => (⟨row.getD ((varsL as).idxOf a.fr) 0, a.lab, row.getD ((varsL as).idxOf a.to) 0⟩ : Ed) ∈ es) (fun a kn => by unfold edgeAt stepOf; rw [onceL_mem])]
  simp
theorem rows_nodup (as : List Atm) (es : List Ed) : (rowsU (onceL es) (stepsL as) [[]]).Nodup := nodup_rowsU (onceL_nodup es) _ 0 _ (chain_ok as) (by simp) (by simp)
theorem rowsN_lens {es : List Ed} : ∀ (ss : List Stp) (kn : Nat) (rows : List Tu) (m : Nat), ChainOk kn ss → (∀ r ∈ rows, r.length = kn) → knEnd kn ss ≤ m → ∀ row ∈ rowsN es ss rows, row.length ≤ m
  | [], kn, rows, m, _, hl, hm, row, hr => by
    have := hl row hr
    unfold knEnd at hm
    omega
  | s :: r, kn, rows, m, hc, hl, hm, row, hr => by
    obtain ⟨c0, c1, c2, c3⟩ := hc
    have hl' : ∀ q ∈ rows, q.length = s.kn := fun q hq => by rw [c0]; exact hl q hq
    have hm' : knEnd s.next r ≤ m := hm
    unfold rowsN at hr
    split at hr
    · have h1 := with_lens hl' c1 c2 row (List.mem_of_mem_take hr)
      have h2 := knEnd_le r s.next c3
      omega
    · exact rowsN_lens r s.next _ m c3 (with_lens hl' c1 c2) hm' row hr
theorem rowsOf_lens (as : List Atm) (es : List Ed) : ∀ row ∈ rowsOfL as es, row.length ≤ (varsL as).length := rowsN_lens _ 0 _ _ (chain_ok as) (by simp) (Nat.le_of_eq (knEnd_ok as))
/-- A pattern isn't too great. -/
def LowP (as : List Atm) (es : List Ed) : Prop := LowL (onceL es) (stepsL as) [[]]
theorem lowP_iff {as : List Atm} {es : List Ed} : LowP as es ↔ (rowsOfL as es).length ≤ 3000 := low_iff _ _ (by simp)
/-- The rows as a set. -/
theorem set_of_nodup {l : List Tu} (h : l.Nodup) : (setL l).length = l.length := by
  have hr := ris_set l
  have hn : (setL l).Nodup := hr.imp fun h => cmpI_ne h
  have h1 : (setL l).Perm l := (List.perm_ext_iff_of_nodup hn h).2 fun q => mem_set
  exact h1.length_eq
end Go.Proofs.Ytgldcahhliokeaa
