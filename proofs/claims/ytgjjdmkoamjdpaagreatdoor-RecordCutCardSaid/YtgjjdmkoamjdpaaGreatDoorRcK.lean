/- Bytes read as changes, plainly: what is written is read, whatever is behind; no beginning of it is. -/
import Derived.Test.YtgjjdmkoamjdpaaGreatDoorRcJ
namespace Go.Proofs.YtgjjdmkoamjdpaaGreatDoor
open Go.RowKit Go.Maps

theorem rfv_fits (l : List UInt8) (hl : l.length ≤ 140737488355328) : (rfv l).fits := by
  unfold rfv
  have h1 := rgG_lt 10 0 1 (l.drop 1)
  have h2 := UInt8.toNat_lt (l.getD 1 0)
  split
  · refine ⟨by show (0 : Nat) ≤ 140737488355328; omega, ?_, ?_⟩
    · simp only; unfold unfN rfN; split <;> omega
    · simp only; unfold unfN rfN; split <;> omega
  · split
    · refine ⟨?_, by show (-9223372036854775808 : Int) ≤ 0; omega, by show (0 : Int) ≤ 9223372036854775807; omega⟩
      show (List.toArray _).size ≤ _
      rw [List.size_toArray, List.length_take, List.length_drop]
      omega
    · split
      · exact ⟨by show (0 : Nat) ≤ 140737488355328; omega, by simp only; omega, by simp only; omega⟩
      · exact ⟨by show (0 : Nat) ≤ 140737488355328; omega, by show (-9223372036854775808 : Int) ≤ 0; omega, by show (0 : Int) ≤ 9223372036854775807; omega⟩

theorem digs_cut (x j : Nat) (hx : x ≤ 18446744073709551615) (hj : j < (digs x).length) : (rdD ((digs x).take j)).2 = 0 := by
  rcases Nat.eq_zero_or_pos (rdD ((digs x).take j)).2 with h | h
  · exact h
  · exfalso
    obtain ⟨r, e1, e2, e3⟩ := rdD_rf ((digs x).take j) (by omega)
    obtain ⟨N, hN⟩ : ∃ N, N = rfN ((digs x).take j) := ⟨_, rfl⟩
    have hlt : N ≤ 18446744073709551615 := by
      have := rgG_lt 10 0 1 ((digs x).take j)
      rw [hN]; unfold rfN; omega
    rw [← hN] at e1 e2 e3
    have e4 : digs x = digs N ++ (r ++ (digs x).drop j) := by rw [← List.append_assoc, ← e3, List.take_append_drop]
    have h1 := rdD_digs N (r ++ (digs x).drop j) hlt
    have h2 := rdD_digs x [] hx
    rw [List.append_nil, e4, h1] at h2
    have h3 := congrArg List.length e3
    rw [List.length_take, List.length_append] at h3
    injection h2 with h5 h6
    subst h5
    omega
theorem rvV_cut (v : VVal) (j : Nat) (hf : v.fits) (hg : ckN v = 0) (hj : j < (encV v).length) : rvV ((encV v).take j) = (noV, 0) := by
  have hz := ckN_zero hg
  obtain ⟨k, n, s⟩ := v
  obtain ⟨f0, f1, f2⟩ := hf
  simp only at f0 f1 f2 hz
  by_cases h2 : j < 2
  · exact rv_short _ (by rw [List.length_take]; omega)
  · rcases hz with rfl | ⟨rfl, hn⟩ | ⟨rfl, hsl, hv⟩
    · have e : encV ⟨1, n, s⟩ = 1 :: digs (foldN n) := if_pos rfl
      rw [e] at hj ⊢
      rw [List.length_cons] at hj
      obtain ⟨i, rfl⟩ : ∃ i, j = i + 1 := ⟨j - 1, by omega⟩
      rw [List.take_succ_cons]
      have hc := digs_cut (foldN n) i (foldN_lt n f1 f2) (by omega)
      unfold rvV
      rw [if_neg (by rw [List.length_cons, List.length_take]; omega), if_pos (by rfl)]
      simp only [List.drop_succ_cons, List.drop_zero]
      rw [if_pos hc]
    · have e : (encV ⟨3, n, s⟩).length = 2 := by unfold encV; simp
      omega
    · have e : encV ⟨2, n, s⟩ = 2 :: UInt8.ofNat s.size :: s.data.toList := by unfold encV; simp
      have hmb : (UInt8.ofNat s.size).toNat = s.size := by rw [UInt8.toNat_ofNat']; omega
      have hl : s.data.toList.length = s.size := Array.length_toList
      rw [e] at hj ⊢
      simp only [List.length_cons, hl] at hj
      obtain ⟨i, rfl⟩ : ∃ i, j = i + 1 + 1 := ⟨j - 2, by omega⟩
      rw [List.take_succ_cons, List.take_succ_cons]
      have g1 : ((2 : UInt8) :: UInt8.ofNat s.size :: s.data.toList.take i).getD 1 0 = UInt8.ofNat s.size := rfl
      refine rv_text _ (by simp only [List.length_cons]; omega) rfl ?_
      rw [g1, hmb]
      simp only [List.length_cons, List.length_take]
      omega
theorem rvV_fits (l : List UInt8) (hl : l.length ≤ 140737488355328) : (rvV l).1.fits := by
  have h0 : noV.fits := ⟨by show (0 : Nat) ≤ _; omega, by show (-9223372036854775808 : Int) ≤ 0; omega, by show (0 : Int) ≤ _; omega⟩
  by_cases h2 : l.length < 2
  · rw [rv_short l h2]; exact h0
  · by_cases hck : ckN (rfv l) = 0
    · by_cases ht : (l.getD 0 0).toNat = 2 ∧ l.length < 2 + (l.getD 1 0).toNat
      · rw [rv_text l (by omega) ht.1 ht.2]; exact h0
      · obtain ⟨h3, h4⟩ := rv_yes l (by omega) hck (fun e => by
          rcases Nat.lt_or_ge l.length (2 + (l.getD 1 0).toNat) with h | h
          · exact absurd ⟨e, h⟩ ht
          · exact h)
        by_cases he : l.take (encV (rfv l)).length = encV (rfv l)
        · rw [h3 he]; exact rfv_fits l hl
        · rw [h4 he]; exact h0
    · rw [rv_no l (by omega) hck]; exact h0
/-- The change with which bytes begin, and how many they are. -/
def rdC1 (x : UInt8) (t : List UInt8) : Option (ChV × Nat) :=
    if t.length < x.toNat then none
    else if decE (t.take x.toNat) ≠ 0 then none
    else match ofK (decK (t.take x.toNat)) with
      | none => none
      | some c =>
        if c.kind = 5 then
          (if (rvV (t.drop x.toNat)).2 = 0 then none
           else if formB { c with v := (rvV (t.drop x.toNat)).1 } = true then some ({ c with v := (rvV (t.drop x.toNat)).1 }, 1 + x.toNat + (rvV (t.drop x.toNat)).2) else none)
        else if formB c = true then some (c, 1 + x.toNat) else none
def rdC : List UInt8 → Option (ChV × Nat)
  | [] => none
  | x :: t => rdC1 x t
/-- With nothing that its kind doesn't use. -/
def plainC (c : ChV) : ChV :=
  if c.kind = 1 ∨ c.kind = 2 then ⟨c.kind, c.node, 0, ⟨#[]⟩, 0, ⟨#[]⟩, ⟨0, 0, ⟨#[]⟩⟩⟩
  else if c.kind = 3 ∨ c.kind = 4 then ⟨c.kind, 0, c.ef, c.lab, c.et, ⟨#[]⟩, ⟨0, 0, ⟨#[]⟩⟩⟩
  else ⟨c.kind, c.node, 0, ⟨#[]⟩, 0, c.key, if c.kind = 5 then plainV c.v else ⟨0, 0, ⟨#[]⟩⟩⟩
theorem ckN_plain {v : VVal} (h : ckN v = 0) : ckN (plainV v) = 0 := by
  unfold plainV
  rcases ckN_zero h with e | ⟨e, e2⟩ | ⟨e, _⟩
  · rw [if_neg (by rw [e]; decide)]; unfold ckN; rw [if_pos e]
  · rw [if_neg (by rw [e]; decide)]; unfold ckN; dsimp only; rw [if_neg (by rw [e]; decide), if_pos e, if_pos e2]
  · rw [if_pos e]
    unfold ckN at h ⊢
    rw [if_neg (by rw [e]; decide), if_neg (by rw [e]; decide), if_pos e] at h
    dsimp only
    rw [if_neg (by decide), if_neg (by decide), if_pos rfl]
    exact h
theorem ofK_keyL {c : ChV} (h : formB c = true) : ofK ((keyL c).map norm) = some (if c.kind = 5 then { plainC c with v := ⟨0, 0, ⟨#[]⟩⟩ } else plainC c) := by
  obtain ⟨hk, -⟩ := form_facts h
  unfold keyL plainC
  by_cases h12 : c.kind = 1 ∨ c.kind = 2
  · rw [if_pos h12, if_pos h12, if_neg (by omega)]
    show ofK [numK c.kind, numK c.node] = _
    rw [ofK_two, if_pos (show (numK c.kind).n = 1 ∨ (numK c.kind).n = 2 from h12)]
    rfl
  · rw [if_neg h12, if_neg h12]
    by_cases h34 : c.kind = 3 ∨ c.kind = 4
    · rw [if_pos h34, if_pos h34, if_neg (by omega)]
      show ofK [numK c.kind, numK c.ef, strK c.lab, numK c.et] = _
      rw [ofK_four, if_pos (show (numK c.kind).n = 3 ∨ (numK c.kind).n = 4 from h34)]
      rfl
    · rw [if_neg h34, if_neg h34]
      show ofK [numK c.kind, numK c.node, strK c.key] = _
      rw [ofK_three, if_pos (show (numK c.kind).n = 5 ∨ (numK c.kind).n = 6 by show c.kind = 5 ∨ c.kind = 6; omega)]
      by_cases h5 : c.kind = 5
      · rw [if_pos h5]; rfl
      · rw [if_neg h5, if_neg h5]; rfl
theorem formB_plain {c : ChV} (h : formB c = true) : formB (plainC c) = true := by
  obtain ⟨hk, -⟩ := form_facts h
  unfold formB at h ⊢
  unfold plainC
  by_cases h12 : c.kind = 1 ∨ c.kind = 2
  · rw [if_pos h12] at h ⊢
    dsimp only
    rw [if_pos h12]
    exact h
  · rw [if_neg h12] at h ⊢
    by_cases h34 : c.kind = 3 ∨ c.kind = 4
    · rw [if_pos h34] at h ⊢
      dsimp only
      rw [if_neg h12, if_pos h34]
      exact h
    · rw [if_neg h34] at h ⊢
      dsimp only
      rw [if_neg h12, if_neg h34]
      by_cases h5 : c.kind = 5
      · rw [if_pos h5] at h ⊢
        rw [if_pos h5]
        rw [Bool.and_eq_true, decide_eq_true_eq] at h
        rw [Bool.and_eq_true, decide_eq_true_eq]
        exact ⟨h.1, ckN_plain h.2⟩
      · rw [if_neg h5] at h ⊢
        rw [if_pos (show c.kind = 6 by omega)] at h
        rw [if_pos (show c.kind = 6 by omega)]
        exact h
theorem plainC_kind (c : ChV) : (plainC c).kind = c.kind := by unfold plainC; split <;> (try split) <;> rfl
theorem keyBs_facts {c : ChV} (h : formB c = true) : (keyBs c).length ≤ 62 ∧ decE (keyBs c) = 0 ∧ decK (keyBs c) = (keyL c).map norm ∧ (UInt8.ofNat (keyBs c).length).toNat = (keyBs c).length := by
  obtain ⟨_, hsz, hfit, _, _⟩ := form_facts h
  have hl : (keyBs c).length ≤ 62 := by unfold keyBs; rw [keyB_length]; exact hsz
  have he : encE (keyL c) = 0 := by unfold encE; rw [if_pos (by omega)]
  have hb : encB (keyL c) = keyBs c := by unfold encB keyBs; rw [if_pos (by omega)]
  have h2 := dec_enc (keyL c) hfit he
  rw [hb] at h2
  refine ⟨hl, h2.1, h2.2, ?_⟩
  rw [UInt8.toNat_ofNat_of_lt']
  simp [UInt8.size]
  omega
/-- What is written is read. -/
theorem rdC_chB {c : ChV} (h : formB c = true) (hf : c.fits) (y : List UInt8) : rdC (chB c ++ y) = some (plainC c, (chB c).length) := by
  obtain ⟨hl, hE, hK, hn⟩ := keyBs_facts h
  obtain ⟨_, _, _, hck, _⟩ := form_facts h
  have ho := ofK_keyL h
  obtain ⟨kb, hkb⟩ : ∃ kb, kb = keyBs c := ⟨_, rfl⟩
  have hc : chB c = UInt8.ofNat kb.length :: (kb ++ if c.kind = 5 then encV c.v else []) := by rw [hkb]; rfl
  rw [← hkb] at hl hE hK hn
  obtain ⟨z, hz⟩ : ∃ z, z = UInt8.ofNat kb.length := ⟨_, rfl⟩
  rw [← hz] at hc hn
  rw [hc, List.cons_append, List.append_assoc]
  show rdC1 _ _ = _
  unfold rdC1
  rw [hn]
  have ht : (kb ++ ((if c.kind = 5 then encV c.v else []) ++ y)).take kb.length = kb := List.take_left' rfl
  have hd : (kb ++ ((if c.kind = 5 then encV c.v else []) ++ y)).drop kb.length = (if c.kind = 5 then encV c.v else []) ++ y := List.drop_left' rfl
  rw [if_neg (by simp), ht, if_neg (by rw [hE]; simp), hK, ho, hd]
  by_cases h5 : c.kind = 5
  · rw [if_pos h5]
    have hv := rvV_enc c.v y hf.v (hck h5)
    have hpos : 0 < (encV c.v).length := by
      unfold encV
      split
      · simp
      · split <;> simp
    have hkd : ({ plainC c with v := ⟨0, 0, ⟨#[]⟩⟩ } : ChV).kind = 5 := by show (plainC c).kind = 5; rw [plainC_kind]; exact h5
    have hpv : ({ ({ plainC c with v := ⟨0, 0, ⟨#[]⟩⟩ } : ChV) with v := plainV c.v } : ChV) = plainC c := by
      unfold plainC
      rw [if_neg (by omega), if_neg (by omega), if_pos h5]
    rw [if_pos h5]
    dsimp only
    rw [if_pos hkd, hv]
    dsimp only
    rw [if_neg (by omega)]
    rw [show ({ kind := (plainC c).kind, node := (plainC c).node, ef := (plainC c).ef, lab := (plainC c).lab, et := (plainC c).et, key := (plainC c).key, v := plainV c.v } : ChV) = plainC c from hpv, if_pos (formB_plain h)]
    simp
    omega
  · rw [if_neg h5, if_neg h5]
    dsimp only
    rw [if_neg (by rw [plainC_kind]; exact h5), if_pos (formB_plain h)]
    simp
    omega
/-- No beginning of it is. -/
theorem rdC_cut {c : ChV} (h : formB c = true) (hf : c.fits) {k : Nat} (hk : k < (chB c).length) : rdC ((chB c).take k) = none := by
  obtain ⟨hl, hE, hK, hn⟩ := keyBs_facts h
  obtain ⟨_, _, _, hck, _⟩ := form_facts h
  have ho := ofK_keyL h
  obtain ⟨kb, hkb⟩ : ∃ kb, kb = keyBs c := ⟨_, rfl⟩
  have hc : chB c = UInt8.ofNat kb.length :: (kb ++ if c.kind = 5 then encV c.v else []) := by rw [hkb]; rfl
  rw [← hkb] at hl hE hK hn
  obtain ⟨z, hz⟩ : ∃ z, z = UInt8.ofNat kb.length := ⟨_, rfl⟩
  rw [← hz] at hc hn
  rw [hc] at hk ⊢
  cases k with
  | zero => rfl
  | succ k =>
    rw [List.take_succ_cons]
    show rdC1 _ _ = _
    unfold rdC1
    rw [hn]
    rw [List.length_cons, List.length_append] at hk
    by_cases hlt : k < kb.length
    · rw [if_pos (by rw [List.length_take, List.length_append]; omega)]
    · have h5 : c.kind = 5 := by
        by_cases h5 : c.kind = 5
        · exact h5
        · rw [if_neg h5, List.length_nil] at hk; omega
      rw [if_pos h5] at hk ⊢
      have htk : (kb ++ encV c.v).take k = kb ++ (encV c.v).take (k - kb.length) := by rw [List.take_append, List.take_of_length_le (by omega)]
      rw [htk, if_neg (by simp), List.take_left' rfl, if_neg (by rw [hE]; simp), hK, ho, List.drop_left' rfl, if_pos h5]
      have hkd : ({ plainC c with v := ⟨0, 0, ⟨#[]⟩⟩ } : ChV).kind = 5 := by show (plainC c).kind = 5; rw [plainC_kind]; exact h5
      dsimp only
      rw [if_pos hkd, rvV_cut c.v (k - kb.length) hf.v (hck h5) (by omega), if_pos rfl]
/-- So many changes, and what is behind. -/
def rdAll : Nat → List UInt8 → Option (List ChV × List UInt8)
  | 0, l => some ([], l)
  | n + 1, l => match rdC l with
    | none => none
    | some (c, k) => (rdAll n (l.drop k)).map fun p => (c :: p.1, p.2)
theorem rdAll_body (y : List UInt8) : ∀ {l : List ChV}, l.all formB = true → (∀ x ∈ l, x.fits) → rdAll l.length (bodyC l ++ y) = some (l.map plainC, y)
  | [], _, _ => rfl
  | c :: l, h, hf => by
    rw [List.all_cons, Bool.and_eq_true] at h
    have h1 := rdC_chB h.1 (hf c (List.mem_cons_self ..)) (bodyC l ++ y)
    have h2 := rdAll_body y h.2 fun x hx => hf x (List.mem_cons_of_mem _ hx)
    show rdAll (l.length + 1) ((chB c ++ bodyC l) ++ y) = _
    rw [List.append_assoc]
    unfold rdAll
    rw [h1]
    dsimp only
    rw [List.drop_left' rfl, h2]
    rfl
theorem rdAll_cut : ∀ {l : List ChV} {k : Nat}, l.all formB = true → (∀ x ∈ l, x.fits) → k < (bodyC l).length → rdAll l.length ((bodyC l).take k) = none
  | [], k, _, _, hk => by simp [bodyC] at hk
  | c :: l, k, h, hf, hk => by
    rw [List.all_cons, Bool.and_eq_true] at h
    have hb : bodyC (c :: l) = chB c ++ bodyC l := rfl
    rw [hb] at hk ⊢
    rw [List.length_append] at hk
    show rdAll (l.length + 1) _ = _
    unfold rdAll
    by_cases hlt : k < (chB c).length
    · rw [List.take_append_of_le_length (by omega), rdC_cut h.1 (hf c (List.mem_cons_self ..)) hlt]
    · rw [List.take_append, List.take_of_length_le (by omega), rdC_chB h.1 (hf c (List.mem_cons_self ..))]
      dsimp only
      rw [List.drop_left' rfl, rdAll_cut h.2 (fun x hx => hf x (List.mem_cons_of_mem _ hx)) (by omega)]
      rfl
/-- The changes of a commit's bytes behind its kind. -/
def rcL1 (x : UInt8) (t : List UInt8) : Option (List ChV) := if 60 < x.toNat then none else match rdAll x.toNat t with
    | some (l, []) => some l
    | _ => none
def rcL : List UInt8 → Option (List ChV)
  | [] => none
  | x :: t => rcL1 x t
theorem rcL_yes {l : List ChV} (h : goodC l = true) (hf : ∀ x ∈ l, x.fits) (y : List UInt8) : (rcL (UInt8.ofNat l.length :: (bodyC l ++ y))).isSome = decide (y = []) := by
  unfold goodC at h
  rw [Bool.and_eq_true, decide_eq_true_eq] at h
  have hn : (UInt8.ofNat l.length).toNat = l.length := by rw [UInt8.toNat_ofNat_of_lt']; simp [UInt8.size]; omega
  show (rcL1 _ _).isSome = _
  unfold rcL1
  rw [hn, if_neg (by omega), rdAll_body y h.2 hf]
  cases y <;> simp
theorem rcL_cut {l : List ChV} (h : goodC l = true) (hf : ∀ x ∈ l, x.fits) {k : Nat} (hk : k < (bodyC l).length) : rcL (UInt8.ofNat l.length :: (bodyC l).take k) = none := by
  unfold goodC at h
  rw [Bool.and_eq_true, decide_eq_true_eq] at h
  have hn : (UInt8.ofNat l.length).toNat = l.length := by rw [UInt8.toNat_ofNat_of_lt']; simp [UInt8.size]; omega
  show rcL1 _ _ = _
  unfold rcL1
  rw [hn, if_neg (by omega), rdAll_cut h.2 hf hk]
end Go.Proofs.YtgjjdmkoamjdpaaGreatDoor
