/- Plain facts: the reference and the program take the same texts. Nothing of the program's run is stated here. -/
import Derived.Test.YtinhmchekdolmaaDoorValTT
namespace Go.Proofs.YtinhmchekdolmaaDoor

theorem encs_ascii : ∀ (D : List Nat), (∀ d ∈ D, d < 128) → (encs D).length = D.length
  | [], _ => rfl
  | d :: D, h => by
    have hd := h d List.mem_cons_self
    have e : encs (d :: D) = encs [d] ++ encs D := by rw [← encs_append]; rfl
    rw [e, encs_one d hd, List.length_append, encs_ascii D fun x hx => h x (List.mem_cons_of_mem _ hx), List.length_cons, List.length_cons, List.length_nil]
    omega
theorem stepB_esc (z : List UInt8) (l : List UInt8) (h : l = 92 :: z) : stepB l = escL z := by
  rw [h]; exact if_pos rfl
theorem ofNat_to (x : Nat) (h : x < 128) : (UInt8.ofNat x).toNat = x := by rw [UInt8.toNat_ofNat']; omega
theorem encs_two (x y : Nat) (hx : x < 128) (hy : y < 128) : encs [x, y] = [UInt8.ofNat x, UInt8.ofNat y] := by
  have e : encs [x, y] = encs [x] ++ encs [y] := encs_append [x] [y]
  rw [e, encs_one x hx, encs_one y hy]; rfl

theorem rrP_step (r : Nat) (x : List Nat) (hok : ∀ d ∈ r :: x, okR d) (h : (rrP (r :: x)).2 ≠ 0) : ∃ ws rest, r :: x = ws ++ rest ∧ ws.length = (rrP (r :: x)).2 ∧ (∃ c t, encs ws = c :: t ∧ c ≠ 34) ∧ ∀ z, stepB (encs ws ++ z) = ((rrP (r :: x)).1, (encs ws).length) := by
  rw [rrP] at h ⊢
  by_cases h92 : r = 92
  · subst h92
    rw [if_pos rfl] at h ⊢
    rcases x with _ | ⟨q, rest⟩
    · exact absurd rfl h
    · rw [escP] at h ⊢
      by_cases h1 : q = 34 ∨ q = 92
      · rw [if_pos h1]
        have e := encs_two 92 q (by omega) (by omega)
        refine ⟨[92, q], rest, rfl, rfl, ⟨92, [UInt8.ofNat q], e, by decide⟩, fun z => ?_⟩
        rw [e]
        show stepB (92 :: UInt8.ofNat q :: z) = (q, 2)
        rw [stepB_esc (UInt8.ofNat q :: z) _ rfl, escL, ofNat_to q (by omega), if_pos h1]
      · rw [if_neg h1] at h ⊢
        by_cases h2 : q = 110
        · subst h2
          have e := encs_two 92 110 (by omega) (by omega)
          exact ⟨[92, 110], rest, rfl, rfl, ⟨92, [110], e, by decide⟩, fun z => by rw [e]; rfl⟩
        · rw [if_neg h2] at h ⊢
          by_cases h3 : q = 116
          · subst h3
            have e := encs_two 92 116 (by omega) (by omega)
            exact ⟨[92, 116], rest, rfl, rfl, ⟨92, [116], e, by decide⟩, fun z => by rw [e]; rfl⟩
          · rw [if_neg h3] at h ⊢
            by_cases h4 : q = 117
            · subst h4
              rw [if_pos rfl] at h ⊢
              by_cases h5 : (numP rest).2 = 0
              · rw [if_pos h5] at h
                exact absurd rfl h
              · rw [if_neg h5]
                rcases rest with _ | ⟨b, ds⟩
                · exact absurd rfl h5
                · rw [numP] at h5 ⊢
                  by_cases h6 : b = 123
                  · subst h6
                    rw [if_pos rfl] at h5 ⊢
                    obtain ⟨D, r, e1, e2, e3, e4, e5⟩ := numGo_hexE [] ds 0 0 (fun d hd => hok d (by simp [hd])) (by omega) h5
                    have e6 : encs (92 :: 117 :: 123 :: (D ++ [125])) = 92 :: 117 :: 123 :: encs (D ++ [125]) := by
                      have h7 : encs (92 :: 117 :: 123 :: (D ++ [125])) = encs [92, 117] ++ (encs [123] ++ encs (D ++ [125])) := by rw [← encs_append, ← encs_append]; rfl
                      rw [h7, encs_two 92 117 (by omega) (by omega), encs_one 123 (by omega)]
                      rfl
                    have e7 : (encs (D ++ [125])).length = D.length + 1 := by
                      rw [encs_ascii _ (by
                        intro d hd
                        rcases List.mem_append.mp hd with hd | hd
                        · exact e2 d hd
                        · simp at hd; omega)]
                      simp
                    refine ⟨92 :: 117 :: 123 :: (D ++ [125]), r, by rw [e1]; simp, ?_, ⟨92, _, e6, by decide⟩, fun z => ?_⟩
                    · simp only
                      rw [e4]
                      simp
                      omega
                    · rw [e6]
                      show stepB (92 :: 117 :: 123 :: (encs (D ++ [125]) ++ z)) = _
                      rw [stepB_esc (117 :: 123 :: (encs (D ++ [125]) ++ z)) _ rfl, escL, if_neg (by decide), if_neg (by decide), if_neg (by decide), if_pos ⟨rfl, rfl⟩]
                      show hexE 0 0 (encs (D ++ [125]) ++ z) = _
                      rw [e5 z]
                      simp only [List.length_cons, e7]
                      congr 1
                      omega
                  · rw [if_neg h6] at h5
                    exact absurd rfl h5
            · rw [if_neg h4] at h
              exact absurd rfl h
  · rw [if_neg h92] at h ⊢
    by_cases hb : r = 34 ∨ r < 32 ∨ r = 127
    · rw [if_pos hb] at h
      exact absurd rfl h
    · rw [if_neg hb]
      have hr := hok r List.mem_cons_self
      have e : encs [r] = Lib.encodeRune (r : Int) := by show Lib.encodeRune (r : Int) ++ [] = _; rw [List.append_nil]
      obtain ⟨c, t, h1, h2, h3⟩ := enc_head r hr
      have hcne : ∀ k : Nat, k < 128 → r ≠ k → c ≠ UInt8.ofNat k := by
        intro k hk hrk hc
        have hct : c.toNat = k := by rw [hc]; exact ofNat_to k hk
        by_cases h8 : r < 128
        · have := h2 h8
          rw [this, ofNat_to r h8] at hct
          exact hrk hct
        · have := h3 (by omega)
          omega
      refine ⟨[r], x, rfl, rfl, ⟨c, t, by rw [e, h1], hcne 34 (by omega) (by omega)⟩, fun z => ?_⟩
      have hd := decodeL_enc r z hr
      rw [e]
      unfold stepB
      rw [if_neg (by rw [h1]; exact hcne 92 (by omega) h92), hd, if_neg (by
        rintro (h | h | h)
        · exact dec_noerr r hr h
        · simp only at h; omega
        · simp only at h; omega)]

theorem prog_ref (z : List UInt8) : ∀ (f : Nat) (mid : List Nat) (acc T : List UInt8), (∀ d ∈ mid, okR d) → pGo f mid acc = some T → ∀ g, (encs mid).length < g → pR g (encs mid ++ 34 :: z) acc = some (T, z)
  | f, [], acc, T, _, h, g, hg => by
    rw [pGo_nil] at h
    injection h with h
    obtain ⟨g, rfl⟩ : ∃ k, g = k + 1 := ⟨g - 1, by omega⟩
    show pR (g + 1) (34 :: z) acc = _
    rw [pR, if_pos rfl, h]
  | 0, _ :: _, _, _, _, h, _, _ => by cases h
  | f + 1, r :: x, acc, T, hok, h, g, hg => by
    rw [pGo] at h
    by_cases hz : (rrP (r :: x)).2 = 0
    · rw [if_pos hz] at h
      cases h
    · rw [if_neg hz] at h
      obtain ⟨ws, rest, e1, e2, ⟨c, t, e3, e4⟩, e5⟩ := rrP_step r x hok hz
      rw [← e2, e1, List.drop_left] at h
      rw [e1, encs_append, List.length_append] at hg
      have e3l := congrArg List.length e3
      rw [List.length_cons] at e3l
      obtain ⟨g, rfl⟩ : ∃ k, g = k + 1 := ⟨g - 1, by omega⟩
      have hst := e5 (encs rest ++ 34 :: z)
      have hcons : encs ws ++ (encs rest ++ 34 :: z) = c :: (t ++ (encs rest ++ 34 :: z)) := by rw [e3]; rfl
      rw [← e1] at h
      rw [e1, encs_append, List.append_assoc, hcons, pR, if_neg e4, ← hcons, hst]
      simp only
      rw [if_neg (by omega), List.drop_left]
      exact prog_ref z f rest _ T (fun d hd => hok d (by rw [e1]; exact List.mem_append_right _ hd)) h g (by omega)

/-- What the program takes, the reference takes. -/
theorem prog_text (l T : List UInt8) (h : pText ⟨(34 :: l).toArray⟩ = (T, true)) : pR (l.length + 1) l [] = some (T, []) ∧ ctN ⟨T.toArray⟩ = 0 := by
  have hsz : (⟨(34 :: l).toArray⟩ : ByteArray).size = l.length + 1 := by
    show (34 :: l).toArray.size = _
    rw [List.size_toArray, List.length_cons]
  unfold pText at h
  rw [hsz] at h
  by_cases h1 : l.length + 1 < 2 ∨ 642 < l.length + 1 ∨ Lib.validD (34 :: l) = false
  · rw [if_pos h1] at h
    injection h with _ h
    cases h
  · rw [if_neg h1] at h
    have hv : Lib.validD (34 :: l) = true := by
      cases hh : Lib.validD (34 :: l) with
      | true => rfl
      | false => exact absurd (.inr (.inr hh)) h1
    obtain ⟨rs, r1, r2⟩ := valid_encs _ (34 :: l) (Nat.lt_succ_self _) hv
    rw [r2, runesL_encs rs r1] at h
    rcases rs with _ | ⟨r0, rs⟩
    · cases r2
    · obtain ⟨c, t, q1, q2, q3⟩ := enc_head r0 (r1 r0 List.mem_cons_self)
      have r3 := r2
      rw [encs_cons, q1] at r3
      injection r3 with r4 r5
      have hr0 : r0 = 34 := by
        by_cases h8 : r0 < 128
        · have := q2 h8
          rw [← r4] at this
          have h9 := congrArg UInt8.toNat this
          rw [ofNat_to r0 h8] at h9
          exact h9.symm
        · have := q3 (by omega)
          rw [← r4] at this
          exact absurd this (by decide)
      subst hr0
      have hl : l = encs rs := by
        have h9 : Lib.encodeRune ((34 : Nat) : Int) = [34] := by decide
        rw [h9] at q1
        injection q1 with _ q4
        rw [r5, ← q4]
        rfl
      by_cases hlast : (34 :: rs).getLastD 0 = 34
      · rw [if_pos hlast] at h
        rcases List.eq_nil_or_concat rs with h9 | ⟨mid, x, h9⟩
        · rw [h9] at hl
          have : l.length = 0 := by rw [hl]; rfl
          omega
        · rw [List.concat_eq_append] at h9
          subst h9
          have hx : x = 34 := by
            rw [show (34 :: (mid ++ [x])) = (34 :: mid) ++ [x] from rfl, getLastD_snoc] at hlast
            exact hlast
          subst hx
          rw [show (34 :: (mid ++ [34])) = 34 :: mid ++ [34] from rfl, mid_snoc] at h
          have hmid : ∀ d ∈ mid, okR d := fun d hd => r1 d (by simp [hd])
          cases hp : pGo (34 :: mid ++ [34]).length mid [] with
          | none => rw [hp] at h; cases h
          | some U =>
            rw [hp] at h
            injection h with h10 h11
            subst h10
            have h12 := prog_ref [] _ mid [] _ hmid hp (l.length + 1) (by rw [hl, encs_append, List.length_append]; omega)
            refine ⟨?_, by simpa using h11⟩
            rw [hl] at h12 ⊢
            rw [encs_append] at h12 ⊢
            exact h12
      · rw [if_neg hlast] at h
        injection h with _ h
        cases h

/-- The value whose text it is, by the reference. -/
def refO (l : List UInt8) : Option VVal :=
  if l = txtTrue then some ⟨3, 1, ⟨#[]⟩⟩ else if l = txtFalse then some ⟨3, 0, ⟨#[]⟩⟩
  else if l.length = 0 ∨ l.headD 0 ≠ 34 then (numR l).map fun n => ⟨1, n, ⟨#[]⟩⟩
  else match pR l.length (l.drop 1) [] with
    | some (T, []) => if ctN ⟨T.toArray⟩ = 0 then some ⟨2, 0, ⟨T.toArray⟩⟩ else none
    | _ => none
theorem refO_parV (s : ByteArray) : (∀ v, refO s.data.toList = some v → parV s = (v, 0)) ∧ (refO s.data.toList = none → parV s = (⟨0, 0, ⟨#[]⟩⟩, 6)) := by
  obtain ⟨⟨l⟩⟩ := s
  show (∀ v, refO l = some v → parV ⟨l.toArray⟩ = (v, 0)) ∧ (refO l = none → parV ⟨l.toArray⟩ = (⟨0, 0, ⟨#[]⟩⟩, 6))
  have hpr : prsV ⟨l.toArray⟩ = if l = txtFalse then (⟨3, 0, ⟨#[]⟩⟩, true) else if l = txtTrue then (⟨3, 1, ⟨#[]⟩⟩, true) else if Lib.hasPrefix l [34] = true then (⟨2, 0, ⟨(pText ⟨l.toArray⟩).1.toArray⟩⟩, (pText ⟨l.toArray⟩).2) else numV l := rfl
  unfold refO parV
  rw [hpr]
  by_cases h1 : l = txtTrue
  · subst h1
    rw [if_pos rfl, if_neg (show ¬ txtTrue = txtFalse by decide), if_pos rfl]
    exact ⟨fun v h => by injection h with h; rw [← h]; rfl, fun h => by cases h⟩
  · rw [if_neg h1]
    by_cases h2 : l = txtFalse
    · subst h2
      rw [if_pos rfl, if_pos rfl]
      exact ⟨fun v h => by injection h with h; rw [← h]; rfl, fun h => by cases h⟩
    · rw [if_neg h2, if_neg h2, if_neg h1]
      by_cases h3 : l.length = 0 ∨ l.headD 0 ≠ 34
      · have hpf : ¬ Lib.hasPrefix l [34] = true := by
          rcases l with _ | ⟨c, r⟩
          · decide
          · intro h
            have hc : c = 34 := (by simpa [Lib.hasPrefix] using h : (34 : UInt8) = c).symm
            rcases h3 with h3 | h3
            · simp at h3
            · exact h3 hc
        rw [if_pos h3, if_neg hpf]
        have hn := numR_numV l
        refine ⟨fun v h => ?_, fun h => ?_⟩
        · cases hh : numR l with
          | none => rw [hh] at h; cases h
          | some n =>
            rw [hh] at h
            injection h with h
            rw [hn.1 n hh, ← h]
            rfl
        · cases hh : numR l with
          | none => rw [hn.2 hh]; rfl
          | some n => rw [hh] at h; cases h
      · rw [if_neg h3]
        rcases l with _ | ⟨c, r⟩
        · exact absurd (.inl rfl) h3
        · have hc : c = 34 := by
            by_cases hh : c = 34
            · exact hh
            · exact absurd (.inr hh) h3
          subst hc
          have hpf : Lib.hasPrefix (34 :: r) [34] = true := by simp [Lib.hasPrefix]
          rw [if_pos hpf]
          show (∀ v, (match pR (r.length + 1) r [] with
            | some (T, []) => if ctN ⟨T.toArray⟩ = 0 then some (⟨2, 0, ⟨T.toArray⟩⟩ : VVal) else none
            | _ => none) = some v → _) ∧ ((match pR (r.length + 1) r [] with
            | some (T, []) => if ctN ⟨T.toArray⟩ = 0 then some (⟨2, 0, ⟨T.toArray⟩⟩ : VVal) else none
            | _ => none) = none → _)
          refine ⟨fun v h => ?_, fun h => ?_⟩
          · split at h
            · rename_i T hT
              by_cases hct : ctN ⟨T.toArray⟩ = 0
              · rw [if_pos hct] at h
                injection h with h
                have hl : T.length ≤ 64 := by
                  unfold ctN at hct
                  by_cases h9 : 64 < (⟨T.toArray⟩ : ByteArray).size
                  · rw [if_pos h9] at hct; omega
                  · have : (⟨T.toArray⟩ : ByteArray).size = T.length := List.size_toArray
                    omega
                have hpv := ref_prog _ r T hT hl
                unfold parV at hpv
                rw [hpr, if_neg h2, if_neg h1, if_pos hpf] at hpv
                rw [← h]
                exact hpv
              · rw [if_neg hct] at h
                cases h
            · cases h
          · cases hh : (pText ⟨(34 :: r).toArray⟩).2 with
            | false => rfl
            | true =>
              exfalso
              have := prog_text r (pText ⟨(34 :: r).toArray⟩).1 (by rw [← hh])
              rw [this.1] at h
              simp only at h
              rw [if_pos this.2] at h
              cases h
end Go.Proofs.YtinhmchekdolmaaDoor
