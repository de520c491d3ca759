/- Plain facts: the reference's reading of a text, byte by byte, against the program's, rune by rune. Nothing of the program's run is stated here. -/
import Derived.Test.YtinhmchekdolmaaDoorValPP
import Derived.Test.YtinhmchekdolmaaDoorValRR
namespace Go.Proofs.YtinhmchekdolmaaDoor

/-- An escape's hexadecimal digits. -/
def hexE : Nat → Nat → List UInt8 → Nat × Nat
  | _, _, [] => (0, 0)
  | k, n, d :: ds => if k < 6 ∧ 0 ≤ hexZ d.toNat then hexE (k + 1) (n * 16 + (hexZ d.toNat).toNat) ds else if k = 0 ∨ d.toNat ≠ 125 ∨ ¬ okR n then (0, 0) else (n, k + 4)
/-- An escape, behind its stroke. -/
def escL : List UInt8 → Nat × Nat
  | [] => (0, 0)
  | c :: r => if c.toNat = 34 ∨ c.toNat = 92 then (c.toNat, 2) else if c.toNat = 110 then (10, 2) else if c.toNat = 116 then (9, 2)
    else if c.toNat = 117 ∧ r.headD 0 = 123 then hexE 0 0 (r.drop 1) else (0, 0)
/-- One rune of a text, that is no quote: its number, over how many bytes it goes. -/
def stepB (l : List UInt8) : Nat × Nat :=
  if l.headD 0 = 92 then escL (l.drop 1)
  else if ((Lib.decodeL l).1 = 65533 ∧ (Lib.decodeL l).2 = 1) ∨ (Lib.decodeL l).1 < 32 ∨ (Lib.decodeL l).1 = 127 then (0, 0) else Lib.decodeL l

theorem hexE_spec : ∀ (l : List UInt8) (k n : Nat), (hexE k n l).2 ≠ 0 → k ≤ 6 → ∃ D y, l = D ++ 125 :: y ∧ (∀ d ∈ D, 0 ≤ hexZ d.toNat ∧ d.toNat ≠ 125 ∧ d.toNat < 128) ∧ k + D.length ≤ 6 ∧ 0 < k + D.length ∧ (hexE k n l).1 = hexG n (rsB D) ∧ okR (hexE k n l).1 ∧ (hexE k n l).2 = k + D.length + 4
  | [], _, _, h, _ => absurd rfl h
  | d :: ds, k, n, h, hk => by
    rw [hexE] at h ⊢
    by_cases h1 : k < 6 ∧ 0 ≤ hexZ d.toNat
    · rw [if_pos h1] at h ⊢
      obtain ⟨D, y, e1, e2, e3, e4, e5, e6, e7⟩ := hexE_spec ds (k + 1) _ h (by omega)
      refine ⟨d :: D, y, by rw [e1]; rfl, ?_, by rw [List.length_cons]; omega, by rw [List.length_cons]; omega, by rw [e5]; rfl, e6, by rw [e7, List.length_cons]; omega⟩
      intro x hx
      rcases List.mem_cons.mp hx with rfl | hx
      · refine ⟨h1.2, ?_, ?_⟩
        · intro h125
          have := h1.2
          rw [h125] at this
          exact absurd this (by decide)
        · have h2 := h1.2
          unfold hexZ at h2
          rcases Nat.lt_or_ge x.toNat 128 with h | h
          · exact h
          · exfalso
            rw [if_neg (by omega), if_neg (by omega), if_neg (by omega)] at h2
            omega
      · exact e2 x hx
    · rw [if_neg h1] at h ⊢
      by_cases h2 : k = 0 ∨ d.toNat ≠ 125 ∨ ¬ okR n
      · rw [if_pos h2] at h
        exact absurd rfl h
      · rw [if_neg h2]
        have hd : d = 125 := by
          apply UInt8.toNat_inj.mp
          show d.toNat = 125
          by_cases hh : d.toNat = 125
          · exact hh
          · exact absurd (.inr (.inl hh)) h2
        have hok : okR n := by
          by_cases hh : okR n
          · exact hh
          · exact absurd (.inr (.inr hh)) h2
        refine ⟨[], ds, by rw [hd]; rfl, by simp, by simp; omega, by simp; omega, rfl, hok, rfl⟩

theorem good_esc (x n : Nat) (hx : x < 128) (hn : okR n) (he : escP (92 :: x :: []) = (n, 2)) (ht : ∀ t, escP (92 :: x :: t) = (n, 2)) : goodI (n, [92, x]) ∧ encs [92, x] = [92, UInt8.ofNat x] := by
  have e : encs [92, x] = [92, UInt8.ofNat x] := by
    have := encs_one x hx
    have h2 : encs [92, x] = encs [92] ++ encs [x] := encs_append [92] [x]
    rw [h2, this, encs_one 92 (by omega)]
    rfl
  refine ⟨⟨hn, fun t => ?_, by simp, ?_, by rw [e]; simp⟩, e⟩
  · show rrP (92 :: x :: t) = _
    rw [rrP, if_pos rfl, ht t]
    rfl
  · intro d hd
    simp at hd
    rcases hd with rfl | rfl
    · exact .inl (by omega)
    · exact .inl (by omega)

theorem rsB_len (l : List UInt8) : (rsB l).length = l.length := List.length_map _

/-- What the reference reads as a rune is one of a way that the program reads. -/
theorem stepB_good (l : List UInt8) (hne : l ≠ []) (h34 : l.headD 0 ≠ 34) (h : (stepB l).2 ≠ 0) : ∃ ws y, l = encs ws ++ y ∧ (stepB l).2 = (encs ws).length ∧ goodI ((stepB l).1, ws) := by
  obtain ⟨c, r, rfl⟩ := List.exists_cons_of_ne_nil hne
  have hc0 : (c :: r).headD 0 = c := rfl
  have hd1 : (c :: r).drop 1 = r := rfl
  unfold stepB at h ⊢
  rw [hc0, hd1] at h ⊢
  rw [hc0] at h34
  by_cases h92 : c = 92
  · subst h92
    rw [if_pos rfl] at h ⊢
    rcases r with _ | ⟨x, r⟩
    · exact absurd rfl h
    · rw [escL] at h ⊢
      have hx0 : UInt8.ofNat x.toNat = x := by
        apply UInt8.toNat_inj.mp
        rw [UInt8.toNat_ofNat']
        have := UInt8.toNat_lt x
        omega
      by_cases h1 : x.toNat = 34 ∨ x.toNat = 92
      · rw [if_pos h1]
        have g := good_esc x.toNat x.toNat (by omega) (.inl (by omega)) (by rw [escP, if_pos h1]) (fun t => by rw [escP, if_pos h1])
        exact ⟨[92, x.toNat], r, by rw [g.2, hx0]; rfl, by rw [g.2]; rfl, g.1⟩
      · rw [if_neg h1] at h ⊢
        by_cases h2 : x.toNat = 110
        · rw [if_pos h2]
          have g := good_esc x.toNat 10 (by omega) (.inl (by omega)) (by rw [h2]; rfl) (fun t => by rw [h2]; rfl)
          exact ⟨[92, x.toNat], r, by rw [g.2, hx0]; rfl, by rw [g.2]; rfl, g.1⟩
        · rw [if_neg h2] at h ⊢
          by_cases h3 : x.toNat = 116
          · rw [if_pos h3]
            have g := good_esc x.toNat 9 (by omega) (.inl (by omega)) (by rw [h3]; rfl) (fun t => by rw [h3]; rfl)
            exact ⟨[92, x.toNat], r, by rw [g.2, hx0]; rfl, by rw [g.2]; rfl, g.1⟩
          · rw [if_neg h3] at h ⊢
            by_cases h4 : x.toNat = 117 ∧ r.headD 0 = 123
            · rw [if_pos h4] at h ⊢
              obtain ⟨D, y, e1, e2, e3, e4, e5, e6, e7⟩ := hexE_spec _ 0 0 h (by omega)
              have hx : x = 117 := UInt8.toNat_inj.mp h4.1
              have hr : r = 123 :: (D ++ 125 :: y) := by
                rcases r with _ | ⟨z, r⟩
                · exact absurd h4.2 (by decide)
                · have hz : z = 123 := h4.2
                  have hr1 : r = D ++ 125 :: y := e1
                  rw [hz, hr1]
              have henc : encs (92 :: 117 :: 123 :: rsB D ++ [125]) = 92 :: 117 :: 123 :: D ++ [125] := by
                have := encs_rsB (92 :: 117 :: 123 :: D ++ [125]) (by
                  intro b hb
                  simp only [List.cons_append, List.mem_cons, List.mem_append, List.not_mem_nil, or_false] at hb
                  rcases hb with rfl | rfl | rfl | hb | rfl
                  · decide
                  · decide
                  · decide
                  · exact (e2 b hb).2.2
                  · decide)
                rw [← this]
                congr 1
                simp [rsB]
              refine ⟨92 :: 117 :: 123 :: rsB D ++ [125], y, ?_, ?_, e6, fun t => ?_, by simp, ?_, ?_⟩
              · rw [henc, hx, hr]
                simp
              · rw [henc, e7]
                simp
              · have := rrP_num (rsB D) t _ (by
                  intro d hd
                  obtain ⟨b, hb, rfl⟩ := List.mem_map.mp hd
                  exact ⟨(e2 b hb).1, (e2 b hb).2.1⟩) (by rw [rsB_len]; omega) (by rw [rsB_len]; omega) e5.symm e6
                simp only
                rw [show (92 :: 117 :: 123 :: rsB D ++ [125]) ++ t = 92 :: 117 :: 123 :: rsB D ++ 125 :: t by simp, this]
                simp
              · intro d hd
                simp only [List.cons_append, List.mem_cons, List.mem_append, List.not_mem_nil, or_false] at hd
                rcases hd with rfl | rfl | rfl | hd | rfl
                · exact .inl (by omega)
                · exact .inl (by omega)
                · exact .inl (by omega)
                · obtain ⟨b, hb, rfl⟩ := List.mem_map.mp hd
                  have := (e2 b hb).2.2
                  exact .inl (by omega)
                · exact .inl (by omega)
              · simp only
                rw [henc]
                simp
                omega
            · rw [if_neg h4] at h
              exact absurd rfl h
  · rw [if_neg h92] at h ⊢
    by_cases hb : ((Lib.decodeL (c :: r)).1 = 65533 ∧ (Lib.decodeL (c :: r)).2 = 1) ∨ (Lib.decodeL (c :: r)).1 < 32 ∨ (Lib.decodeL (c :: r)).1 = 127
    · rw [if_pos hb] at h
      exact absurd rfl h
    · rw [if_neg hb]
      have hv : ¬ ((Lib.decodeL (c :: r)).1 = 65533 ∧ (Lib.decodeL (c :: r)).2 = 1) := fun h => hb (.inl h)
      have hok := okR_decode (c :: r) hne hv
      have hen := Lib.encode_decode (c :: r) hne hv
      have hw := Lib.decodeL_width (c :: r)
      have hle := Lib.decodeL_le (c :: r) hne
      obtain ⟨⟨q, z⟩, hq⟩ : ∃ q, q = Lib.decodeL (c :: r) := ⟨_, rfl⟩
      rw [← hq] at hb hv hok hen hw hle ⊢
      simp only at hb hv hok hen hw hle ⊢
      have hhead : ∀ x : Nat, x < 128 → q = x → c = UInt8.ofNat x := by
        rintro x hx rfl
        have h1 := encs_one q hx
        have h2 : encs [q] = Lib.encodeRune (q : Int) ++ [] := rfl
        rw [List.append_nil] at h2
        rw [← h2, h1] at hen
        obtain ⟨z', rfl⟩ : ∃ z', z = z' + 1 := ⟨z - 1, by omega⟩
        rw [List.take_succ_cons] at hen
        injection hen with h3 _
        exact h3.symm
      have g := good_plain q hok ⟨by omega, by omega, fun h => h34 (hhead 34 (by omega) h), fun h => h92 (hhead 92 (by omega) h)⟩
      refine ⟨[q], (c :: r).drop z, ?_, ?_, g.1⟩
      · rw [g.2, hen, List.take_append_drop]
      · rw [g.2, hen, List.length_take]; omega

/-- The reference's loop over a text's bytes: what is read, and what stands behind the quote. -/
def pR : Nat → List UInt8 → List UInt8 → Option (List UInt8 × List UInt8)
  | 0, _, _ => none
  | _ + 1, [], _ => none
  | f + 1, c :: r, acc => if c = 34 then some (acc, r) else if (stepB (c :: r)).2 = 0 then none else pR f ((c :: r).drop (stepB (c :: r)).2) (acc ++ Lib.encodeRune ((stepB (c :: r)).1 : Int))

theorem pR_items : ∀ (f : Nat) (l acc T R : List UInt8), pR f l acc = some (T, R) → ∃ its, (∀ p ∈ its, goodI p) ∧ l = encs (snds its) ++ 34 :: R ∧ T = acc ++ encs (fsts its)
  | 0, _, _, _, _, h => by cases h
  | _ + 1, [], _, _, _, h => by cases h
  | f + 1, c :: r, acc, T, R, h => by
    rw [pR] at h
    by_cases h34 : c = 34
    · rw [if_pos h34] at h
      injection h with h
      injection h with h1 h2
      exact ⟨[], by simp, by rw [h34, h2]; rfl, by rw [← h1]; simp [fsts, encs]⟩
    · rw [if_neg h34] at h
      by_cases hz : (stepB (c :: r)).2 = 0
      · rw [if_pos hz] at h
        cases h
      · rw [if_neg hz] at h
        obtain ⟨ws, y, e1, e2, g⟩ := stepB_good (c :: r) (by simp) h34 hz
        obtain ⟨its, i1, i2, i3⟩ := pR_items f _ _ T R h
        rw [e2, e1, List.drop_left] at i2
        refine ⟨((stepB (c :: r)).1, ws) :: its, ?_, ?_, ?_⟩
        · intro p hp
          rcases List.mem_cons.mp hp with rfl | hp
          · exact g
          · exact i1 p hp
        · rw [snds_cons, encs_append, e1, i2, List.append_assoc]
        · have e : fsts (((stepB (c :: r)).1, ws) :: its) = (stepB (c :: r)).1 :: fsts its := rfl
          rw [i3, e, encs_cons, List.append_assoc]

/-- What the reference takes, the program takes. -/
theorem ref_prog (f : Nat) (l T : List UInt8) (h : pR f l [] = some (T, [])) (hl : T.length ≤ 64) : parV ⟨(34 :: l).toArray⟩ = (⟨2, 0, ⟨T.toArray⟩⟩, 0) := by
  obtain ⟨its, i1, i2, i3⟩ := pR_items f l [] T [] h
  rw [List.nil_append] at i3
  have := parV_items its i1 (by rw [← i3]; exact hl)
  rw [i2, i3]
  exact this

/-- How a rune's bytes begin. -/
theorem enc_head (r : Nat) (h : okR r) : ∃ c t, Lib.encodeRune (r : Int) = c :: t ∧ (r < 128 → c = UInt8.ofNat r) ∧ (128 ≤ r → 128 ≤ c.toNat) := by
  by_cases h1 : r < 128
  · have e1 := encs_one r h1
    have e2 : encs [r] = Lib.encodeRune (r : Int) ++ [] := rfl
    rw [List.append_nil] at e2
    exact ⟨UInt8.ofNat r, [], by rw [← e2, e1], fun _ => rfl, fun h => by omega⟩
  · have hp := encR_pos (r : Int)
    obtain ⟨c, t, ht⟩ : ∃ c t, Lib.encodeRune (r : Int) = c :: t := by
      cases hh : Lib.encodeRune (r : Int) with
      | nil => rw [hh] at hp; simp at hp
      | cons c t => exact ⟨c, t, rfl⟩
    refine ⟨c, t, ht, fun h => absurd h h1, fun _ => ?_⟩
    rcases Nat.lt_or_ge c.toNat 128 with h2 | h2
    · exfalso
      have hd := decodeL_enc r [] h
      rw [List.append_nil, ht, Lib.decodeL_ascii c t h2] at hd
      injection hd with hd _
      omega
    · exact h2

theorem numGo_hexE (y : List UInt8) : ∀ (ds : List Nat) (i n : Nat), (∀ d ∈ ds, okR d) → i ≤ 6 → (numGo i n ds).2 ≠ 0 → ∃ D r, ds = D ++ 125 :: r ∧ (∀ d ∈ D, d < 128) ∧ okR (numGo i n ds).1 ∧ (numGo i n ds).2 = i + D.length + 2 ∧ (∀ z, hexE i n (encs (D ++ [125]) ++ z) = ((numGo i n ds).1, i + D.length + 4))
  | [], _, _, _, _, h => absurd rfl h
  | d :: ds, i, n, hok, hi, h => by
    rw [numGo] at h ⊢
    by_cases h1 : d = 125
    · subst h1
      rw [if_pos rfl] at h ⊢
      by_cases h2 : i = 0 ∨ Lib.validRune (n : Int) = false
      · rw [if_pos h2] at h
        exact absurd rfl h
      · rw [if_neg h2]
        have hn : okR n := by
          have hv : Lib.validRune (n : Int) = true := by
            cases hh : Lib.validRune (n : Int) with
            | true => rfl
            | false => exact absurd (.inr hh) h2
          unfold Lib.validRune at hv
          rw [decide_eq_true_iff] at hv
          unfold okR
          omega
        refine ⟨[], ds, rfl, by simp, hn, by simp, fun z => ?_⟩
        show hexE i n (125 :: z) = _
        rw [hexE, if_neg (fun h => absurd h.2 (by decide)), if_neg (by
          rintro (h | h | h)
          · exact h2 (.inl h)
          · exact h rfl
          · exact h hn)]
        simp
    · rw [if_neg h1] at h ⊢
      by_cases h2 : hexZ d < 0 ∨ i = 6
      · rw [if_pos h2] at h
        exact absurd rfl h
      · rw [if_neg h2] at h ⊢
        obtain ⟨D, r, e1, e2, e3, e4, e5⟩ := numGo_hexE y ds (i + 1) _ (fun x hx => hok x (List.mem_cons_of_mem _ hx)) (by omega) h
        have hd : d < 128 := by
          rcases Nat.lt_or_ge d 128 with h | h
          · exact h
          · exfalso
            refine h2 (.inl ?_)
            unfold hexZ
            rw [if_neg (by omega), if_neg (by omega), if_neg (by omega)]
            omega
        have hb : (UInt8.ofNat d).toNat = d := by rw [UInt8.toNat_ofNat']; omega
        refine ⟨d :: D, r, by rw [e1]; rfl, ?_, e3, by rw [e4, List.length_cons]; omega, fun z => ?_⟩
        · intro x hx
          rcases List.mem_cons.mp hx with rfl | hx
          · exact hd
          · exact e2 x hx
        · have e6 : encs (d :: D ++ [125]) = UInt8.ofNat d :: encs (D ++ [125]) := by
            have h3 : encs (d :: D ++ [125]) = encs [d] ++ encs (D ++ [125]) := by rw [← encs_append]; rfl
            rw [h3, encs_one d hd]
            rfl
          rw [e6, List.cons_append, hexE, hb, if_pos ⟨by omega, by omega⟩, e5 z, List.length_cons]
          congr 1
          omega
end Go.Proofs.YtinhmchekdolmaaDoor
