/- Plain facts: a text as the runes that it is made of. Nothing of the program's run is stated here. -/
import Derived.Test.YtinhmchekdolmaaDoorValW
import Derived.Test.YtinhmchekdolmaaDoorValJ
namespace Go.Proofs.YtinhmchekdolmaaDoor

/-- Is it a rune? -/
def okR (r : Nat) : Prop := r < 55296 ∨ (57343 < r ∧ r ≤ 1114111)
instance (r : Nat) : Decidable (okR r) := by unfold okR; infer_instance

theorem decodeL_enc (r : Nat) (t : List UInt8) (h : okR r) : Lib.decodeL (Lib.encodeRune (r : Int) ++ t) = (r, (Lib.encodeRune (r : Int)).length) := by
  unfold okR at h
  rw [Lib.decodeL_N]
  unfold Lib.encodeRune
  by_cases c1 : r ≤ 127
  · rw [Lib.encodeRuneZ_one (by omega) (by omega)]
    have e0 : ((([(r : Int)].map fun x => x.toNat.toUInt8) ++ t).getD 0 0).toNat = r := by
      show (((r : Int).toNat).toUInt8).toNat = r
      rw [Nat.toUInt8, UInt8.toNat_ofNat']; omega
    rw [e0]
    unfold Lib.decodeN
    rw [if_pos (by omega)]
    rfl
  · by_cases c2 : r ≤ 2047
    · rw [Lib.encodeRuneZ_two (by omega) (by omega)]
      have e0 : ((([192 + (r : Int) / 64, 128 + (r : Int) % 64].map fun x => x.toNat.toUInt8) ++ t).getD 0 0).toNat = 192 + r / 64 := by
        show ((192 + (r : Int) / 64).toNat.toUInt8).toNat = _
        rw [Nat.toUInt8, UInt8.toNat_ofNat']; omega
      have e1 : ((([192 + (r : Int) / 64, 128 + (r : Int) % 64].map fun x => x.toNat.toUInt8) ++ t).getD 1 0).toNat = 128 + r % 64 := by
        show ((128 + (r : Int) % 64).toNat.toUInt8).toNat = _
        rw [Nat.toUInt8, UInt8.toNat_ofNat']; omega
      have hn : (([192 + (r : Int) / 64, 128 + (r : Int) % 64].map fun x => x.toNat.toUInt8) ++ t).length = 2 + t.length := by simp; omega
      rw [e0, e1, hn]
      unfold Lib.decodeN
      rw [if_neg (by omega), if_pos (by omega), if_pos (by omega)]
      have : (192 + r / 64) % 32 * 64 + (128 + r % 64) % 64 = r := by omega
      rw [this]
      rfl
    · by_cases c3 : r ≤ 65535
      · rw [Lib.encodeRuneZ_three (by omega)]
        obtain ⟨L, hL⟩ : ∃ L, L = ([224 + (r : Int) / 4096, 128 + (r : Int) / 64 % 64, 128 + (r : Int) % 64].map fun x => x.toNat.toUInt8) ++ t := ⟨_, rfl⟩
        have e0 : (L.getD 0 0).toNat = 224 + r / 4096 := by
          rw [hL]
          show ((224 + (r : Int) / 4096).toNat.toUInt8).toNat = _
          rw [Nat.toUInt8, UInt8.toNat_ofNat']; omega
        have e1 : (L.getD 1 0).toNat = 128 + r / 64 % 64 := by
          rw [hL]
          show ((128 + (r : Int) / 64 % 64).toNat.toUInt8).toNat = _
          rw [Nat.toUInt8, UInt8.toNat_ofNat']; omega
        have e2 : (L.getD 2 0).toNat = 128 + r % 64 := by
          rw [hL]
          show ((128 + (r : Int) % 64).toNat.toUInt8).toNat = _
          rw [Nat.toUInt8, UInt8.toNat_ofNat']; omega
        have hn : L.length = 3 + t.length := by rw [hL]; simp; omega
        rw [← hL, e0, e1, e2, hn]
        have hv : (224 + r / 4096) % 16 * 4096 + (128 + r / 64 % 64) % 64 * 64 + (128 + r % 64) % 64 = r := by omega
        unfold Lib.decodeN
        rw [hv, if_neg (by omega), if_neg (by omega), if_pos (by omega), if_pos (by omega)]
        rfl
      · rw [Lib.encodeRuneZ_four (by omega) (by omega)]
        obtain ⟨L, hL⟩ : ∃ L, L = ([240 + (r : Int) / 262144, 128 + (r : Int) / 4096 % 64, 128 + (r : Int) / 64 % 64, 128 + (r : Int) % 64].map fun x => x.toNat.toUInt8) ++ t := ⟨_, rfl⟩
        have e0 : (L.getD 0 0).toNat = 240 + r / 262144 := by
          rw [hL]
          show ((240 + (r : Int) / 262144).toNat.toUInt8).toNat = _
          rw [Nat.toUInt8, UInt8.toNat_ofNat']; omega
        have e1 : (L.getD 1 0).toNat = 128 + r / 4096 % 64 := by
          rw [hL]
          show ((128 + (r : Int) / 4096 % 64).toNat.toUInt8).toNat = _
          rw [Nat.toUInt8, UInt8.toNat_ofNat']; omega
        have e2 : (L.getD 2 0).toNat = 128 + r / 64 % 64 := by
          rw [hL]
          show ((128 + (r : Int) / 64 % 64).toNat.toUInt8).toNat = _
          rw [Nat.toUInt8, UInt8.toNat_ofNat']; omega
        have e3 : (L.getD 3 0).toNat = 128 + r % 64 := by
          rw [hL]
          show ((128 + (r : Int) % 64).toNat.toUInt8).toNat = _
          rw [Nat.toUInt8, UInt8.toNat_ofNat']; omega
        have hn : L.length = 4 + t.length := by rw [hL]; simp; omega
        rw [← hL, e0, e1, e2, e3, hn]
        have hv : (240 + r / 262144) % 8 * 262144 + (128 + r / 4096 % 64) % 64 * 4096 + (128 + r / 64 % 64) % 64 * 64 + (128 + r % 64) % 64 = r := by omega
        unfold Lib.decodeN
        rw [hv, if_neg (by omega), if_neg (by omega), if_neg (by omega), if_pos (by omega), if_pos (by omega)]
        rfl

theorem encR_pos (r : Int) : 1 ≤ (Lib.encodeRune r).length ∧ (Lib.encodeRune r).length ≤ 4 := by
  have := Lib.encodeRuneZ_length r
  simpa [Lib.encodeRune] using this
theorem dec_noerr (r : Nat) (h : okR r) : ¬ (r = 65533 ∧ (Lib.encodeRune (r : Int)).length = 1) := by
  rintro ⟨rfl, h2⟩
  revert h2
  decide

/-- The bytes of runes. -/
def encs (rs : List Nat) : List UInt8 := rs.flatMap fun (r : Nat) => Lib.encodeRune (r : Int)
theorem encs_cons (r : Nat) (rs : List Nat) : encs (r :: rs) = Lib.encodeRune (r : Int) ++ encs rs := List.flatMap_cons
theorem encs_append (a b : List Nat) : encs (a ++ b) = encs a ++ encs b := List.flatMap_append
theorem encs_len : ∀ rs : List Nat, rs.length ≤ (encs rs).length ∧ (encs rs).length ≤ 4 * rs.length
  | [] => by simp [encs]
  | r :: rs => by
    have h1 := encR_pos (r : Int)
    have h2 := encs_len rs
    rw [encs_cons, List.length_append, List.length_cons]
    omega
theorem encs_valid : ∀ rs : List Nat, (∀ r ∈ rs, okR r) → Lib.validD (encs rs) = true
  | [], _ => rfl
  | r :: rs, h => by
    have hr := h r List.mem_cons_self
    have hp := encR_pos (r : Int)
    rw [encs_cons, Lib.validD_step _ (fun e => by have := congrArg List.length e; rw [List.length_append, List.length_nil] at this; omega), decodeL_enc r _ hr]
    simp only
    rw [if_neg (dec_noerr r hr), List.drop_left]
    exact encs_valid rs fun x hx => h x (List.mem_cons_of_mem _ hx)

/-- The runes of a text, by its bytes. -/
def rsG : Nat → List UInt8 → List Nat
  | 0, _ => []
  | f + 1, l => if l = [] then [] else (Lib.decodeL l).1 :: rsG f (l.drop (Lib.decodeL l).2)
theorem runesG_eq (s : ByteArray) : ∀ (f pos : Nat), runesG s f pos = rsG f (s.data.toList.drop pos)
  | 0, _ => rfl
  | f + 1, pos => by
    have hl : s.data.toList.length = s.size := Array.length_toList
    rw [runesG, rsG]
    by_cases h : pos < s.size
    · have hne : s.data.toList.drop pos ≠ [] := fun e => by have := List.drop_eq_nil_iff.mp e; omega
      rw [if_pos h, if_neg hne, ← Lib.decodeL_drop, runesG_eq s f _, List.drop_drop]
    · rw [if_neg h, if_pos (List.drop_eq_nil_of_le (by omega))]
theorem rsG_encs : ∀ (rs : List Nat) (f : Nat), (∀ r ∈ rs, okR r) → (encs rs).length ≤ f → rsG f (encs rs) = rs
  | [], f, _, _ => by cases f <;> simp [rsG, encs]
  | r :: rs, f, h, hf => by
    have hr := h r List.mem_cons_self
    have hp := encR_pos (r : Int)
    have hne : encs (r :: rs) ≠ [] := fun e => by have := congrArg List.length e; rw [encs_cons, List.length_append, List.length_nil] at this; omega
    have hle : (encs rs).length + 1 ≤ f := by rw [encs_cons, List.length_append] at hf; omega
    obtain ⟨f, rfl⟩ : ∃ g, f = g + 1 := ⟨f - 1, by omega⟩
    rw [rsG, if_neg hne, encs_cons, decodeL_enc r _ hr]
    simp only
    rw [List.drop_left, rsG_encs rs f (fun x hx => h x (List.mem_cons_of_mem _ hx)) (by omega)]
theorem runesL_encs (rs : List Nat) (h : ∀ r ∈ rs, okR r) : runesL ⟨(encs rs).toArray⟩ = rs := by
  unfold runesL
  rw [runesG_eq]
  exact rsG_encs rs _ h (Nat.le_refl _)
theorem okR_decode (l : List UInt8) (_hne : l ≠ []) (hv : ¬ ((Lib.decodeL l).1 = 65533 ∧ (Lib.decodeL l).2 = 1)) : okR (Lib.decodeL l).1 := by
  have k0 := (l.getD 0 0).toNat_lt
  rw [Lib.decodeL_N] at hv ⊢
  unfold Lib.decodeN at hv ⊢
  unfold okR
  repeat' split at hv
  all_goals (try split)
  all_goals first
    | (simp at hv; done)
    | skip
  all_goals (repeat' split)
  all_goals (first | omega | (simp only; omega) | (exfalso; simp at hv))
/-- A text is its runes' bytes. -/
theorem valid_encs : ∀ (f : Nat) (l : List UInt8), l.length < f → Lib.validD l = true → ∃ rs, (∀ r ∈ rs, okR r) ∧ l = encs rs
  | 0, _, h, _ => absurd h (by omega)
  | f + 1, l, hf, hv => by
    by_cases hne : l = []
    · subst hne
      exact ⟨[], by simp, rfl⟩
    · obtain ⟨h1, h2⟩ := valid_head hne hv
      have hw := Lib.decodeL_width l
      have hle := Lib.decodeL_le l hne
      obtain ⟨rs, h3, h4⟩ := valid_encs f (l.drop (Lib.decodeL l).2) (by rw [List.length_drop]; omega) h2
      refine ⟨(Lib.decodeL l).1 :: rs, fun r hr => ?_, ?_⟩
      · rcases List.mem_cons.mp hr with rfl | hr
        · exact okR_decode l hne h1
        · exact h3 r hr
      · rw [encs_cons, Lib.encode_decode l hne h1, ← h4, List.take_append_drop]
end Go.Proofs.YtinhmchekdolmaaDoor
