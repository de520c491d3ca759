/- Plain facts: a text's runes, their places, and the words that they make. Nothing of the program's run is stated here. -/
import Derived.Lib.ValidLaws
import Derived.Lib.TrimUEq
import Derived.Lib.MapLaws
namespace Go.Proofs.YtfgojbfdjbochaaDoor

/-- Does a byte stand first that begins no rune? -/
def badD (l : List UInt8) : Prop := (Lib.decodeL l).1 = 65533 ∧ (Lib.decodeL l).2 = 1
instance (l : List UInt8) : Decidable (badD l) := by unfold badD; infer_instance
/-- The runes of bytes, up to the first byte that begins none. -/
def rnsG : Nat → List UInt8 → List Nat
  | 0, _ => []
  | f + 1, l => if l = [] then [] else if badD l then [] else (Lib.decodeL l).1 :: rnsG f (l.drop (Lib.decodeL l).2)
theorem rnsG_more (d : Nat) : ∀ (g : Nat) (x : List UInt8), x.length ≤ g → rnsG (g + d) x = rnsG g x
  | 0, x, hx => by
    have : x = [] := List.eq_nil_of_length_eq_zero (by omega)
    subst this
    cases d <;> simp [rnsG]
  | g + 1, x, hx => by
    rw [show g + 1 + d = (g + d) + 1 by omega, rnsG, rnsG]
    by_cases hn : x = []
    · rw [if_pos hn, if_pos hn]
    · rw [if_neg hn, if_neg hn]
      have hw := Lib.decodeL_width x
      have hp : 1 ≤ x.length := List.length_pos_iff.2 hn
      rw [rnsG_more d g _ (by rw [List.length_drop]; omega)]
def rns (l : List UInt8) : List Nat := rnsG l.length l
theorem rns_nil : rns [] = [] := rfl
theorem rns_step (l : List UInt8) (hn : l ≠ []) : rns l = if badD l then [] else (Lib.decodeL l).1 :: rns (l.drop (Lib.decodeL l).2) := by
  have hw := Lib.decodeL_width l
  have hp : 1 ≤ l.length := List.length_pos_iff.2 hn
  unfold rns
  obtain ⟨n, hn2⟩ : ∃ n, l.length = n + 1 := ⟨l.length - 1, by omega⟩
  rw [hn2, rnsG, if_neg hn]
  have hl : (l.drop (Lib.decodeL l).2).length ≤ n := by rw [List.length_drop]; omega
  obtain ⟨d, hd⟩ : ∃ d, n = (l.drop (Lib.decodeL l).2).length + d := ⟨n - (l.drop (Lib.decodeL l).2).length, by omega⟩
  rw [← rnsG_more d _ (l.drop (Lib.decodeL l).2) (Nat.le_refl _), ← hd]
theorem rns_bad {l : List UInt8} (hn : l ≠ []) (hb : badD l) : rns l = [] := by rw [rns_step l hn, if_pos hb]
theorem rns_cons {l : List UInt8} (hn : l ≠ []) (hb : ¬ badD l) : rns l = (Lib.decodeL l).1 :: rns (l.drop (Lib.decodeL l).2) := by rw [rns_step l hn, if_neg hb]
theorem valid_not {l : List UInt8} (hn : l ≠ []) (hv : Lib.validD l = true) : ¬ badD l ∧ Lib.validD (l.drop (Lib.decodeL l).2) = true := by
  rw [Lib.validD_step l hn] at hv
  split at hv
  · cases hv
  · rename_i h
    exact ⟨h, hv⟩
theorem rns_len : ∀ (n : Nat) (l : List UInt8), l.length ≤ n → (rns l).length ≤ l.length
  | 0, l, h => by
    have : l = [] := List.eq_nil_of_length_eq_zero (by omega)
    subst this
    simp [rns_nil]
  | n + 1, l, h => by
    by_cases hn : l = []
    · subst hn; simp [rns_nil]
    · have hw := Lib.decodeL_width l
      have hp : 1 ≤ l.length := List.length_pos_iff.2 hn
      rw [rns_step l hn]
      split
      · simp
      · have ih := rns_len n (l.drop (Lib.decodeL l).2) (by rw [List.length_drop]; omega)
        rw [List.length_drop] at ih
        simp only [List.length_cons]
        omega
theorem rns_le : ∀ (n : Nat) (l : List UInt8), l.length ≤ n → ∀ r ∈ rns l, r ≤ 1114111
  | 0, l, h, r, hr => by
    have : l = [] := List.eq_nil_of_length_eq_zero (by omega)
    subst this
    simp [rns_nil] at hr
  | n + 1, l, h, r, hr => by
    by_cases hn : l = []
    · subst hn; simp [rns_nil] at hr
    · have hw := Lib.decodeL_width l
      have hp : 1 ≤ l.length := List.length_pos_iff.2 hn
      rw [rns_step l hn] at hr
      split at hr
      · cases hr
      · rcases List.mem_cons.1 hr with rfl | hr
        · exact Lib.decodeL_rune l
        · exact rns_le n _ (by rw [List.length_drop]; omega) r hr

/-- The place behind a rune; behind runes. -/
def bh (p : Nat × Nat) (r : Nat) : Nat × Nat := if r = 10 then (p.1 + 1, 1) else (p.1, p.2 + 1)
def plc (p : Nat × Nat) (rs : List Nat) : Nat × Nat := rs.foldl bh p
theorem plc_nil (p : Nat × Nat) : plc p [] = p := rfl
theorem plc_cons (p : Nat × Nat) (r : Nat) (rs : List Nat) : plc p (r :: rs) = plc (bh p r) rs := rfl
theorem bh_le (p : Nat × Nat) (r k : Nat) (h : p.1 + p.2 ≤ k) (h2 : 1 ≤ p.2) : (bh p r).1 + (bh p r).2 ≤ k + 1 ∧ 1 ≤ (bh p r).2 := by
  unfold bh
  split
  · simp only; omega
  · simp only; omega

/-- A word. -/
structure Wd where
  nm : Bool
  tx : List UInt8
  ln : Nat
  co : Nat
deriving DecidableEq
/-- A splitter: the words, what it is within (0 nothing, 1 a name, 2 a remark), the place of the next rune. -/
structure Sp where
  ws : List Wd
  wi : Nat
  pl : Nat × Nat
def isLet (r : Nat) : Prop := 97 ≤ r ∧ r ≤ 122
instance (r : Nat) : Decidable (isLet r) := by unfold isLet; infer_instance
def isBlk (r : Nat) : Prop := r = 9 ∨ r = 10 ∨ r = 13 ∨ r = 32 ∨ r = 160 ∨ r = 12288
instance (r : Nat) : Decidable (isBlk r) := by unfold isBlk; infer_instance
/-- The text of a sign; none of what is none. -/
def sgn (r : Nat) : List UInt8 := if r = 40 then [40] else if r = 41 then [41] else if r = 44 ∨ r = 8743 then [44] else if r = 61 ∨ r = 8592 then [61] else if r = 59 then [59] else []
/-- A letter behind words of which the last is a name that is open, or not. -/
def letS (s : Sp) (r : Nat) : Except (Nat × Nat) Sp :=
  if s.wi = 1 then
    match s.ws.getLast? with
    | some c => if c.tx.length = 16 then .error (c.ln, c.co) else .ok ⟨s.ws.dropLast ++ [⟨c.nm, c.tx ++ [UInt8.ofNat r], c.ln, c.co⟩], 1, bh s.pl r⟩
    | none => .error s.pl
  else .ok ⟨s.ws ++ [⟨true, [UInt8.ofNat r], s.pl.1, s.pl.2⟩], 1, bh s.pl r⟩
/-- One rune. -/
def tk (s : Sp) (r : Nat) : Except (Nat × Nat) Sp :=
  if s.wi = 2 then .ok ⟨s.ws, if r = 10 then 0 else 2, bh s.pl r⟩
  else if isLet r then letS s r
  else if r = 35 then .ok ⟨s.ws, 2, bh s.pl r⟩
  else if isBlk r then .ok ⟨s.ws, 0, bh s.pl r⟩
  else if sgn r = [] then .error s.pl
  else .ok ⟨s.ws ++ [⟨false, sgn r, s.pl.1, s.pl.2⟩], 0, bh s.pl r⟩
/-- Runes. -/
def mach : Sp → List Nat → Except (Nat × Nat) (List Wd)
  | s, [] => .ok s.ws
  | s, r :: rs => match tk s r with
    | .ok s' => mach s' rs
    | .error p => .error p
/-- What a splitter that goes on ends with. -/
def spl0 : Sp := ⟨[], 0, (1, 1)⟩
/-- The words of a text, or a place and an error. -/
def endW : Except (Nat × Nat) (List Wd) → List Wd × Nat × Nat × Nat
  | .ok ws => (ws, 0, 0, 0)
  | .error p => ([], p.1, p.2, 80)
def splitW (l : List UInt8) : List Wd × Nat × Nat × Nat :=
  if 1024 < l.length then ([], 0, 0, 3) else if Lib.validD l = false then ([], (plc (1, 1) (rns l)).1, (plc (1, 1) (rns l)).2, 7) else endW (mach spl0 (rns l))
theorem mach_cons (s : Sp) (r : Nat) (rs : List Nat) : mach s (r :: rs) = match tk s r with | .ok s' => mach s' rs | .error p => .error p := rfl
theorem mach_ok {s s' : Sp} {r : Nat} (rs : List Nat) (h : tk s r = .ok s') : mach s (r :: rs) = mach s' rs := by rw [mach_cons, h]
theorem mach_bad {s : Sp} {r : Nat} {p : Nat × Nat} (rs : List Nat) (h : tk s r = .error p) : mach s (r :: rs) = .error p := by rw [mach_cons, h]
/-- What holds of every splitter on its way: its last word is a name while one is open; places are small; no more words than runes; texts are short. -/
structure Good (s : Sp) (k : Nat) : Prop where
  wi : s.wi ≤ 2
  open_ : s.wi = 1 → ∃ o c, s.ws = o ++ [c] ∧ 1 ≤ c.tx.length
  small : s.pl.1 + s.pl.2 ≤ 2 + k ∧ 1 ≤ s.pl.2
  len : s.ws.length ≤ k
  txt : ∀ x ∈ s.ws, x.tx.length ≤ 16 ∧ x.ln + x.co ≤ 2 + k
theorem good0 : Good spl0 0 := ⟨by simp [spl0], fun h => by simp [spl0] at h, by simp [spl0], by simp [spl0], fun x h => by simp [spl0] at h⟩
theorem sgn_len (r : Nat) : (sgn r).length ≤ 1 := by
  unfold sgn
  repeat' split
  all_goals simp
theorem Good.step {s s' : Sp} {k r : Nat} (h : Good s k) (ht : tk s r = .ok s') : Good s' (k + 1) := by
  obtain ⟨h1, h2, h3, h4, h5⟩ := h
  have hb := bh_le s.pl r (2 + k) h3.1 h3.2
  unfold tk at ht
  split at ht
  · cases ht
    refine ⟨by simp only; split <;> omega, fun hh => ?_, ⟨by simp only; omega, hb.2⟩, by simp only; omega, fun x hx => ?_⟩
    · simp only at hh; split at hh <;> omega
    · have := h5 x hx; omega
  rename_i hw2
  split at ht
  · unfold letS at ht
    split at ht
    · rename_i hw1
      obtain ⟨o, c, ho, hc⟩ := h2 hw1
      rw [ho, List.getLast?_concat] at ht
      simp only [List.dropLast_concat] at ht
      split at ht
      · cases ht
      · rename_i h16
        cases ht
        have hc2 := h5 c (by rw [ho]; simp)
        rw [ho] at h4
        simp at h4
        refine ⟨by simp, fun _ => ⟨o, _, rfl, by simp⟩, ⟨by simp only; omega, hb.2⟩, by simp; omega, fun x hx => ?_⟩
        simp only [List.mem_append, List.mem_singleton] at hx
        rcases hx with hx | rfl
        · have := h5 x (by rw [ho]; simp [hx]); omega
        · simp only [List.length_append, List.length_singleton]; omega
    · cases ht
      refine ⟨by simp, fun _ => ⟨s.ws, _, rfl, by simp⟩, ⟨by simp only; omega, hb.2⟩, by simp; omega, fun x hx => ?_⟩
      simp only [List.mem_append, List.mem_singleton] at hx
      rcases hx with hx | rfl
      · have := h5 x hx; omega
      · simp only [List.length_singleton]; omega
  split at ht
  · cases ht
    exact ⟨by simp, fun hh => by simp at hh, ⟨by simp only; omega, hb.2⟩, by simp only; omega, fun x hx => by have := h5 x hx; omega⟩
  split at ht
  · cases ht
    exact ⟨by simp, fun hh => by simp at hh, ⟨by simp only; omega, hb.2⟩, by simp only; omega, fun x hx => by have := h5 x hx; omega⟩
  split at ht
  · cases ht
  · cases ht
    have hs := sgn_len r
    refine ⟨by simp, fun hh => by simp at hh, ⟨by simp only; omega, hb.2⟩, by simp; omega, fun x hx => ?_⟩
    simp only [List.mem_append, List.mem_singleton] at hx
    rcases hx with hx | rfl
    · have := h5 x hx; omega
    · simp only; omega
end Go.Proofs.YtfgojbfdjbochaaDoor
