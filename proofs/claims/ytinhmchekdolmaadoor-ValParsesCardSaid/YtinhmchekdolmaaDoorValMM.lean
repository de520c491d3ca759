/- Plain facts: what is shown is parsed. Nothing of the program's run is stated here. -/
import Derived.Test.YtinhmchekdolmaaDoorValLL
import Derived.Test.YtinhmchekdolmaaDoorValHH
namespace Go.Proofs.YtinhmchekdolmaaDoor

/-- The number that hexadecimal digits say, behind one that was said. -/
def hexG (n : Nat) (ds : List Nat) : Nat := ds.foldl (fun a d => a * 16 + (hexZ d).toNat) n
theorem numGo_digs (t : List Nat) : ∀ (ds : List Nat) (i n : Nat), (∀ d ∈ ds, 0 ≤ hexZ d ∧ d ≠ 125) → i + ds.length ≤ 6 → 0 < i + ds.length → okR (hexG n ds) → numGo i n (ds ++ 125 :: t) = (hexG n ds, i + ds.length + 2)
  | [], i, n, _, _, h0, hv => by
    have hv' : Lib.validRune (n : Int) = true := by
      unfold Lib.validRune
      have hv2 : okR n := hv
      unfold okR at hv2
      rw [decide_eq_true_iff]
      omega
    rw [List.nil_append, numGo, if_pos rfl, if_neg (by rw [hv']; simp at h0 ⊢; omega)]
    rfl
  | d :: ds, i, n, hd, h6, _, hv => by
    obtain ⟨h1, h2⟩ := hd d List.mem_cons_self
    rw [List.length_cons] at h6
    rw [List.cons_append, numGo, if_neg h2, if_neg (by omega), numGo_digs t ds (i + 1) _ (fun x hx => hd x (List.mem_cons_of_mem _ hx)) (by omega) (by omega) hv, List.length_cons]
    show (hexG (n * 16 + (hexZ d).toNat) ds, _) = _
    congr 1
    omega

/-- An escape by number. -/
theorem rrP_num (ds t : List Nat) (r : Nat) (hd : ∀ d ∈ ds, 0 ≤ hexZ d ∧ d ≠ 125) (h6 : ds.length ≤ 6) (h0 : 0 < ds.length) (hr : hexG 0 ds = r) (hv : okR r) :
    rrP (92 :: 117 :: 123 :: ds ++ 125 :: t) = (r, ds.length + 4) := by
  have hn := numGo_digs t ds 0 0 hd (by omega) (by omega) (by rw [hr]; exact hv)
  rw [hr] at hn
  show rrP (92 :: 117 :: 123 :: (ds ++ 125 :: t)) = _
  rw [rrP, if_pos rfl, escP, if_neg (by decide), if_neg (by decide), if_neg (by decide), if_pos rfl]
  have e : numP (123 :: (ds ++ 125 :: t)) = (r, 0 + ds.length + 2) := by rw [numP, if_pos rfl, hn]
  rw [e, if_neg (by simp only; omega)]
  simp only
  congr 1
  omega

/-- A control's digits, as runes. -/
def hxR (u : Nat) : List Nat := if u < 16 then [(hx u).toNat] else [(hx (u / 16)).toNat, (hx (u % 16)).toNat]
/-- What a rune is shown as, in runes. -/
def shN (r : Nat) : List Nat :=
  if r = 34 ∨ r = 92 then [92, r] else if r = 10 then [92, 110] else if r = 9 then [92, 116]
  else if r < 32 ∨ r = 127 then 92 :: 117 :: 123 :: hxR r ++ [125] else [r]
theorem ctl_fin : ∀ r : Fin 128, (r.val < 32 ∨ r.val = 127) → (hxR r.val).length ≤ 6 ∧ 0 < (hxR r.val).length ∧ hexG 0 (hxR r.val) = r.val ∧ (∀ d ∈ hxR r.val, 0 ≤ hexZ d ∧ d ≠ 125 ∧ okR d) ∧ encs (shN r.val) = shR r.val := by decide +kernel
theorem one_fin : ∀ r : Fin 128, encs [r.val] = [UInt8.ofNat r.val] := by decide +kernel
theorem encs_one (r : Nat) (h : r < 128) : encs [r] = [UInt8.ofNat r] := one_fin ⟨r, h⟩
theorem shN_encs (r : Nat) : encs (shN r) = shR r := by
  unfold shN shR
  by_cases h1 : r = 34 ∨ r = 92
  · rw [if_pos h1, if_pos h1]
    rcases h1 with rfl | rfl <;> decide
  · rw [if_neg h1, if_neg h1]
    by_cases h2 : r = 10
    · rw [if_pos h2, if_pos h2]; decide
    · rw [if_neg h2, if_neg h2]
      by_cases h3 : r = 9
      · rw [if_pos h3, if_pos h3]; decide
      · rw [if_neg h3, if_neg h3]
        by_cases h4 : r < 32 ∨ r = 127
        · have := (ctl_fin ⟨r, by omega⟩ h4).2.2.2.2
          unfold shN shR at this
          simp only at this
          rw [if_neg h1, if_neg h1, if_neg h2, if_neg h2, if_neg h3, if_neg h3] at this
          exact this
        · rw [if_neg h4, if_neg h4]
          show Lib.encodeRune (r : Int) ++ [] = _
          rw [List.append_nil]
theorem shN_ok (r : Nat) (h : okR r) : ∀ d ∈ shN r, okR d := by
  unfold shN
  have p : ∀ x, x < 55296 → okR x := fun x hx => .inl hx
  intro d hd
  split at hd
  · simp at hd; rcases hd with rfl | rfl
    · exact p _ (by omega)
    · exact h
  · split at hd
    · simp at hd; rcases hd with rfl | rfl <;> exact p _ (by omega)
    · split at hd
      · simp at hd; rcases hd with rfl | rfl <;> exact p _ (by omega)
      · split at hd
        · rename_i h4
          have := (ctl_fin ⟨r, by omega⟩ h4).2.2.2.1
          simp only [List.cons_append, List.mem_cons, List.mem_append, List.not_mem_nil, or_false] at hd
          rcases hd with rfl | rfl | rfl | hd | rfl
          · exact p _ (by omega)
          · exact p _ (by omega)
          · exact p _ (by omega)
          · exact (this d hd).2.2
          · exact p _ (by omega)
        · simp at hd; rcases hd with rfl; exact h
theorem rrP_shN (r : Nat) (t : List Nat) (h : okR r) : rrP (shN r ++ t) = (r, (shN r).length) := by
  unfold shN
  by_cases h1 : r = 34 ∨ r = 92
  · rw [if_pos h1]
    show rrP (92 :: r :: t) = _
    rw [rrP, if_pos rfl, escP, if_pos h1]
    rfl
  · rw [if_neg h1]
    by_cases h2 : r = 10
    · rw [if_pos h2, h2]; rfl
    · rw [if_neg h2]
      by_cases h3 : r = 9
      · rw [if_pos h3, h3]; rfl
      · rw [if_neg h3]
        by_cases h4 : r < 32 ∨ r = 127
        · obtain ⟨c1, c2, c3, c4, -⟩ := ctl_fin ⟨r, by omega⟩ h4
          simp only at c1 c2 c3 c4
          rw [if_pos h4]
          have := rrP_num (hxR r) t r (fun d hd => ⟨(c4 d hd).1, (c4 d hd).2.1⟩) c1 c2 c3 h
          rw [show (92 :: 117 :: 123 :: hxR r ++ [125]) ++ t = 92 :: 117 :: 123 :: hxR r ++ 125 :: t by simp, this]
          simp
        · rw [if_neg h4]
          show rrP (r :: t) = _
          rw [rrP, if_neg (by omega), if_neg (by omega)]
          rfl
theorem shN_pos (r : Nat) : 1 ≤ (shN r).length := by
  unfold shN
  split
  · simp
  · split
    · simp
    · split
      · simp
      · split <;> simp

theorem showFrom_eq (s : ByteArray) : ∀ (f pos : Nat), showFrom s f pos = encs ((runesG s f pos).flatMap shN)
  | 0, _ => rfl
  | f + 1, pos => by
    rw [showFrom, runesG]
    split
    · rw [List.flatMap_cons, encs_append, shN_encs, showFrom_eq s f _]
    · rfl
/-- What texts are parsed from: runes that go one by one into these. -/
theorem pGo_many (g : Nat → List Nat) (hg : ∀ r t, okR r → rrP (g r ++ t) = (r, (g r).length)) (hp : ∀ r, 1 ≤ (g r).length) : ∀ (rs : List Nat) (f : Nat) (acc : List UInt8), (∀ r ∈ rs, okR r) → (rs.flatMap g).length ≤ f → pGo f (rs.flatMap g) acc = some (acc ++ encs rs)
  | [], f, acc, _, _ => by
    rw [List.flatMap_nil, pGo_nil]
    simp [encs]
  | r :: rs, f, acc, h, hf => by
    have hr := h r List.mem_cons_self
    have hp1 := hp r
    rw [List.flatMap_cons] at hf ⊢
    rw [List.length_append] at hf
    obtain ⟨f, rfl⟩ : ∃ k, f = k + 1 := ⟨f - 1, by omega⟩
    obtain ⟨x, xs, hx⟩ : ∃ x xs, g r ++ rs.flatMap g = x :: xs := by
      cases hgr : g r with
      | nil => rw [hgr] at hp1; simp at hp1
      | cons x xs => exact ⟨x, xs ++ rs.flatMap g, rfl⟩
    have hrr := hg r (rs.flatMap g) hr
    rw [hx] at hrr ⊢
    rw [pGo, hrr]
    simp only
    rw [if_neg (by omega), ← hx, List.drop_left, pGo_many g hg hp rs f _ (fun y hy => h y (List.mem_cons_of_mem _ hy)) (by omega), encs_cons, List.append_assoc]

theorem getLastD_snoc (a : List Nat) (x : Nat) : (a ++ [x]).getLastD 0 = x := by simp
theorem mid_snoc (a : List Nat) (x y : Nat) : (x :: a ++ [y]).dropLast.drop 1 = a := by
  rw [List.dropLast_concat]; rfl

/-- A text between its quotes, whatever way each rune is written. -/
theorem pText_many (g : Nat → List Nat) (hg : ∀ r t, okR r → rrP (g r ++ t) = (r, (g r).length)) (hp : ∀ r, 1 ≤ (g r).length) (ho : ∀ r, okR r → ∀ d ∈ g r, okR d) (rs : List Nat) (h : ∀ r ∈ rs, okR r) (hl : (encs rs).length ≤ 64) (hs : (encs (34 :: rs.flatMap g ++ [34])).length ≤ 642) :
    pText ⟨(encs (34 :: rs.flatMap g ++ [34])).toArray⟩ = (encs rs, true) := by
  have hok : ∀ r ∈ 34 :: rs.flatMap g ++ [34], okR r := by
    intro d hd
    simp only [List.cons_append, List.mem_cons, List.mem_append, List.mem_flatMap, List.not_mem_nil, or_false] at hd
    rcases hd with rfl | ⟨r, hr, hd⟩ | rfl
    · exact .inl (by omega)
    · exact ho r (h r hr) d hd
    · exact .inl (by omega)
  have hlen := (encs_len (34 :: rs.flatMap g ++ [34])).1
  have hsz : (⟨(encs (34 :: rs.flatMap g ++ [34])).toArray⟩ : ByteArray).size = (encs (34 :: rs.flatMap g ++ [34])).length := List.size_toArray
  unfold pText
  rw [hsz, if_neg (by
    have hl2 : 2 ≤ (34 :: rs.flatMap g ++ [34]).length := by rw [List.length_append, List.length_cons, List.length_cons, List.length_nil]; omega
    rintro (h1 | h1 | h1)
    · omega
    · omega
    · rw [encs_valid _ hok] at h1; cases h1), runesL_encs _ hok, getLastD_snoc, if_pos rfl, mid_snoc, pGo_many g hg hp rs _ _ h (by simp; omega), List.nil_append, pFin]
  have hct : ctN ⟨(encs rs).toArray⟩ = 0 := by
    unfold ctN
    rw [if_neg (by show ¬ 64 < (encs rs).toArray.size; rw [List.size_toArray]; omega)]
    exact if_pos (encs_valid rs h)
  rw [hct]
  rfl

theorem pText_show (s : ByteArray) (hl : s.size ≤ 64) (hv : Lib.validD s.data.toList = true) : pText ⟨(showT s).toArray⟩ = (s.data.toList, true) := by
  obtain ⟨rs, h1, h2⟩ := valid_encs (s.data.toList.length + 1) s.data.toList (by omega) hv
  have hsl : s.data.toList.length = s.size := Array.length_toList
  have hrs : runesG s s.size 0 = rs := by
    rw [runesG_eq, List.drop_zero, h2]
    exact rsG_encs rs _ h1 (by rw [← h2]; omega)
  have e : showT s = encs (34 :: rs.flatMap shN ++ [34]) := by
    unfold showT
    rw [showFrom_eq, hrs, encs_append]
    rfl
  have hsl2 : (showT s).length ≤ 642 := by
    have := showFrom_len s s.size 0
    unfold showT
    simp
    omega
  rw [e] at hsl2 ⊢
  rw [pText_many shN rrP_shN shN_pos shN_ok rs h1 (by rw [← h2]; omega) hsl2, ← h2]

/-- What is shown is parsed. -/
theorem parV_show (v : VVal) (hf : v.fits) (hg : ckN v = 0) : parV ⟨(showV v).toArray⟩ = (plainV v, 0) := by
  have hz := ckN_zero hg
  obtain ⟨k, n, s⟩ := v
  obtain ⟨f0, f1, f2⟩ := hf
  simp only at f0 f1 f2 hz
  rcases hz with rfl | ⟨rfl, hn⟩ | ⟨rfl, hsl, hv⟩
  · have e : showV ⟨1, n, s⟩ = Lib.itoa n := if_pos rfl
    rw [e, parV_itoa n f1 f2]
    rfl
  · rcases hn with rfl | rfl
    · rfl
    · rfl
  · have e : showV ⟨2, n, s⟩ = showT s := by unfold showV; simp
    rw [e]
    have hp := pText_show s hsl hv
    have hpr : prsV ⟨(showT s).toArray⟩ = (⟨2, 0, s⟩, true) := by
      unfold prsV
      obtain ⟨t, ht⟩ : ∃ t, showT s = 34 :: t := ⟨_, rfl⟩
      show (if showT s = txtFalse then _ else if showT s = txtTrue then _ else if Lib.hasPrefix (showT s) [34] = true then _ else numV (showT s)) = _
      rw [if_neg (by rw [ht]; intro h; injection h with h _; revert h; decide), if_neg (by rw [ht]; intro h; injection h with h _; revert h; decide), if_pos (by rw [ht]; simp [Lib.hasPrefix]), hp]
    unfold parV
    rw [hpr]
    rfl
end Go.Proofs.YtinhmchekdolmaaDoor
