/- Plain facts: a text of any runes, each written in a way of its own. Nothing of the program's run is stated here. -/
import Derived.Test.YtinhmchekdolmaaDoorValMM
import Derived.Test.YtinhmchekdolmaaDoorValOO
namespace Go.Proofs.YtinhmchekdolmaaDoor

/-- A rune, and a way to write it that is read as it. -/
def goodI (p : Nat × List Nat) : Prop := okR p.1 ∧ (∀ t, rrP (p.2 ++ t) = (p.1, p.2.length)) ∧ 1 ≤ p.2.length ∧ (∀ d ∈ p.2, okR d) ∧ (encs p.2).length ≤ 10
def fsts (its : List (Nat × List Nat)) : List Nat := its.map Prod.fst
def snds (its : List (Nat × List Nat)) : List Nat := its.flatMap Prod.snd
theorem snds_cons (p : Nat × List Nat) (its : List (Nat × List Nat)) : snds (p :: its) = p.2 ++ snds its := List.flatMap_cons
theorem snds_snoc (p : Nat × List Nat) (its : List (Nat × List Nat)) : snds (its ++ [p]) = snds its ++ p.2 := by
  unfold snds; rw [List.flatMap_append]; simp
theorem fsts_snoc (p : Nat × List Nat) (its : List (Nat × List Nat)) : fsts (its ++ [p]) = fsts its ++ [p.1] := by
  unfold fsts; rw [List.map_append]; rfl
theorem items_len : ∀ (its : List (Nat × List Nat)), (∀ p ∈ its, goodI p) → (encs (snds its)).length ≤ 10 * its.length ∧ its.length ≤ (snds its).length ∧ its.length ≤ (encs (fsts its)).length
  | [], _ => by simp [snds, fsts, encs]
  | p :: its, h => by
    obtain ⟨h1, h2, h3, h4, h5⟩ := h p List.mem_cons_self
    obtain ⟨i1, i2, i3⟩ := items_len its fun x hx => h x (List.mem_cons_of_mem _ hx)
    have hp := encR_pos (p.1 : Int)
    have e : fsts (p :: its) = p.1 :: fsts its := rfl
    rw [snds_cons, e, encs_append, encs_cons, List.length_append, List.length_append, List.length_append, List.length_cons]
    omega
theorem fsts_ok (its : List (Nat × List Nat)) (h : ∀ p ∈ its, goodI p) : ∀ r ∈ fsts its, okR r := by
  intro r hr
  obtain ⟨p, hp, rfl⟩ := List.mem_map.mp hr
  exact (h p hp).1
theorem snds_ok (its : List (Nat × List Nat)) (h : ∀ p ∈ its, goodI p) : ∀ r ∈ snds its, okR r := by
  intro r hr
  obtain ⟨p, hp, hd⟩ := List.mem_flatMap.mp hr
  exact (h p hp).2.2.2.1 r hd
theorem pGo_items : ∀ (its : List (Nat × List Nat)) (f : Nat) (acc : List UInt8), (∀ p ∈ its, goodI p) → (snds its).length ≤ f → pGo f (snds its) acc = some (acc ++ encs (fsts its))
  | [], f, acc, _, _ => by
    show pGo f [] acc = _
    rw [pGo_nil]
    simp [fsts, encs]
  | p :: its, f, acc, h, hf => by
    obtain ⟨h1, h2, h3, h4, h5⟩ := h p List.mem_cons_self
    rw [snds_cons] at hf ⊢
    rw [List.length_append] at hf
    obtain ⟨f, rfl⟩ : ∃ k, f = k + 1 := ⟨f - 1, by omega⟩
    obtain ⟨x, xs, hx⟩ : ∃ x xs, p.2 ++ snds its = x :: xs := by
      cases hgr : p.2 with
      | nil => rw [hgr] at h3; simp at h3
      | cons x xs => exact ⟨x, xs ++ snds its, rfl⟩
    have hrr := h2 (snds its)
    have e : fsts (p :: its) = p.1 :: fsts its := rfl
    rw [hx] at hrr ⊢
    rw [pGo, hrr]
    simp only
    rw [if_neg (by omega), ← hx, List.drop_left, pGo_items its f _ (fun y hy => h y (List.mem_cons_of_mem _ hy)) (by omega), e, encs_cons, List.append_assoc]
theorem parV_items (its : List (Nat × List Nat)) (h : ∀ p ∈ its, goodI p) (hl : (encs (fsts its)).length ≤ 64) :
    parV ⟨(34 :: encs (snds its) ++ [34]).toArray⟩ = (⟨2, 0, ⟨(encs (fsts its)).toArray⟩⟩, 0) := by
  obtain ⟨l1, l2, l3⟩ := items_len its h
  have hok : ∀ r ∈ 34 :: snds its ++ [34], okR r := by
    intro d hd
    simp only [List.cons_append, List.mem_cons, List.mem_append, List.not_mem_nil, or_false] at hd
    rcases hd with rfl | hd | rfl
    · exact .inl (by omega)
    · exact snds_ok its h d hd
    · exact .inl (by omega)
  have hD : 34 :: encs (snds its) ++ [34] = encs (34 :: snds its ++ [34]) := by rw [encs_append]; rfl
  have hsz : (⟨(encs (34 :: snds its ++ [34])).toArray⟩ : ByteArray).size = (encs (34 :: snds its ++ [34])).length := List.size_toArray
  have hlen : (encs (34 :: snds its ++ [34])).length = 2 + (encs (snds its)).length := by
    rw [← hD, List.length_append, List.length_cons, List.length_cons, List.length_nil]; omega
  have hp : pText ⟨(encs (34 :: snds its ++ [34])).toArray⟩ = (encs (fsts its), true) := by
    unfold pText
    rw [hsz, if_neg (by
      rintro (h1 | h1 | h1)
      · omega
      · omega
      · rw [encs_valid _ hok] at h1; cases h1), runesL_encs _ hok, getLastD_snoc, if_pos rfl, mid_snoc, pGo_items its _ _ h (by simp; omega), List.nil_append, pFin]
    have hct : ctN ⟨(encs (fsts its)).toArray⟩ = 0 := by
      unfold ctN
      rw [if_neg (by show ¬ 64 < (encs (fsts its)).toArray.size; rw [List.size_toArray]; omega)]
      exact if_pos (encs_valid _ (fsts_ok its h))
    rw [hct]
    rfl
  have hpr : prsV ⟨(34 :: encs (snds its) ++ [34]).toArray⟩ = (⟨2, 0, ⟨(encs (fsts its)).toArray⟩⟩, true) := by
    unfold prsV
    show (if 34 :: encs (snds its) ++ [34] = txtFalse then _ else if 34 :: encs (snds its) ++ [34] = txtTrue then _ else if Lib.hasPrefix (34 :: encs (snds its) ++ [34]) [34] = true then _ else numV (34 :: encs (snds its) ++ [34])) = _
    rw [if_neg (by intro h; injection h with h _; revert h; decide), if_neg (by intro h; injection h with h _; revert h; decide), if_pos (by simp [Lib.hasPrefix]), hD, hp]
  unfold parV
  rw [hpr]
  rfl

/-- Bytes below 128 as runes. -/
def rsB (l : List UInt8) : List Nat := l.map fun b => b.toNat
theorem encs_rsB : ∀ (l : List UInt8), (∀ b ∈ l, b.toNat < 128) → encs (rsB l) = l
  | [], _ => rfl
  | b :: l, h => by
    have hb := h b List.mem_cons_self
    have e : rsB (b :: l) = b.toNat :: rsB l := rfl
    have e1 := encs_one b.toNat hb
    rw [e, encs_cons, encs_rsB l fun x hx => h x (List.mem_cons_of_mem _ hx)]
    have e2 : Lib.encodeRune (b.toNat : Int) = [b] := by
      have : encs [b.toNat] = Lib.encodeRune (b.toNat : Int) ++ [] := rfl
      rw [List.append_nil] at this
      rw [← this, e1]
      congr 1
      apply UInt8.toNat_inj.mp
      rw [UInt8.toNat_ofNat']
      omega
    rw [e2]
    rfl

theorem hexG_append (a b : List Nat) (n : Nat) : hexG n (a ++ b) = hexG (hexG n a) b := by
  unfold hexG; rw [List.foldl_append]
theorem hexG_hexL (f : Nat → UInt8) (hf : ∀ k, k < 16 → hexZ (f k).toNat = (k : Int)) : ∀ (g n : Nat), n < g → hexG 0 (rsB (hexL f n)) = n
  | 0, n, h => absurd h (by omega)
  | g + 1, n, h => by
    rw [hexL]
    by_cases h16 : n < 16
    · rw [dif_pos h16]
      show 0 * 16 + (hexZ (f n).toNat).toNat = n
      rw [hf n h16]; omega
    · rw [dif_neg h16]
      have e : rsB (hexL f (n / 16) ++ [f (n % 16)]) = rsB (hexL f (n / 16)) ++ [(f (n % 16)).toNat] := by unfold rsB; rw [List.map_append]; rfl
      rw [e, hexG_append, hexG_hexL f hf g (n / 16) (by omega)]
      show n / 16 * 16 + (hexZ (f (n % 16)).toNat).toNat = n
      rw [hf (n % 16) (by omega)]; omega
theorem hexL_mem (f : Nat → UInt8) : ∀ (g n : Nat), n < g → ∀ b ∈ hexL f n, ∃ k, k < 16 ∧ b = f k
  | 0, n, h => absurd h (by omega)
  | g + 1, n, h => by
    intro b hb
    rw [hexL] at hb
    by_cases h16 : n < 16
    · rw [dif_pos h16] at hb
      simp at hb
      exact ⟨n, h16, hb⟩
    · rw [dif_neg h16] at hb
      rcases List.mem_append.mp hb with hb | hb
      · exact hexL_mem f g (n / 16) (by omega) b hb
      · simp at hb
        exact ⟨n % 16, by omega, hb⟩
theorem hexG_zeros : ∀ (j : Nat) (l : List Nat), hexG 0 (List.replicate j 48 ++ l) = hexG 0 l
  | 0, l => rfl
  | j + 1, l => by
    show hexG (0 * 16 + (hexZ 48).toNat) (List.replicate j 48 ++ l) = _
    have : (0 * 16 + (hexZ 48).toNat) = 0 := by decide
    rw [this, hexG_zeros j l]

/-- An escape by number, with so many zeros ahead. -/
theorem good_num (f : Nat → UInt8) (hf : ∀ k, k < 16 → hexZ (f k).toNat = (k : Int) ∧ (f k).toNat < 128 ∧ (f k).toNat ≠ 125) (n j : Nat) (hn : okR n) (hj : j + (hexL f n).length ≤ 6) :
    goodI (n, 92 :: 117 :: 123 :: rsB (List.replicate j 48 ++ hexL f n) ++ [125]) ∧ encs (92 :: 117 :: 123 :: rsB (List.replicate j 48 ++ hexL f n) ++ [125]) = 92 :: 117 :: 123 :: (List.replicate j 48 ++ hexL f n) ++ [125] := by
  have hn1 : n ≤ 1114111 := by unfold okR at hn; omega
  have hl1 := (hexL_len f 5 n (by omega)).2
  have hmem : ∀ b ∈ List.replicate j 48 ++ hexL f n, b.toNat < 128 ∧ 0 ≤ hexZ b.toNat ∧ b.toNat ≠ 125 := by
    intro b hb
    rcases List.mem_append.mp hb with hb | hb
    · rw [List.eq_of_mem_replicate hb]; decide
    · obtain ⟨k, hk, rfl⟩ := hexL_mem f (n + 1) n (by omega) b hb
      obtain ⟨h1, h2, h3⟩ := hf k hk
      exact ⟨h2, by rw [h1]; omega, h3⟩
  have hlen : (rsB (List.replicate j 48 ++ hexL f n)).length = j + (hexL f n).length := by
    unfold rsB; rw [List.length_map, List.length_append, List.length_replicate]
  have hG : hexG 0 (rsB (List.replicate j 48 ++ hexL f n)) = n := by
    have e : rsB (List.replicate j 48 ++ hexL f n) = List.replicate j 48 ++ rsB (hexL f n) := by
      unfold rsB
      rw [List.map_append, List.map_replicate]
      rfl
    rw [e, hexG_zeros, hexG_hexL f (fun k hk => (hf k hk).1) (n + 1) n (by omega)]
  have henc : encs (92 :: 117 :: 123 :: rsB (List.replicate j 48 ++ hexL f n) ++ [125]) = 92 :: 117 :: 123 :: (List.replicate j 48 ++ hexL f n) ++ [125] := by
    have := encs_rsB (92 :: 117 :: 123 :: (List.replicate j 48 ++ hexL f n) ++ [125]) (by
      intro b hb
      simp only [List.cons_append, List.mem_cons, List.not_mem_nil, or_false] at hb
      rcases hb with rfl | rfl | rfl | hb
      · decide
      · decide
      · decide
      · rcases List.mem_append.mp hb with hb | hb
        · exact (hmem b hb).1
        · simp at hb; rw [hb]; decide)
    rw [← this]
    congr 1
    simp [rsB]
  refine ⟨⟨hn, fun t => ?_, ?_, ?_, ?_⟩, henc⟩
  · have := rrP_num (rsB (List.replicate j 48 ++ hexL f n)) t n (by
      intro d hd
      obtain ⟨b, hb, rfl⟩ := List.mem_map.mp hd
      exact ⟨(hmem b hb).2.1, (hmem b hb).2.2⟩) (by omega) (by omega) hG hn
    simp only
    rw [show (92 :: 117 :: 123 :: rsB (List.replicate j 48 ++ hexL f n) ++ [125]) ++ t = 92 :: 117 :: 123 :: rsB (List.replicate j 48 ++ hexL f n) ++ 125 :: t by simp, this]
    simp
  · simp
  · intro d hd
    simp only [List.cons_append, List.mem_cons, List.mem_append, List.not_mem_nil, or_false] at hd
    rcases hd with rfl | rfl | rfl | hd | rfl
    · exact .inl (by omega)
    · exact .inl (by omega)
    · exact .inl (by omega)
    · obtain ⟨b, hb, rfl⟩ := List.mem_map.mp hd
      have := (hmem b hb).1
      exact .inl (by omega)
    · exact .inl (by omega)
  · rw [henc]
    simp only [List.cons_append, List.length_cons, List.length_append, List.length_replicate, List.length_nil]
    omega
theorem good_plain (n : Nat) (hn : okR n) (h : 32 ≤ n ∧ n ≠ 127 ∧ n ≠ 34 ∧ n ≠ 92) : goodI (n, [n]) ∧ encs [n] = Lib.encodeRune (n : Int) := by
  have e : encs [n] = Lib.encodeRune (n : Int) := by show Lib.encodeRune (n : Int) ++ [] = _; rw [List.append_nil]
  refine ⟨⟨hn, fun t => ?_, by simp, ?_, ?_⟩, e⟩
  · show rrP (n :: t) = _
    rw [rrP, if_neg (by omega), if_neg (by omega)]
    rfl
  · intro d hd
    simp at hd
    rw [hd]; exact hn
  · rw [e]
    have := encR_pos (n : Int)
    omega
def LOW : ByteArray := ⟨#[48, 49, 50, 51, 52, 53, 54, 55, 56, 57, 97, 98, 99, 100, 101, 102]⟩
def UPP : ByteArray := ⟨#[48, 49, 50, 51, 52, 53, 54, 55, 56, 57, 65, 66, 67, 68, 69, 70]⟩
def lowF (k : Nat) : UInt8 := LOW.data.toList.getD k 0
def uppF (k : Nat) : UInt8 := UPP.data.toList.getD k 0
theorem low_fin : ∀ k : Fin 16, (hexZ (lowF k.val).toNat = (k.val : Int) ∧ (lowF k.val).toNat < 128 ∧ (lowF k.val).toNat ≠ 125) ∧ (hexZ (uppF k.val).toNat = (k.val : Int) ∧ (uppF k.val).toNat < 128 ∧ (uppF k.val).toNat ≠ 125) := by decide +kernel
theorem low_ext : ∀ k : Fin 16, LOW.extract k.val (k.val + 1) = ⟨#[lowF k.val]⟩ ∧ UPP.extract k.val (k.val + 1) = ⟨#[uppF k.val]⟩ := by decide +kernel
end Go.Proofs.YtinhmchekdolmaaDoor
