/- Images in two areas, plainly. -/
import Derived.Test.YtnjljalihjkmcaaLogB
namespace Go.Proofs.Ytnjljalihjkmcaa

def be4 (n : Nat) : List UInt8 := [UInt8.ofNat (n / 16777216), UInt8.ofNat (n / 65536), UInt8.ofNat (n / 256), UInt8.ofNat n]
theorem beV_be4 (n : Nat) (h : n < 4294967296) : beV (be4 n) = n := by
  simp only [beV, be4, List.foldl, UInt8.toNat_ofNat']
  omega
/-- An image's head. -/
def headI (s n : Nat) : List UInt8 := 73 :: (be8 s ++ (be4 n ++ (List.replicate 50 0 ++ [90])))
theorem headI_len (s n : Nat) : (headI s n).length = 64 := rfl
theorem headI_first (s n : Nat) : (headI s n)[0]? = some 73 := rfl
theorem headI_last (s n : Nat) : (headI s n)[63]? = some 90 := rfl
def sizeV (b : List UInt8) : Nat := beV ((b.drop 9).take 4)
theorem seqV_headI (s n : Nat) (h : s < 18446744073709551616) : seqV (headI s n) = s := by
  have : ((headI s n).drop 1).take 8 = be8 s := rfl
  rw [seqV, this, beV_be8 s h]
theorem sizeV_head (s n : Nat) (h : n < 4294967296) : sizeV (headI s n) = n := by
  have : ((headI s n).drop 9).take 4 = be4 n := rfl
  rw [sizeV, this, beV_be4 n h]
/-- What an area's first sector says. -/
def ahd (room : Nat) (b : List UInt8) : Option (Nat × Nat) :=
  if 1 ≤ seqV b ∧ seqV b ≤ 4611686018427387904 ∧ sizeV b ≤ room ∧ b = headI (seqV b) (sizeV b) then some (seqV b, sizeV b) else none
theorem ahd_head {room s n : Nat} (h1 : 1 ≤ s) (h2 : s ≤ 4611686018427387904) (h3 : n ≤ room) (h4 : n < 4294967296) : ahd room (headI s n) = some (s, n) := by
  have e1 := seqV_headI s n (by omega)
  have e2 := sizeV_head s n h4
  unfold ahd
  rw [e1, e2, if_pos ⟨h1, h2, h3, rfl⟩]
theorem ahd_some {room : Nat} {b : List UInt8} {s n : Nat} (h : ahd room b = some (s, n)) : 1 ≤ s ∧ s ≤ 4611686018427387904 ∧ n ≤ room ∧ b = headI s n := by
  unfold ahd at h
  split at h
  · rename_i hx
    injection h with h
    injection h with h1 h2
    subst h1 h2
    exact hx
  · cases h
theorem ahd_last {room : Nat} {b : List UInt8} (h : b[63]? ≠ some 90) : ahd room b = none := by
  cases hb : ahd room b with
  | none => rfl
  | some x => exact absurd ((ahd_some hb).2.2.2 ▸ headI_last _ _) h
theorem ahd_first {room : Nat} {b : List UInt8} (h : b[0]? ≠ some 73) : ahd room b = none := by
  cases hb : ahd room b with
  | none => rfl
  | some x => exact absurd ((ahd_some hb).2.2.2 ▸ headI_first _ _) h
theorem ahd_zero (room : Nat) : ahd room zero64 = none := ahd_first (by simp [zero64])
def seqO : Option (Nat × Nat) → Nat
  | none => 0
  | some (s, _) => s
theorem seqO_pos {room : Nat} {b : List UInt8} (h : seqO (ahd room b) = 0) : ahd room b = none := by
  cases hb : ahd room b with
  | none => rfl
  | some x => obtain ⟨s, n⟩ := x; rw [hb] at h; have := (ahd_some hb).1; change s = 0 at h; omega
/-- Is it the one ahead that counts? -/
def pick (x y : Option (Nat × Nat)) : Bool := decide (0 < seqO x ∧ seqO y ≤ seqO x)
def roomI (count : Nat) : Nat := (count - 1) * 64
def imgAt (g : Nat → List UInt8) (a : Nat) (x : Option (Nat × Nat)) : Option (Nat × List UInt8) := x.map fun p => (p.1, (cat g (a + 1) (secs p.2)).take p.2)
section
variable (g : Nat → List UInt8) (first count : Nat)
def hdA : Option (Nat × Nat) := ahd (roomI count) (g first)
def hdB : Option (Nat × Nat) := ahd (roomI count) (g (first + count))
/-- The sector of the area that counts, and of the other one. -/
def areaC : Nat := if pick (hdA g first count) (hdB g first count) then first else first + count
def areaO : Nat := if pick (hdA g first count) (hdB g first count) then first + count else first
def hdC : Option (Nat × Nat) := if pick (hdA g first count) (hdB g first count) then hdA g first count else hdB g first count
/-- The image that counts. -/
def imgOf : Option (Nat × List UInt8) := imgAt g (areaC g first count) (hdC g first count)
end
def seqI : Option (Nat × List UInt8) → Nat
  | none => 0
  | some (s, _) => s
theorem seqI_at (g : Nat → List UInt8) (a : Nat) (x : Option (Nat × Nat)) : seqI (imgAt g a x) = seqO x := by
  cases x with
  | none => rfl
  | some p => rfl
theorem seqI_of (g : Nat → List UInt8) (first count : Nat) : seqI (imgOf g first count) = seqO (hdC g first count) := seqI_at _ _ _
theorem secs_room {n count : Nat} (h : n ≤ roomI count) (hc : 2 ≤ count) : secs n < count := by unfold secs; unfold roomI at h; omega
theorem imgAt_congr {g g' : Nat → List UInt8} {a count : Nat} {x : Option (Nat × Nat)} (hx : ∀ s n, x = some (s, n) → secs n < count) (h : ∀ i, a < i → i < a + count → g' i = g i) : imgAt g' a x = imgAt g a x := by
  cases x with
  | none => rfl
  | some p =>
    obtain ⟨s, n⟩ := p
    have := hx s n rfl
    show some (s, _) = some (s, _)
    rw [cat_congr (g := g') (g' := g) fun i hi => h (a + 1 + i) (by omega) (by show a + 1 + i < a + count; have : i < secs n := hi; omega)]
variable {g g' : Nat → List UInt8} {first count : Nat}
theorem hdC_secs (hc : 2 ≤ count) : ∀ s n, hdC g first count = some (s, n) → secs n < count := by
  intro s n h
  unfold hdC at h
  split at h
  · exact secs_room (ahd_some h).2.2.1 hc
  · exact secs_room (ahd_some h).2.2.1 hc
theorem areas (g : Nat → List UInt8) (first count : Nat) : (areaC g first count = first ∧ areaO g first count = first + count) ∨ (areaC g first count = first + count ∧ areaO g first count = first) := by
  unfold areaC areaO
  split
  · exact .inl ⟨rfl, rfl⟩
  · exact .inr ⟨rfl, rfl⟩
/-- The other area turned, but not to a new image: what counts stays. -/
theorem img_stays (hc : 2 ≤ count) (h1 : ∀ i, areaC g first count ≤ i → i < areaC g first count + count → g' i = g i)
    (h2 : ahd (roomI count) (g' (areaO g first count)) = none ∨ g' (areaO g first count) = g (areaO g first count)) : imgOf g' first count = imgOf g first count := by
  by_cases hp : pick (hdA g first count) (hdB g first count) = true
  · have eC : areaC g first count = first := if_pos hp
    have eO : areaO g first count = first + count := if_pos hp
    rw [eC] at h1
    rw [eO] at h2
    have eA : hdA g' first count = hdA g first count := by unfold hdA; rw [h1 first (Nat.le_refl _) (by omega)]
    have hle : seqO (hdB g' first count) ≤ seqO (hdB g first count) := by
      unfold hdB
      rcases h2 with h2 | h2
      · rw [h2]; exact Nat.zero_le _
      · rw [h2]; exact Nat.le_refl _
    have hp' : pick (hdA g' first count) (hdB g' first count) = true := by
      unfold pick at hp ⊢
      simp only [decide_eq_true_eq] at hp ⊢
      rw [eA]
      omega
    have e1 : areaC g' first count = first := if_pos hp'
    have e2 : hdC g' first count = hdC g first count := by
      unfold hdC
      rw [if_pos hp, if_pos hp', eA]
    unfold imgOf
    rw [e1, eC, e2]
    exact imgAt_congr (hdC_secs hc) fun i h3 h4 => h1 i (by omega) h4
  · have eC : areaC g first count = first + count := if_neg hp
    have eO : areaO g first count = first := if_neg hp
    rw [eC] at h1
    rw [eO] at h2
    have eB : hdB g' first count = hdB g first count := by unfold hdB; rw [h1 (first + count) (Nat.le_refl _) (by omega)]
    have hp' : ¬ pick (hdA g' first count) (hdB g' first count) = true := by
      unfold pick at hp ⊢
      simp only [decide_eq_true_eq] at hp ⊢
      rw [eB]
      unfold hdA at hp ⊢
      rcases h2 with h2 | h2
      · rw [h2]; show ¬ (0 < 0 ∧ _); omega
      · rw [h2]; exact hp
    have e1 : areaC g' first count = first + count := if_neg hp'
    have e2 : hdC g' first count = hdC g first count := by
      unfold hdC
      rw [if_neg hp, if_neg hp', eB]
    unfold imgOf
    rw [e1, eC, e2]
    exact imgAt_congr (hdC_secs hc) fun i h3 h4 => h1 i (by omega) h4
/-- The other area has a newer image: that counts. -/
theorem img_new {s n : Nat} (hC : g' (areaC g first count) = g (areaC g first count)) (hO : ahd (roomI count) (g' (areaO g first count)) = some (s, n)) (hs : seqO (hdC g first count) < s) :
    imgOf g' first count = some (s, (cat g' (areaO g first count + 1) (secs n)).take n) ∧ areaC g' first count = areaO g first count ∧ areaO g' first count = areaC g first count := by
  by_cases hp : pick (hdA g first count) (hdB g first count) = true
  · have eC : areaC g first count = first := if_pos hp
    have eO : areaO g first count = first + count := if_pos hp
    have eH : hdC g first count = hdA g first count := if_pos hp
    rw [eC] at hC
    rw [eO] at hO ⊢
    rw [eH] at hs
    rw [eC]
    have eA : hdA g' first count = hdA g first count := by unfold hdA; rw [hC]
    have hp' : ¬ pick (hdA g' first count) (hdB g' first count) = true := by
      unfold pick
      simp only [decide_eq_true_eq]
      rw [eA]
      unfold hdB
      rw [hO]
      show ¬ (_ ∧ s ≤ _)
      omega
    have e1 : areaC g' first count = first + count := if_neg hp'
    have e2 : hdC g' first count = some (s, n) := by unfold hdC; rw [if_neg hp']; exact hO
    refine ⟨?_, e1, if_neg hp'⟩
    unfold imgOf
    rw [e1, e2]
    rfl
  · have eC : areaC g first count = first + count := if_neg hp
    have eO : areaO g first count = first := if_neg hp
    have eH : hdC g first count = hdB g first count := if_neg hp
    rw [eC] at hC
    rw [eO] at hO ⊢
    rw [eH] at hs
    rw [eC]
    have eB : hdB g' first count = hdB g first count := by unfold hdB; rw [hC]
    have hp' : pick (hdA g' first count) (hdB g' first count) = true := by
      unfold pick
      simp only [decide_eq_true_eq]
      rw [eB]
      unfold hdA
      rw [hO]
      show 0 < s ∧ _ ≤ s
      omega
    have e1 : areaC g' first count = first := if_pos hp'
    have e2 : hdC g' first count = some (s, n) := by unfold hdC; rw [if_pos hp']; exact hO
    refine ⟨?_, e1, if_pos hp'⟩
    unfold imgOf
    rw [e1, e2]
    rfl
def saveOps (o s : Nat) (d : List UInt8) : List DOp := some (o, zero64) :: none :: (wrs (o + 1) (chunks d) ++ (none :: some (o, headI s d.length) :: none :: []))
theorem saveOps_len (o s : Nat) (d : List UInt8) : (saveOps o s d).length = secs d.length + 5 := by simp [saveOps, wrs_len, chunks_len]
end Go.Proofs.Ytnjljalihjkmcaa
