/- Records on sectors, plainly: heads, what is read. -/
import Derived.Test.YtdjcpjfomgfjlaaJnC
namespace Go.Proofs.Ytdjcpjfomgfjlaa

/-- How many sectors so many bytes need. -/
def secs (n : Nat) : Nat := (n + 63) / 64
def beV (l : List UInt8) : Nat := l.foldl (fun a b => a * 256 + b.toNat) 0
theorem beV_snoc (l : List UInt8) (b : UInt8) : beV (l ++ [b]) = beV l * 256 + b.toNat := by simp [beV]
theorem beV_lt (l : List UInt8) : beV l < 256 ^ l.length := by
  have h : ∀ (l : List UInt8) (a : Nat), l.foldl (fun a b => a * 256 + b.toNat) a < (a + 1) * 256 ^ l.length := by
    intro l
    induction l with
    | nil => intro a; simp
    | cons x r ih =>
      intro a
      have := ih (a * 256 + x.toNat)
      have hx := x.toNat_lt
      rw [List.length_cons, Nat.pow_succ]
      show r.foldl _ _ < _
      refine Nat.lt_of_lt_of_le this ?_
      rw [Nat.mul_comm (256 ^ r.length) 256, ← Nat.mul_assoc]
      exact Nat.mul_le_mul_right _ (by omega)
  simpa [beV] using h l 0
/-- Eight bytes, the highest first. -/
def be8 (s : Nat) : List UInt8 := [UInt8.ofNat (s / 72057594037927936), UInt8.ofNat (s / 281474976710656), UInt8.ofNat (s / 1099511627776), UInt8.ofNat (s / 4294967296), UInt8.ofNat (s / 16777216), UInt8.ofNat (s / 65536), UInt8.ofNat (s / 256), UInt8.ofNat s]
def be2 (n : Nat) : List UInt8 := [UInt8.ofNat (n / 256), UInt8.ofNat n]
theorem beV_be8 (s : Nat) (h : s < 18446744073709551616) : beV (be8 s) = s := by
  simp only [beV, be8, List.foldl, UInt8.toNat_ofNat']
  omega
theorem beV_be2 (n : Nat) (h : n < 65536) : beV (be2 n) = n := by
  simp only [beV, be2, List.foldl, UInt8.toNat_ofNat']
  omega
theorem be8_len (s : Nat) : (be8 s).length = 8 := rfl
theorem be2_len (s : Nat) : (be2 s).length = 2 := rfl
/-- A head's bytes. -/
def headL (s n : Nat) : List UInt8 := 82 :: (be8 s ++ (be2 n ++ (List.replicate 52 0 ++ [165])))
theorem headL_len (s n : Nat) : (headL s n).length = 64 := rfl
theorem headL_first (s n : Nat) : (headL s n)[0]? = some 82 := rfl
theorem headL_last (s n : Nat) : (headL s n)[63]? = some 165 := rfl
def seqV (b : List UInt8) : Nat := beV ((b.drop 1).take 8)
def lenV (b : List UInt8) : Nat := beV ((b.drop 9).take 2)
theorem seqV_head (s n : Nat) (h : s < 18446744073709551616) : seqV (headL s n) = s := by
  have : ((headL s n).drop 1).take 8 = be8 s := rfl
  rw [seqV, this, beV_be8 s h]
theorem lenV_head (s n : Nat) (h : n < 65536) : lenV (headL s n) = n := by
  have : ((headL s n).drop 9).take 2 = be2 n := rfl
  rw [lenV, this, beV_be2 n h]
/-- What a head's bytes say. -/
def hdr (b : List UInt8) : Option (Nat × Nat) :=
  if 1 ≤ seqV b ∧ seqV b ≤ 4611686018427387904 ∧ lenV b ≤ 4000 ∧ b = headL (seqV b) (lenV b) then some (seqV b, lenV b) else none
theorem hdr_head {s n : Nat} (h1 : 1 ≤ s) (h2 : s ≤ 4611686018427387904) (h3 : n ≤ 4000) : hdr (headL s n) = some (s, n) := by
  have e1 := seqV_head s n (by omega)
  have e2 := lenV_head s n (by omega)
  unfold hdr
  rw [e1, e2, if_pos ⟨h1, h2, h3, rfl⟩]
theorem hdr_some {b : List UInt8} {s n : Nat} (h : hdr b = some (s, n)) : 1 ≤ s ∧ s ≤ 4611686018427387904 ∧ n ≤ 4000 ∧ b = headL s n := by
  unfold hdr at h
  split at h
  · rename_i hx
    injection h with h
    injection h with h1 h2
    subst h1 h2
    exact hx
  · cases h
theorem hdr_last {b : List UInt8} (h : b[63]? ≠ some 165) : hdr b = none := by
  cases hb : hdr b with
  | none => rfl
  | some x => exact absurd ((hdr_some hb).2.2.2 ▸ headL_last _ _) h
theorem hdr_first {b : List UInt8} (h : b[0]? ≠ some 82) : hdr b = none := by
  cases hb : hdr b with
  | none => rfl
  | some x => exact absurd ((hdr_some hb).2.2.2 ▸ headL_first _ _) h
theorem hdr_zero : hdr zero64 = none := hdr_first (by simp [zero64])

/-- The bytes of k sectors from one on. -/
def cat (g : Nat → List UInt8) (at_ k : Nat) : List UInt8 := (List.range k).flatMap fun i => g (at_ + i)
theorem cat_zero (g : Nat → List UInt8) (a : Nat) : cat g a 0 = [] := rfl
theorem cat_succ (g : Nat → List UInt8) (a k : Nat) : cat g a (k + 1) = cat g a k ++ g (a + k) := by simp [cat, List.range_succ]
theorem cat_congr {g g' : Nat → List UInt8} {a k : Nat} (h : ∀ i, i < k → g (a + i) = g' (a + i)) : cat g a k = cat g' a k := by
  induction k with
  | zero => rfl
  | succ k ih => rw [cat_succ, cat_succ, ih (fun i hi => h i (by omega)), h k (by omega)]
theorem cat_len {g : Nat → List UInt8} {a k : Nat} (h : ∀ i, i < k → (g (a + i)).length = 64) : (cat g a k).length = 64 * k := by
  induction k with
  | zero => rfl
  | succ k ih => rw [cat_succ, List.length_append, ih (fun i hi => h i (by omega)), h k (by omega)]; omega

abbrev Rec := Nat × List UInt8
def scanF (g : Nat → List UInt8) (behind : Nat) : Nat → Nat → Option Nat → List Rec
  | 0, _, _ => []
  | f + 1, a, nx =>
    if a < behind then
      match hdr (g a) with
      | none => []
      | some (s, n) => if (nx = none ∨ nx = some s) ∧ a + secs n < behind then (s, (cat g (a + 1) (secs n)).take n) :: scanF g behind f (a + 1 + secs n) (some (s + 1)) else []
    else []
/-- The records from a sector on. -/
def scan (g : Nat → List UInt8) (behind a : Nat) (nx : Option Nat) : List Rec := scanF g behind (behind - a) a nx
theorem scanF_fuel (g : Nat → List UInt8) (behind : Nat) : ∀ (f f' a : Nat) (nx : Option Nat), behind - a ≤ f → behind - a ≤ f' → scanF g behind f a nx = scanF g behind f' a nx := by
  intro f
  induction f with
  | zero =>
    intro f' a nx h h'
    cases f' with
    | zero => rfl
    | succ f' => simp only [scanF]; rw [if_neg (by omega)]
  | succ f ih =>
    intro f' a nx h h'
    cases f' with
    | zero => simp only [scanF]; rw [if_neg (by omega)]
    | succ f' =>
      simp only [scanF]
      split
      · split
        · rfl
        · split
          · rw [ih f' _ _ (by omega) (by omega)]
          · rfl
      · rfl
theorem scan_none {g : Nat → List UInt8} {behind a : Nat} {nx : Option Nat} (h : a < behind → hdr (g a) = none) : scan g behind a nx = [] := by
  unfold scan
  cases hf : behind - a with
  | zero => rfl
  | succ f =>
    simp only [scanF]
    rw [if_pos (by omega), h (by omega)]
theorem scan_bad {g : Nat → List UInt8} {behind a s n : Nat} {nx : Option Nat} (h : hdr (g a) = some (s, n)) (hb : ¬ ((nx = none ∨ nx = some s) ∧ a + secs n < behind)) : scan g behind a nx = [] := by
  unfold scan
  cases hf : behind - a with
  | zero => rfl
  | succ f =>
    simp only [scanF]
    rw [if_pos (by omega), h]
    simp only
    rw [if_neg hb]
theorem scan_some {g : Nat → List UInt8} {behind a s n : Nat} {nx : Option Nat} (h : hdr (g a) = some (s, n)) (hn : nx = none ∨ nx = some s) (hb : a + secs n < behind) :
    scan g behind a nx = (s, (cat g (a + 1) (secs n)).take n) :: scan g behind (a + 1 + secs n) (some (s + 1)) := by
  unfold scan
  obtain ⟨f, hf⟩ : ∃ f, behind - a = f + 1 := ⟨behind - a - 1, by omega⟩
  rw [hf]
  simp only [scanF]
  rw [if_pos (by omega), h]
  simp only
  rw [if_pos ⟨hn, hb⟩, scanF_fuel g behind f (behind - (a + 1 + secs n)) _ _ (by omega) (Nat.le_refl _)]

def endR (a : Nat) : List Rec → Nat
  | [] => a
  | (_, d) :: r => endR (a + 1 + secs d.length) r
def nextR (nx : Option Nat) : List Rec → Option Nat
  | [] => nx
  | (s, _) :: r => nextR (some (s + 1)) r
/-- These records lie on sectors. -/
def Laid (g : Nat → List UInt8) (behind : Nat) : Nat → Option Nat → List Rec → Prop
  | _, _, [] => True
  | a, nx, (s, d) :: r => hdr (g a) = some (s, d.length) ∧ (nx = none ∨ nx = some s) ∧ a + secs d.length < behind ∧ (cat g (a + 1) (secs d.length)).take d.length = d ∧ Laid g behind (a + 1 + secs d.length) (some (s + 1)) r
theorem endR_append (a : Nat) (r r' : List Rec) : endR a (r ++ r') = endR (endR a r) r' := by
  induction r generalizing a with
  | nil => rfl
  | cons x r ih => obtain ⟨s, d⟩ := x; exact ih _
theorem nextR_append (nx : Option Nat) (r r' : List Rec) : nextR nx (r ++ r') = nextR (nextR nx r) r' := by
  induction r generalizing nx with
  | nil => rfl
  | cons x r ih => obtain ⟨s, d⟩ := x; exact ih _
theorem endR_le (a : Nat) (r : List Rec) : a + r.length ≤ endR a r := by
  induction r generalizing a with
  | nil => exact Nat.le_refl _
  | cons x r ih => obtain ⟨s, d⟩ := x; have := ih (a + 1 + secs d.length); simp only [endR, List.length_cons]; omega
variable {g g' : Nat → List UInt8} {behind a : Nat} {nx : Option Nat} {r r' : List Rec}
theorem Laid.append : Laid g behind a nx (r ++ r') ↔ Laid g behind a nx r ∧ Laid g behind (endR a r) (nextR nx r) r' := by
  induction r generalizing a nx with
  | nil => simp [Laid, endR, nextR]
  | cons x r ih => obtain ⟨s, d⟩ := x; simp only [List.cons_append, Laid, endR, nextR, ih, and_assoc]
theorem Laid.end_le (h : Laid g behind a nx r) (ha : a ≤ behind) : endR a r ≤ behind := by
  induction r generalizing a nx with
  | nil => exact ha
  | cons x r ih => obtain ⟨s, d⟩ := x; exact ih h.2.2.2.2 (by have := h.2.2.1; omega)
theorem Laid.congr (h : Laid g behind a nx r) (hg : ∀ i, a ≤ i → i < endR a r → g' i = g i) : Laid g' behind a nx r := by
  induction r generalizing a nx with
  | nil => trivial
  | cons x r ih =>
    obtain ⟨s, d⟩ := x
    obtain ⟨h1, h2, h3, h4, h5⟩ := h
    have hle := endR_le (a + 1 + secs d.length) r
    change ∀ i, a ≤ i → i < endR (a + 1 + secs d.length) r → g' i = g i at hg
    refine ⟨by rw [hg a (by omega) (by omega)]; exact h1, h2, h3, ?_, ih h5 (fun i h6 h7 => hg i (by omega) h7)⟩
    rw [cat_congr (fun i hi => hg (a + 1 + i) (by omega) (by omega))]
    exact h4
theorem Laid.scan (h : Laid g behind a nx r) : scan g behind a nx = r ++ scan g behind (endR a r) (nextR nx r) := by
  induction r generalizing a nx with
  | nil => rfl
  | cons x r ih =>
    obtain ⟨s, d⟩ := x
    obtain ⟨h1, h2, h3, h4, h5⟩ := h
    rw [scan_some h1 h2 h3, h4, ih h5]
    rfl
/-- What is read is laid. -/
theorem laid_scan (hg : ∀ i, a ≤ i → i < behind → (g i).length = 64) : Laid g behind a nx (scan g behind a nx) := by
  obtain ⟨f, hf⟩ : ∃ f, behind - a ≤ f := ⟨_, Nat.le_refl _⟩
  induction f generalizing a nx with
  | zero => rw [scan_none (fun h => by omega)]; trivial
  | succ f ih =>
    by_cases ha : a < behind
    · cases hh : hdr (g a) with
      | none => rw [scan_none (fun _ => hh)]; trivial
      | some x =>
        obtain ⟨s, n⟩ := x
        by_cases hb : (nx = none ∨ nx = some s) ∧ a + secs n < behind
        · have hl : ((cat g (a + 1) (secs n)).take n).length = n := by
            rw [List.length_take, cat_len (fun i hi => hg _ (by omega) (by omega))]
            unfold secs
            omega
          rw [scan_some hh hb.1 hb.2]
          refine ⟨by rw [hl]; exact hh, hb.1, by rw [hl]; exact hb.2, by rw [hl], ?_⟩
          rw [hl]
          exact ih (fun i h1 h2 => hg i (by omega) h2) (by omega)
        · rw [scan_bad hh hb]; trivial
    · rw [scan_none (fun h => absurd h ha)]; trivial
theorem scan_end (hg : ∀ i, a ≤ i → i < behind → (g i).length = 64) : scan g behind (endR a (scan g behind a nx)) (nextR nx (scan g behind a nx)) = [] := by
  have h := (laid_scan (nx := nx) hg).scan
  have := congrArg List.length h
  rw [List.length_append] at this
  exact List.eq_nil_of_length_eq_zero (by omega)
end Go.Proofs.Ytdjcpjfomgfjlaa
