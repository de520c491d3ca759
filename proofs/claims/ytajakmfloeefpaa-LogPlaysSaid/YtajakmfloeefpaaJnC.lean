/- Joined: LogA LogB DskN DskO RefA DskP. -/
import Derived.Test.YtajakmfloeefpaaJnB
import Derived.Deep.OwnRows
import Derived.Test.YtajakmfloeefpaaJnA
import Derived.Deep.RegionWith
import Derived.Lib.SliceRun
import Derived.Deep.RegionHeld3
import Derived.Deep.RegionLaw
/- Records on sectors, plainly: heads, what is read. -/
namespace Go.Proofs.Ytajakmfloeefpaa

/-- How many sectors so many bytes need. -/
def secs (n : Nat) : Nat := (n + 63) / 64
def beV (l : List UInt8) : Nat := l.foldl (fun a b => a * 256 + b.toNat) 0
theorem beV_snoc (l : List UInt8) (b : UInt8) : beV (l ++ [b]) = beV l * 256 + b.toNat := by simp [beV]
theorem beV_lt (l : List UInt8) : beV l < 256 ^ l.length := by
  have h : ∀ (l : List UInt8) (a : Nat), l.foldl (fun a b => a * 256 + b.toNat) a < (a + 1) * 256 ^ l.length := by
    intro l
    induction l with
    | nil => intro a; simp
    | cons x r ih =>
      intro a
      have := ih (a * 256 + x.toNat)
      have hx := x.toNat_lt
      rw [List.length_cons, Nat.pow_succ]
      show r.foldl _ _ < _
      refine Nat.lt_of_lt_of_le this ?_
      rw [Nat.mul_comm (256 ^ r.length) 256, ← Nat.mul_assoc]
      exact Nat.mul_le_mul_right _ (by omega)
  simpa [beV] using h l 0
/-- Eight bytes, the highest first. -/
def be8 (s : Nat) : List UInt8 := [UInt8.ofNat (s / 72057594037927936), UInt8.ofNat (s / 281474976710656), UInt8.ofNat (s / 1099511627776), UInt8.ofNat (s / 4294967296), UInt8.ofNat (s / 16777216), UInt8.ofNat (s / 65536), UInt8.ofNat (s / 256), UInt8.ofNat s]
def be2 (n : Nat) : List UInt8 := [UInt8.ofNat (n / 256), UInt8.ofNat n]
theorem beV_be8 (s : Nat) (h : s < 18446744073709551616) : beV (be8 s) = s := by
  simp only [beV, be8, List.foldl, UInt8.toNat_ofNat']
  omega
theorem beV_be2 (n : Nat) (h : n < 65536) : beV (be2 n) = n := by
  simp only [beV, be2, List.foldl, UInt8.toNat_ofNat']
  omega
theorem be8_len (s : Nat) : (be8 s).length = 8 := rfl
theorem be2_len (s : Nat) : (be2 s).length = 2 := rfl
/-- A head's bytes. -/
def headL (s n : Nat) : List UInt8 := 82 :: (be8 s ++ (be2 n ++ (List.replicate 52 0 ++ [165])))
theorem headL_len (s n : Nat) : (headL s n).length = 64 := rfl
theorem headL_first (s n : Nat) : (headL s n)[0]? = some 82 := rfl
theorem headL_last (s n : Nat) : (headL s n)[63]? = some 165 := rfl
def seqV (b : List UInt8) : Nat := beV ((b.drop 1).take 8)
def lenV (b : List UInt8) : Nat := beV ((b.drop 9).take 2)
theorem seqV_head (s n : Nat) (h : s < 18446744073709551616) : seqV (headL s n) = s := by
  have : ((headL s n).drop 1).take 8 = be8 s := rfl
  rw [seqV, this, beV_be8 s h]
theorem lenV_head (s n : Nat) (h : n < 65536) : lenV (headL s n) = n := by
  have : ((headL s n).drop 9).take 2 = be2 n := rfl
  rw [lenV, this, beV_be2 n h]
/-- What a head's bytes say. -/
def hdr (b : List UInt8) : Option (Nat × Nat) :=
  if 1 ≤ seqV b ∧ seqV b ≤ 4611686018427387904 ∧ lenV b ≤ 4000 ∧ b = headL (seqV b) (lenV b) then some (seqV b, lenV b) else none
theorem hdr_head {s n : Nat} (h1 : 1 ≤ s) (h2 : s ≤ 4611686018427387904) (h3 : n ≤ 4000) : hdr (headL s n) = some (s, n) := by
  have e1 := seqV_head s n (by omega)
  have e2 := lenV_head s n (by omega)
  unfold hdr
  rw [e1, e2, if_pos ⟨h1, h2, h3, rfl⟩]
theorem hdr_some {b : List UInt8} {s n : Nat} (h : hdr b = some (s, n)) : 1 ≤ s ∧ s ≤ 4611686018427387904 ∧ n ≤ 4000 ∧ b = headL s n := by
  unfold hdr at h
  split at h
  · rename_i hx
    injection h with h
    injection h with h1 h2
    subst h1 h2
    exact hx
  · cases h
theorem hdr_last {b : List UInt8} (h : b[63]? ≠ some 165) : hdr b = none := by
  cases hb : hdr b with
  | none => rfl
  | some x => exact absurd ((hdr_some hb).2.2.2 ▸ headL_last _ _) h
theorem hdr_first {b : List UInt8} (h : b[0]? ≠ some 82) : hdr b = none := by
  cases hb : hdr b with
  | none => rfl
  | some x => exact absurd ((hdr_some hb).2.2.2 ▸ headL_first _ _) h
theorem hdr_zero : hdr zero64 = none := hdr_first (by simp [zero64])

/-- The bytes of k sectors from one on. -/
def cat (g : Nat → List UInt8) (at_ k : Nat) : List UInt8 := (List.range k).flatMap fun i => g (at_ + i)
theorem cat_zero (g : Nat → List UInt8) (a : Nat) : cat g a 0 = [] := rfl
theorem cat_succ (g : Nat → List UInt8) (a k : Nat) : cat g a (k + 1) = cat g a k ++ g (a + k) := by simp [cat, List.range_succ]
theorem cat_congr {g g' : Nat → List UInt8} {a k : Nat} (h : ∀ i, i < k → g (a + i) = g' (a + i)) : cat g a k = cat g' a k := by
  induction k with
  | zero => rfl
  | succ k ih => rw [cat_succ, cat_succ, ih (fun i hi => h i (by omega)), h k (by omega)]
theorem cat_len {g : Nat → List UInt8} {a k : Nat} (h : ∀ i, i < k → (g (a + i)).length = 64) : (cat g a k).length = 64 * k := by
  induction k with
  | zero => rfl
  | succ k ih => rw [cat_succ, List.length_append, ih (fun i hi => h i (by omega)), h k (by omega)]; omega

abbrev Rec := Nat × List UInt8
def scanF (g : Nat → List UInt8) (behind : Nat) : Nat → Nat → Option Nat → List Rec
  | 0, _, _ => []
  | f + 1, a, nx =>
    if a < behind then
      match hdr (g a) with
      | none => []
      | some (s, n) => if (nx = none ∨ nx = some s) ∧ a + secs n < behind then (s, (cat g (a + 1) (secs n)).take n) :: scanF g behind f (a + 1 + secs n) (some (s + 1)) else []
    else []
/-- The records from a sector on. -/
def scan (g : Nat → List UInt8) (behind a : Nat) (nx : Option Nat) : List Rec := scanF g behind (behind - a) a nx
theorem scanF_fuel (g : Nat → List UInt8) (behind : Nat) : ∀ (f f' a : Nat) (nx : Option Nat), behind - a ≤ f → behind - a ≤ f' → scanF g behind f a nx = scanF g behind f' a nx := by
  intro f
  induction f with
  | zero =>
    intro f' a nx h h'
    cases f' with
    | zero => rfl
    | succ f' => simp only [scanF]; rw [if_neg (by omega)]
  | succ f ih =>
    intro f' a nx h h'
    cases f' with
    | zero => simp only [scanF]; rw [if_neg (by omega)]
    | succ f' =>
      simp only [scanF]
      split
      · split
        · rfl
        · split
          · rw [ih f' _ _ (by omega) (by omega)]
          · rfl
      · rfl
theorem scan_none {g : Nat → List UInt8} {behind a : Nat} {nx : Option Nat} (h : a < behind → hdr (g a) = none) : scan g behind a nx = [] := by
  unfold scan
  cases hf : behind - a with
  | zero => rfl
  | succ f =>
    simp only [scanF]
    rw [if_pos (by omega), h (by omega)]
theorem scan_bad {g : Nat → List UInt8} {behind a s n : Nat} {nx : Option Nat} (h : hdr (g a) = some (s, n)) (hb : ¬ ((nx = none ∨ nx = some s) ∧ a + secs n < behind)) : scan g behind a nx = [] := by
  unfold scan
  cases hf : behind - a with
  | zero => rfl
  | succ f =>
    simp only [scanF]
    rw [if_pos (by omega), h]
    simp only
    rw [if_neg hb]
theorem scan_some {g : Nat → List UInt8} {behind a s n : Nat} {nx : Option Nat} (h : hdr (g a) = some (s, n)) (hn : nx = none ∨ nx = some s) (hb : a + secs n < behind) :
    scan g behind a nx = (s, (cat g (a + 1) (secs n)).take n) :: scan g behind (a + 1 + secs n) (some (s + 1)) := by
  unfold scan
  obtain ⟨f, hf⟩ : ∃ f, behind - a = f + 1 := ⟨behind - a - 1, by omega⟩
  rw [hf]
  simp only [scanF]
  rw [if_pos (by omega), h]
  simp only
  rw [if_pos ⟨hn, hb⟩, scanF_fuel g behind f (behind - (a + 1 + secs n)) _ _ (by omega) (Nat.le_refl _)]

def endR (a : Nat) : List Rec → Nat
  | [] => a
  | (_, d) :: r => endR (a + 1 + secs d.length) r
def nextR (nx : Option Nat) : List Rec → Option Nat
  | [] => nx
  | (s, _) :: r => nextR (some (s + 1)) r
/-- These records lie on sectors. -/
def Laid (g : Nat → List UInt8) (behind : Nat) : Nat → Option Nat → List Rec → Prop
  | _, _, [] => True
  | a, nx, (s, d) :: r => hdr (g a) = some (s, d.length) ∧ (nx = none ∨ nx = some s) ∧ a + secs d.length < behind ∧ (cat g (a + 1) (secs d.length)).take d.length = d ∧ Laid g behind (a + 1 + secs d.length) (some (s + 1)) r
theorem endR_append (a : Nat) (r r' : List Rec) : endR a (r ++ r') = endR (endR a r) r' := by
  induction r generalizing a with
  | nil => rfl
  | cons x r ih => obtain ⟨s, d⟩ := x; exact ih _
theorem nextR_append (nx : Option Nat) (r r' : List Rec) : nextR nx (r ++ r') = nextR (nextR nx r) r' := by
  induction r generalizing nx with
  | nil => rfl
  | cons x r ih => obtain ⟨s, d⟩ := x; exact ih _
theorem endR_le (a : Nat) (r : List Rec) : a + r.length ≤ endR a r := by
  induction r generalizing a with
  | nil => exact Nat.le_refl _
  | cons x r ih => obtain ⟨s, d⟩ := x; have := ih (a + 1 + secs d.length); simp only [endR, List.length_cons]; omega
variable {g g' : Nat → List UInt8} {behind a : Nat} {nx : Option Nat} {r r' : List Rec}
theorem Laid.append : Laid g behind a nx (r ++ r') ↔ Laid g behind a nx r ∧ Laid g behind (endR a r) (nextR nx r) r' := by
  induction r generalizing a nx with
  | nil => simp [Laid, endR, nextR]
  | cons x r ih => obtain ⟨s, d⟩ := x; simp only [List.cons_append, Laid, endR, nextR, ih, and_assoc]
theorem Laid.end_le (h : Laid g behind a nx r) (ha : a ≤ behind) : endR a r ≤ behind := by
  induction r generalizing a nx with
  | nil => exact ha
  | cons x r ih => obtain ⟨s, d⟩ := x; exact ih h.2.2.2.2 (by have := h.2.2.1; omega)
theorem Laid.congr (h : Laid g behind a nx r) (hg : ∀ i, a ≤ i → i < endR a r → g' i = g i) : Laid g' behind a nx r := by
  induction r generalizing a nx with
  | nil => trivial
  | cons x r ih =>
    obtain ⟨s, d⟩ := x
    obtain ⟨h1, h2, h3, h4, h5⟩ := h
    have hle := endR_le (a + 1 + secs d.length) r
    change ∀ i, a ≤ i → i < endR (a + 1 + secs d.length) r → g' i = g i at hg
    refine ⟨by rw [hg a (by omega) (by omega)]; exact h1, h2, h3, ?_, ih h5 (fun i h6 h7 => hg i (by omega) h7)⟩
    rw [cat_congr (fun i hi => hg (a + 1 + i) (by omega) (by omega))]
    exact h4
theorem Laid.scan (h : Laid g behind a nx r) : scan g behind a nx = r ++ scan g behind (endR a r) (nextR nx r) := by
  induction r generalizing a nx with
  | nil => rfl
  | cons x r ih =>
    obtain ⟨s, d⟩ := x
    obtain ⟨h1, h2, h3, h4, h5⟩ := h
    rw [scan_some h1 h2 h3, h4, ih h5]
    rfl
/-- What is read is laid. -/
theorem laid_scan (hg : ∀ i, a ≤ i → i < behind → (g i).length = 64) : Laid g behind a nx (scan g behind a nx) := by
  obtain ⟨f, hf⟩ : ∃ f, behind - a ≤ f := ⟨_, Nat.le_refl _⟩
  induction f generalizing a nx with
  | zero => rw [scan_none (fun h => by omega)]; trivial
  | succ f ih =>
    by_cases ha : a < behind
    · cases hh : hdr (g a) with
      | none => rw [scan_none (fun _ => hh)]; trivial
      | some x =>
        obtain ⟨s, n⟩ := x
        by_cases hb : (nx = none ∨ nx = some s) ∧ a + secs n < behind
        · have hl : ((cat g (a + 1) (secs n)).take n).length = n := by
            rw [List.length_take, cat_len (fun i hi => hg _ (by omega) (by omega))]
            unfold secs
            omega
          rw [scan_some hh hb.1 hb.2]
          refine ⟨by rw [hl]; exact hh, hb.1, by rw [hl]; exact hb.2, by rw [hl], ?_⟩
          rw [hl]
          exact ih (fun i h1 h2 => hg i (by omega) h2) (by omega)
        · rw [scan_bad hh hb]; trivial
    · rw [scan_none (fun h => absurd h ha)]; trivial
theorem scan_end (hg : ∀ i, a ≤ i → i < behind → (g i).length = 64) : scan g behind (endR a (scan g behind a nx)) (nextR nx (scan g behind a nx)) = [] := by
  have h := (laid_scan (nx := nx) hg).scan
  have := congrArg List.length h
  rw [List.length_append] at this
  exact List.eq_nil_of_length_eq_zero (by omega)
end Go.Proofs.Ytajakmfloeefpaa
/- Steps of a disk, plainly; what a sector may have behind a crash; data as sectors. -/
namespace Go.Proofs.Ytajakmfloeefpaa

/-- A step of the disk: a sector's bytes, or a flush. -/
abbrev DOp := Option (Nat × List UInt8)
def doneOp (M : DM) : DOp → DM
  | some (i, l) => M.written i l
  | none => M.flushed
def doneOps : List DOp → DM → DM
  | [], M => M
  | o :: r, M => doneOps r (doneOp M o)
/-- Steps one behind the other; the first that is refused ends it. -/
def runOps : List DOp → DM → Int × DM
  | [], M => (0, M)
  | o :: r, M => if M.dead then (30, M) else runOps r (doneOp M o)
theorem runOps_append (o o' : List DOp) (M : DM) : runOps (o ++ o') M = if (runOps o M).1 = 0 then runOps o' (runOps o M).2 else runOps o M := by
  induction o generalizing M with
  | nil => simp [runOps]
  | cons x r ih =>
    simp only [List.cons_append, runOps]
    split
    · simp
    · exact ih _
theorem doneOps_append (o o' : List DOp) (M : DM) : doneOps (o ++ o') M = doneOps o' (doneOps o M) := by
  induction o generalizing M with
  | nil => rfl
  | cons x r ih => exact ih _
theorem doneOp_size (M : DM) (o : DOp) : (doneOp M o).size = M.size ∧ (doneOp M o).steps = M.steps + 1 ∧ (doneOp M o).armed = M.armed ∧ (doneOp M o).left = if M.armed then M.left - 1 else M.left := by
  cases o with
  | none => exact ⟨rfl, rfl, rfl, rfl⟩
  | some x => obtain ⟨i, l⟩ := x; exact ⟨rfl, rfl, rfl, rfl⟩
theorem doneOps_size (o : List DOp) (M : DM) : (doneOps o M).size = M.size := by
  induction o generalizing M with
  | nil => rfl
  | cons x r ih => exact (ih _).trans (doneOp_size M x).1
theorem runOps_facts (o : List DOp) (M : DM) : (runOps o M).2.size = M.size ∧ (runOps o M).2.steps ≤ M.steps + o.length ∧ (runOps o M).2.left ≤ M.left ∧ ((runOps o M).1 = 0 ∨ (runOps o M).1 = 30) := by
  induction o generalizing M with
  | nil => exact ⟨rfl, Nat.le_refl _, Nat.le_refl _, .inl rfl⟩
  | cons x r ih =>
    simp only [runOps]
    split
    · exact ⟨rfl, Nat.le_add_right _ _, Nat.le_refl _, .inr rfl⟩
    · obtain ⟨h1, h2, h3, h4⟩ := ih (doneOp M x)
      obtain ⟨g1, g2, g3, g4⟩ := doneOp_size M x
      refine ⟨h1.trans g1, by rw [g2] at h2; simp only [List.length_cons]; omega, ?_, h4⟩
      rw [g4] at h3
      split at h3 <;> omega
/-- What is done of some steps: all, or the first ones. -/
theorem runOps_cut (o : List DOp) (M : DM) : ∃ k, k ≤ o.length ∧ (runOps o M).2 = doneOps (o.take k) M ∧ ((runOps o M).1 = 0 ∧ k = o.length ∨ (runOps o M).1 = 30 ∧ (runOps o M).2.dead = true) := by
  induction o generalizing M with
  | nil => exact ⟨0, Nat.le_refl _, rfl, .inl ⟨rfl, rfl⟩⟩
  | cons x r ih =>
    simp only [runOps]
    split
    · rename_i hd; exact ⟨0, Nat.zero_le _, rfl, .inr ⟨rfl, hd⟩⟩
    · obtain ⟨k, h1, h2, h3⟩ := ih (doneOp M x)
      refine ⟨k + 1, by simp only [List.length_cons]; omega, h2, ?_⟩
      simpa using h3
theorem runOps_alive {o : List DOp} {M : DM} (h : M.armed = false) : runOps o M = (0, doneOps o M) := by
  induction o generalizing M with
  | nil => rfl
  | cons x r ih =>
    simp only [runOps, doneOps]
    rw [if_neg (by simp [DM.dead, h]), ih ((doneOp_size M x).2.2.1.trans h)]
theorem runOps_dead {o : List DOp} {M : DM} (h : M.dead = true) (ho : o ≠ []) : runOps o M = (30, M) := by
  cases o with
  | nil => exact absurd rfl ho
  | cons x r => simp only [runOps]; rw [if_pos h]

/-- What a sector may have behind a crash. -/
def Mix (M : DM) (i : Nat) (b : List UInt8) : Prop := (M.wr i = none ∧ b = M.sure i) ∨ ∃ l c, M.wr i = some l ∧ b = l.take c ++ (M.sure i).drop c
theorem mix_left1 (M : DM) (h : M.full) (keep : List Bool) (torn cut : Int) {i : Nat} (hi : i < M.size) : Mix M i (M.left1 keep torn cut i) := by
  unfold DM.left1
  obtain ⟨h1, h2⟩ := h i hi
  unfold DM.get at h2
  cases hw : M.wr i with
  | none => exact .inl ⟨hw, rfl⟩
  | some l =>
    rw [hw] at h2
    have h2 : l.length = 64 := h2
    refine .inr ?_
    simp only
    split
    · exact ⟨l, 64, hw, by rw [List.take_of_length_le (by omega), List.drop_of_length_le (by omega), List.append_nil]⟩
    · split
      · exact ⟨l, cutN cut, hw, rfl⟩
      · exact ⟨l, 0, hw, by simp⟩
theorem mix_zero {M : DM} {i : Nat} {b : List UInt8} (hm : Mix M i b) (hw : M.wr i = none) : b = M.sure i := by
  rcases hm with ⟨_, h⟩ | ⟨l, c, h, _⟩
  · exact h
  · rw [hw] at h; cases h
/-- Nothing is unsure. -/
def Calm (M : DM) : Prop := ∀ i, M.wr i = none
theorem calm_get {M : DM} (h : Calm M) (i : Nat) : M.get i = M.sure i := by unfold DM.get; rw [h i]; rfl

/-- Writes of a list of sectors. -/
def wrs (a : Nat) (bs : List (List UInt8)) : List DOp := bs.zipIdx.map fun x => some (a + x.2, x.1)
theorem wrs_nil (a : Nat) : wrs a [] = [] := rfl
theorem wrs_snoc (a : Nat) (bs : List (List UInt8)) (b : List UInt8) : wrs a (bs ++ [b]) = wrs a bs ++ [some (a + bs.length, b)] := by
  simp [wrs, List.zipIdx_append]
theorem wrs_len (a : Nat) (bs : List (List UInt8)) : (wrs a bs).length = bs.length := by simp [wrs]
theorem wrs_take (a : Nat) (bs : List (List UInt8)) (k : Nat) : (wrs a bs).take k = wrs a (bs.take k) := by
  simp only [wrs, ← List.map_take]
  congr 1
  apply List.ext_getElem
  · simp
  · intro i h1 h2; simp
theorem done_wrs (a : Nat) (bs : List (List UInt8)) (M : DM) : (doneOps (wrs a bs) M).sure = M.sure ∧ (∀ i, (doneOps (wrs a bs) M).wr i = if a ≤ i ∧ i < a + bs.length then bs[i - a]? else M.wr i) := by
  obtain ⟨n, hn⟩ : ∃ n, n = bs.length := ⟨_, rfl⟩
  induction n generalizing bs with
  | zero =>
    have : bs = [] := List.eq_nil_of_length_eq_zero hn.symm
    subst this
    exact ⟨rfl, fun i => by rw [if_neg (by simp)]; rfl⟩
  | succ n ih =>
    have hne : bs ≠ [] := by rintro rfl; cases hn
    obtain ⟨bs', b, rfl⟩ : ∃ bs' b, bs = bs' ++ [b] := ⟨bs.dropLast, bs.getLast hne, (List.dropLast_concat_getLast hne).symm⟩
    have hn' : n = bs'.length := by simpa using hn
    obtain ⟨h1, h2⟩ := ih bs' hn'
    rw [wrs_snoc, doneOps_append]
    refine ⟨h1, fun i => ?_⟩
    show (if i = a + bs'.length then some b else (doneOps (wrs a bs') M).wr i) = _
    rw [h2 i]
    by_cases e : i = a + bs'.length
    · subst e
      rw [if_pos rfl, if_pos (by simp)]
      simp
    · rw [if_neg e]
      by_cases h : a ≤ i ∧ i < a + bs'.length
      · rw [if_pos h, if_pos (by simp; omega), List.getElem?_append_left (by omega)]
      · rw [if_neg h, if_neg (by simp; omega)]
/-- Zeros on sectors. -/
def zeroOps (L : List Nat) : List DOp := L.map fun i => some (i, zero64)
def wipeOps (L : List Nat) : List DOp := zeroOps L ++ [none]
theorem done_zero (L : List Nat) (M : DM) : (doneOps (zeroOps L) M).sure = M.sure ∧ (∀ i, (doneOps (zeroOps L) M).wr i = if i ∈ L then some zero64 else M.wr i) := by
  induction L generalizing M with
  | nil => exact ⟨rfl, fun i => by simp [zeroOps, doneOps]⟩
  | cons x r ih =>
    obtain ⟨h1, h2⟩ := ih (M.written x zero64)
    refine ⟨h1, fun i => ?_⟩
    show (doneOps (zeroOps r) (M.written x zero64)).wr i = _
    rw [h2 i]
    by_cases e : i ∈ r
    · rw [if_pos e, if_pos (List.mem_cons_of_mem _ e)]
    · rw [if_neg e]
      show (if i = x then some zero64 else M.wr i) = _
      by_cases e2 : i = x
      · rw [if_pos e2, if_pos (by simp [e2])]
      · rw [if_neg e2, if_neg (by simp [e, e2])]
theorem zeroOps_take (L : List Nat) (k : Nat) : (zeroOps L).take k = zeroOps (L.take k) := by simp [zeroOps, List.map_take]

/-- Data as sectors, the last one filled up with zeros. -/
def chunks (d : List UInt8) : List (List UInt8) := (List.range (secs d.length)).map fun i => ((d.drop (i * 64)).take 64) ++ List.replicate (64 - ((d.drop (i * 64)).take 64).length) 0
theorem chunks_len (d : List UInt8) : (chunks d).length = secs d.length := by simp [chunks]
theorem chunk_len (d : List UInt8) {b : List UInt8} (h : b ∈ chunks d) : b.length = 64 := by
  simp only [chunks, List.mem_map, List.mem_range] at h
  obtain ⟨i, _, rfl⟩ := h
  simp only [List.length_append, List.length_replicate, List.length_take, List.length_drop]
  omega
theorem chunks_get (d : List UInt8) (i : Nat) (h : i < secs d.length) : (chunks d)[i]? = some (((d.drop (i * 64)).take 64) ++ List.replicate (64 - ((d.drop (i * 64)).take 64).length) 0) := by
  simp [chunks, h]
/-- What lies on sectors that were cut so. -/
theorem cat_chunks (d : List UInt8) (g : Nat → List UInt8) (a : Nat) (h : ∀ i, i < secs d.length → some (g (a + i)) = (chunks d)[i]?) : (cat g a (secs d.length)).take d.length = d := by
  have hk : ∀ k, k ≤ secs d.length → cat g a k = (d.take (k * 64)) ++ List.replicate (k * 64 - d.length) 0 := by
    intro k
    induction k with
    | zero => intro _; simp [cat]
    | succ k ih =>
      intro hk
      rw [cat_succ, ih (by omega)]
      have := h k (by omega)
      rw [chunks_get d k (by omega)] at this
      injection this with this
      rw [this]
      have hkd : k * 64 < d.length := by unfold secs at hk; omega
      rw [show k * 64 - d.length = 0 by omega]
      simp only [List.replicate_zero, List.append_nil]
      rw [← List.append_assoc]
      congr 1
      · rw [show (k + 1) * 64 = k * 64 + 64 by omega, List.take_add]
      · congr 1
        simp only [List.length_take, List.length_drop]
        omega
  rw [hk _ (Nat.le_refl _), List.take_append_of_le_length]
  · rw [List.take_take, Nat.min_eq_left (by unfold secs; omega), List.take_length]
  · rw [List.length_take]
    unfold secs
    omega
end Go.Proofs.Ytajakmfloeefpaa
/- The law's Bytes. -/
namespace Go.Proofs.Ytajakmfloeefpaa
open Go.RowKit Go.Maps

/-- A sector's bytes, by going round in these. -/
def bytesL (b : List UInt8) : List UInt8 := (List.range 64).map fun i => if b.length = 0 then 0 else b.getD (i % b.length) 0
theorem bytesL_len (b : List UInt8) : (bytesL b).length = 64 := by simp [bytesL]
theorem bytesL_get (b : List UInt8) (k : Nat) (h : k < 64) : (bytesL b)[k]'(by rw [bytesL_len]; exact h) = if b.length = 0 then 0 else b.getD (k % b.length) 0 := by simp [bytesL]
def rowK (b : List UInt8) (k : Nat) : List UInt8 := (bytesL b).take k ++ List.replicate (64 - k) 0
theorem rowK_len (b : List UInt8) (k : Nat) (h : k ≤ 64) : (rowK b k).length = 64 := by simp [rowK, bytesL_len]; omega
theorem rowK_set (b : List UInt8) (k : Nat) (h : k < 64) (x : UInt8) (hx : x = (bytesL b)[k]'(by rw [bytesL_len]; exact h)) : (rowK b k).set k x = rowK b (k + 1) := by
  subst hx
  apply List.ext_getElem
  · simp [rowK, bytesL_len]; omega
  · intro j h1 h2
    simp only [rowK, List.getElem_set, List.getElem_append, List.length_take, bytesL_len, List.getElem_take, List.getElem_replicate]
    split
    · subst_vars
      rw [dif_pos (by omega)]
    · by_cases hj : j < k
      · rw [dif_pos (by omega), dif_pos (by omega)]
      · rw [dif_neg (by omega), dif_neg (by omega)]
theorem rowK_nil (b : List UInt8) (hb : b.length = 0) (k : Nat) (h : k < 64) : rowK b k = rowK b (k + 1) := by
  have h0 := rowK_set b k h 0 (by rw [bytesL_get b k h, if_pos hb])
  rw [← h0]
  apply List.ext_getElem
  · simp
  · intro j h1 h2
    rw [List.getElem_set]
    split
    · subst_vars
      simp [rowK, List.getElem_append, bytesL_len]
      intro h3
      omega
    · rfl
theorem rowK_end (b : List UInt8) : rowK b 64 = bytesL b := by
  unfold rowK
  rw [List.take_of_length_le (by rw [bytesL_len]; omega)]
  simp

theorem made64 : madeCells #[Value.int .u8 0] 64 = (u8s zero64).toArray := by kernel_rfl
theorem bytes_end {w w3 : World} {b : List UInt8} {k : Nat} (hk : k < 64) (hg : w3.heap[w.heap.size]? = some (.cells (u8s (rowK b (k + 1))).toArray 5)) (hb : Below w.heap.size w w3) :
    (∃ k_1 : Nat, k_1 ≤ 64 ∧ Value.int IntKind.i64 ((k : Int) + 1) = Value.int IntKind.i64 (k_1 : Int) ∧ w3.heap[w.heap.size]? = some (.cells (u8s (rowK b k_1)).toArray 5) ∧ Below w.heap.size w w3) ∧
      64 - (intOf (Value.int IntKind.i64 ((k : Int) + 1))).toNat < 64 - (intOf (Value.int IntKind.i64 (k : Int))).toNat :=
  ⟨⟨k + 1, hk, by simp, hg, hb⟩, by simp [intOf]; omega⟩

set_option maxRecDepth 100000 in
set_option maxHeartbeats 1000000 in
theorem bytes_any (A : Option Addr) (b : List UInt8) (c B : Nat) (w : World) (hr : Rd w B A (u8s b)) (hB : B ≤ w.heap.size) (hb : b.length ≤ 4611686018427387904) :
    Calls Try.prog 16 #[.slice A b.length c] w fun e w' => e = .returned (.slice (some ⟨w.heap.size, 0, none⟩) 64 64) ∧ w'.heap[w.heap.size]? = some (.cells (u8s (bytesL b)).toArray 5) ∧ Below w.heap.size w w' := by
  have hmk : (Instr.makeSlice 45 (.int .i64 64) (.int .i64 64)).run Try.prog w = .ok (.slice (some ⟨w.heap.size, 0, none⟩) 64 64) (w.alloc (.cells (u8s (rowK b 0)).toArray 5)) := by
    have h := run_make_row' (P := Try.prog) 45 5 (.int .u8 0) 1 Try.underlying45 infoU8 rfl .i64 .i64 64 (by omega) (by omega) w
    have e : madeCells #[Value.int .u8 0] 64 = (u8s (rowK b 0)).toArray := by
      have : rowK b 0 = zero64 := by simp [rowK, zero64]
      rw [this]; exact made64
    rw [e] at h
    exact h
  have hB1 : Below w.heap.size w (w.alloc (.cells (u8s (rowK b 0)).toArray 5)) := (Below.refl _ w).alloc (Nat.le_refl _) _
  have hg1 : (w.alloc (.cells (u8s (rowK b 0)).toArray 5)).heap[w.heap.size]? = some (.cells (u8s (rowK b 0)).toArray 5) := heap_alloc_new w _
  have HR := Lib.hid hr
  have H1 := Lib.hid (And.intro hB1 hg1)
  have HB := Lib.hid (And.intro hB hb)
  clear hr hB1 hg1 hB hb
  go_enter Try.func16, Try.ntmps16
  go_wp2
  go_loopw [4, 8] (fun _ i wr => ∃ k : Nat, k ≤ 64 ∧ i = .int .i64 (k : Int) ∧ wr.heap[w.heap.size]? = some (.cells (u8s (rowK b k)).toArray 5) ∧ Below w.heap.size w wr)
    (fun _ i _ => 64 - (intOf i).toNat)
  case atStart => exact ⟨0, by omega, rfl, H1.out.2, H1.out.1⟩
  case round =>
    obtain ⟨k, hk, rfl, hg, hb⟩ := hrel
    have HX := Lib.hid (And.intro hk (And.intro hg hb))
    have hkI : (k : Int) ≤ 64 := by omega
    by_cases hk64 : k < 64
    · have hkl : (k : Int) < 64 := by omega
      by_cases hb0 : b.length = 0
      · have hrow := rowK_nil b hb0 k hk64
        have hbI : ¬ (0 < (b.length : Int)) := by omega
        clear hg hb
        go_wp2_with go_in
        exact bytes_end hk64 (hrow ▸ HX.out.2.1) HX.out.2.2
      · obtain ⟨ab, ao, rfl, hab, hcell⟩ := HR.out.get (k := k % b.length) (by rw [u8s_len]; exact Nat.mod_lt _ (by omega))
        have hml : k % b.length < (u8s b).length := by rw [u8s_len]; exact Nat.mod_lt _ (by omega)
        have hcw : wr.cell? ⟨ab, ao + k % b.length, none⟩ = some (u8s b)[k % b.length] := by
          rw [← hcell]; exact hb.cell (p := ⟨ab, ao + k % b.length, none⟩) (by have := HB.out.1; show ab < _; omega)
        rw [u8s_get b (k % b.length) (Nat.mod_lt _ (by omega))] at hcw
        have hold := cell_of_row wr w.heap.size k _ _ _ hg
        have hfz := frozen_of_row wr w.heap.size k _ _ hg
        have hx : b[k % b.length]'(Nat.mod_lt _ (by omega)) = (bytesL b)[k]'(by rw [bytesL_len]; exact hk64) := by
          rw [bytesL_get b k hk64, if_neg hb0]
          simp [List.getD_eq_getElem?_getD, Nat.mod_lt k (show 0 < b.length by omega)]
        have hset := rowK_set b k hk64 _ hx
        obtain ⟨x, hxe⟩ : ∃ x, x = b[k % b.length]'(Nat.mod_lt _ (by omega)) := ⟨_, rfl⟩
        rw [← hxe] at hcw hset
        have hg2 := heap_setCell_same wr w.heap.size k _ _ (.int .u8 (x.toNat : Int)) hg
        have hb2 := hb.setCell (p := ⟨w.heap.size, k, none⟩) (Nat.le_refl _) (.int .u8 (x.toNat : Int))
        have hcs : (u8s (rowK b k)).toArray.setIfInBounds k (.int .u8 (x.toNat : Int)) = (u8s (rowK b (k + 1))).toArray := by
          rw [← hset, u8s_set]; simp
        rw [hcs] at hg2
        have hold2 : wr.cell? ⟨w.heap.size, k, none⟩ = some ((u8s (rowK b k))[k]'(by rw [u8s_len, rowK_len b k hk]; exact hk64)) := by
          rw [hold]; simp
        have hmod : Int.tmod (k : Int) (b.length : Int) = ((k % b.length : Nat) : Int) := rfl
        have hlt : ((k % b.length : Nat) : Int) < (b.length : Int) := by have := Nat.mod_lt k (show 0 < b.length by omega); omega
        have hbI : 0 < (b.length : Int) := by omega
        have hbn : ¬ ((b.length : Int) = 0) := by omega
        have HG := Lib.hid (And.intro hg2 hb2)
        generalize (u8s (rowK b k))[k]'_ = old at hold2
        clear hg hb hml hold hcs hset hxe hx hcell hab hg2 hb2
        go_wp2_with go_in
        exact bytes_end hk64 HG.out.1 HG.out.2
    · obtain rfl : k = 64 := by omega
      clear hg hb
      go_wp2
      go_ret
      have h := HX.out.2
      rw [rowK_end] at h
      exact ⟨rfl, h.1, h.2⟩
end Go.Proofs.Ytajakmfloeefpaa
/- The law's awake. -/
namespace Go.Proofs.Ytajakmfloeefpaa
open Go.RowKit Go.Maps

/-- Bytes of one byte that was just laid. -/
theorem bytes_one (x : UInt8) (w : World) :
    Calls Try.prog 16 #[.slice (some ⟨w.heap.size, 0, none⟩) 1 1] (w.alloc (.cells #[.int .u8 (x.toNat : Int)] 5)) fun e w' => ∃ g, e = .returned (.slice (some ⟨g, 0, none⟩) 64 64) ∧ w.heap.size < g ∧ g < w'.heap.size ∧ Rd w' w'.heap.size (some ⟨g, 0, none⟩) (u8s (bytesL [x])) ∧ Below w.heap.size w w' := by
  have hs : (w.alloc (.cells #[.int .u8 (x.toNat : Int)] 5)).heap.size = w.heap.size + 1 := by simp
  have hr : Rd (w.alloc (.cells #[.int .u8 (x.toNat : Int)] 5)) (w.heap.size + 1) (some ⟨w.heap.size, 0, none⟩) (u8s [x]) := Rd.new w #[.int .u8 (x.toNat : Int)] 5 (0, 0)
  refine (bytes_any (some ⟨w.heap.size, 0, none⟩) [x] 1 _ _ hr (by omega) (by simp)).mono ?_
  rintro e w' ⟨rfl, hg, hb⟩
  rw [hs] at hg hb
  have hlt := (Array.getElem?_eq_some_iff.1 hg).1
  refine ⟨_, by rw [hs], by omega, hlt, fun _ => ⟨_, 0, rfl, hlt, fun j u hu => ?_⟩, ((Below.refl _ w).alloc (Nat.le_refl _) _).trans ⟨hb.os, hb.tape, hb.output, hb.size, fun k hk => hb.block k (by omega)⟩⟩
  rw [cell_of_row _ _ _ _ _ _ hg]
  simpa using hu
theorem DiskM.alloc {w : World} {p bs bw T : Nat} {M : DM} (h : DiskM w p bs bw M T) (o : Obj) : DiskM (w.alloc o) p bs bw M T := h.kept ((Below.refl _ w).alloc (Nat.le_refl _) o)

theorem writeC {w : World} {p bs bw T : Nat} {M : DM} (h : DiskM w p bs bw M T) (hk : M.Ok T) (i : Int) (g : Nat) (l : List UInt8) (hl : l.length = 64) (B : Nat) (hr : Rd w B (some ⟨g, 0, none⟩) (u8s l)) (hp : g ≠ p) :
    Calls Try.prog 15 #[.pointer (some ⟨p, 0, none⟩), .int .i64 i, .slice (some ⟨g, 0, none⟩) 64 64] w fun e w' => e = .returned (.int .i64 (M.writeE i l)) ∧ DiskM w' p bs bw (M.writeM i l) (T + 1) ∧ Fr w w' [p, bw] := by
  have := writeM h hk i (some ⟨g, 0, none⟩) l 64 B hr (fun a ha => by cases ha; exact hp)
  rw [hl] at this
  exact this
theorem readC {w : World} {p bs bw T : Nat} {M : DM} (h : DiskM w p bs bw M T) (hz : M.size ≤ 4096) {i : Nat} (hi : i < M.size) :
    Calls Try.prog 51 #[.pointer (some ⟨p, 0, none⟩), .int .i64 (i : Int)] w fun e w' => ∃ g, e = .returned (.tuple #[.slice (some ⟨g, 0, none⟩) 64 64, .int .i64 0]) ∧ w.heap.size ≤ g ∧ g < w'.heap.size ∧ Rd w' w'.heap.size (some ⟨g, 0, none⟩) (u8s (M.get i)) ∧ (M.get i).length = 64 ∧ Below w.heap.size w w' := by
  refine (readM h hz hi).mono ?_
  rintro e w' ⟨rfl, rfl, hl⟩
  have hs : (w.alloc (.cells (u8s (M.get i)).toArray 87)).heap.size = w.heap.size + 1 := by simp
  refine ⟨_, rfl, Nat.le_refl _, by omega, ?_, hl, (Below.refl _ w).alloc (Nat.le_refl _) _⟩
  rw [hs]
  exact Rd.new w (u8s (M.get i)).toArray 87 (0, 0)
theorem crash_two {w : World} {p bs bw T : Nat} {M : DM} (h : DiskM w p bs bw M T) (hT : T ≤ 1000000000) :
    Calls Try.prog 18 #[.pointer (some ⟨p, 0, none⟩), .slice (some ⟨w.heap.size, 0, none⟩) 2 2, .int .i64 0, .int .i64 2] (w.alloc (.cells #[.bool false, .bool true] 4)) fun e w' => ∃ p' bs' bw', e = .returned (.pointer (some ⟨p', 0, none⟩)) ∧ w.heap.size ≤ p' ∧ DiskM w' p' bs' bw' (M.crashed [false, true] 0 2) T ∧ Below w.heap.size w w' := by
  have hs : (w.alloc (.cells #[.bool false, .bool true] 4)).heap.size = w.heap.size + 1 := by simp
  refine (crashM (h.alloc _) hT (some ⟨w.heap.size, 0, none⟩) 2 [false, true] 0 2 ?_).mono ?_
  · rw [hs]; exact Rd.new w #[.bool false, .bool true] 4 (0, 0)
  · rintro e w' ⟨p', bs', bw', rfl, b1, _, _, hD, hb⟩
    rw [hs] at b1 hb
    exact ⟨p', bs', bw', rfl, by omega, hD, ((Below.refl _ w).alloc (Nat.le_refl _) _).trans ⟨hb.os, hb.tape, hb.output, hb.size, fun k hk => hb.block k (by omega)⟩⟩
theorem rd_cell {w : World} {B g : Nat} {l : List UInt8} (h : Rd w B (some ⟨g, 0, none⟩) (u8s l)) {k : Nat} {x : UInt8} (hx : l[k]? = some x) : w.cell? ⟨g, k, none⟩ = some (.int .u8 (x.toNat : Int)) := by
  have hk := (List.getElem?_eq_some_iff.1 hx).1
  obtain ⟨b, o, e, _, hc⟩ := h.get (k := k) (by rw [u8s_len]; exact hk)
  cases e
  rw [Nat.zero_add] at hc
  rw [hc, u8s_get l k hk]
  rw [List.getElem?_eq_getElem hk] at hx
  injection hx with hx
  rw [hx]
end Go.Proofs.Ytajakmfloeefpaa
/- The document's disk: how it lies, a step. -/
namespace Go.Proofs.Ytajakmfloeefpaa
open Go.RowKit Go.Maps

def strs (L : List (List UInt8)) : List Value := L.map fun l => .string ⟨l.toArray⟩
def bools (L : List Bool) : List Value := L.map Value.bool
@[simp] theorem strs_len (L : List (List UInt8)) : (strs L).length = L.length := by simp [strs]
@[simp] theorem bools_len (L : List Bool) : (bools L).length = L.length := by simp [bools]
/-- The document's disk, as lists. -/
structure RD where
  sure : List (List UInt8)
  now : List (List UInt8)
  fresh : List Bool
  steps : Int
  left : Int
/-- Other blocks may be named that weren't there yet. -/
theorem Sl.turn {w w' : World} {X Y : List Nat} {A : Option Addr} {xs : List Value} (h : Sl w X A xs) (hb : Below w.heap.size w w') (hY : ∀ y ∈ Y, w.heap.size ≤ y) : Sl w' (Y) A xs ∨ xs = [] := by
  by_cases hn : xs = []
  · exact .inr hn
  · left
    obtain ⟨b, o, e, hlt, hc⟩ := h.1 hn
    refine ⟨(h.below hb).1, fun a ha => ?_⟩
    rw [e] at ha
    cases ha
    exact fun hy => by have := hY b hy; omega
/-- The value v is the document's disk R. -/
def RefV (w : World) (X : List Nat) (R : RD) (v : Value) : Prop :=
  ∃ A1 A2 A3 c1 c2 c3, v = .agg #[.slice A1 R.sure.length c1, .slice A2 R.now.length c2, .slice A3 R.fresh.length c3, .int .i64 R.steps, .int .i64 R.left] ∧ Sl w X A1 (strs R.sure) ∧ Sl w X A2 (strs R.now) ∧ Sl w X A3 (bools R.fresh)
theorem RefV.below {w w' : World} {X : List Nat} {R : RD} {v : Value} (h : RefV w X R v) (hb : Below w.heap.size w w') : RefV w' X R v := by
  obtain ⟨A1, A2, A3, c1, c2, c3, rfl, h1, h2, h3⟩ := h
  exact ⟨A1, A2, A3, c1, c2, c3, rfl, h1.below hb, h2.below hb, h3.below hb⟩
theorem RefV.fr {w w' : World} {X S : List Nat} {R : RD} {v : Value} (h : RefV w X R v) (hf : Fr w w' S) (hS : ∀ x ∈ S, x ∈ X) : RefV w' X R v := by
  obtain ⟨A1, A2, A3, c1, c2, c3, rfl, h1, h2, h3⟩ := h
  exact ⟨A1, A2, A3, c1, c2, c3, rfl, h1.fr hf hS, h2.fr hf hS, h3.fr hf hS⟩

theorem set5 {w : World} {b : Nat} {t : TypeId} {x0 x1 x2 x3 x4 : Value} (h : w.heap[b]? = some (.cells #[x0, x1, x2, x3, x4] t (0, 0))) (v0 v1 v2 v3 v4 : Value) :
    (((((w.setCell ⟨b, 0, none⟩ v0).setCell ⟨b, 1, none⟩ v1).setCell ⟨b, 2, none⟩ v2).setCell ⟨b, 3, none⟩ v3).setCell ⟨b, 4, none⟩ v4).heap[b]? = some (.cells #[v0, v1, v2, v3, v4] t (0, 0)) := by
  have h1 := heap_setCell_same w b 0 #[x0, x1, x2, x3, x4] t v0 h
  have h2 := heap_setCell_same _ b 1 _ t v1 h1
  have h3 := heap_setCell_same _ b 2 _ t v2 h2
  have h4 := heap_setCell_same _ b 3 _ t v3 h3
  have h5 := heap_setCell_same _ b 4 _ t v4 h4
  simpa using h5

theorem resStep {w : World} {b : Nat} {v0 v1 v2 v3 v4 : Value} (h : w.heap[b]? = some (.cells #[v0, v1, v2, v3, v4] 33 (0, 0))) (tmps : Array Value) (h2 : tmps.getD 2 undef = .pointer (some ⟨b, 0, none⟩)) :
    (results Try.f45 tmps).run Try.prog w = .ok (.tuple #[.agg #[v0, v1, v2, v3, v4], tmps.getD 3 undef]) w := by
  have e0 : w.cell? ⟨b, 0, none⟩ = some v0 := cell_of_row w b 0 _ _ _ h
  have e1 : w.cell? ⟨b, 1, none⟩ = some v1 := cell_of_row w b 1 _ _ _ h
  have e2 : w.cell? ⟨b, 2, none⟩ = some v2 := cell_of_row w b 2 _ _ _ h
  have e3 : w.cell? ⟨b, 3, none⟩ = some v3 := cell_of_row w b 3 _ _ _ h
  have e4 : w.cell? ⟨b, 4, none⟩ = some v4 := cell_of_row w b 4 _ _ _ h
  have h2' := h2
  simp only [Array.getD_eq_getD_getElem?] at h2'
  simp [results, Try.results45, go_sem, h2', e0, e1, e2, e3, e4]

theorem below2 (w : World) (o o' : Obj) : Below w.heap.size w ((w.alloc o).alloc o') := ((Below.refl _ w).alloc (Nat.le_refl _) o).alloc (by simp) o'
def dv (A1 A2 A3 : Option Addr) (n1 n2 n3 c1 c2 c3 : Nat) (s l : Int) : Value := .agg #[.slice A1 n1 c1, .slice A2 n2 c2, .slice A3 n3 c3, .int .i64 s, .int .i64 l]
theorem lastAgg (w : World) (v0 v1 v2 v3 v4 : Value) : ((w.alloc (.cells #[v0, v1, v2, v3, v4] 33)).alloc (.cells #[v0, v1, v2, v3, v4] 33)).heap[w.heap.size + 1]? = some (.cells #[v0, v1, v2, v3, v4] 33 (0, 0)) := by
  have := heap_alloc_new (w.alloc (.cells #[v0, v1, v2, v3, v4] 33)) (.cells #[v0, v1, v2, v3, v4] 33)
  rw [alloc1_size] at this
  exact this
def stepS (s l : Int) : Int := if l = 0 then s else s + 1
def stepL (l : Int) : Int := if l = 0 then 0 else if 0 < l then l - 1 else l
set_option maxRecDepth 100000 in
set_option maxHeartbeats 1000000 in
theorem rstep_any (w : World) (A1 A2 A3 : Option Addr) (n1 n2 n3 c1 c2 c3 : Nat) (s l : Int) (hl : -1 ≤ l ∧ l ≤ 9223372036854775807) (hs : 0 ≤ s ∧ s ≤ 1000000000) :
    Calls Try.prog 45 #[dv A1 A2 A3 n1 n2 n3 c1 c2 c3 s l] w fun e w' => e = .returned (.tuple #[dv A1 A2 A3 n1 n2 n3 c1 c2 c3 (stepS s l) (stepL l), .bool (!decide (l = 0))]) ∧ Below w.heap.size w w' := by
  unfold dv
  have hst : wrap64 (s + 1) = s + 1 := by unfold wrap64; omega
  by_cases h0 : l = 0
  · rw [show stepS s l = s from if_pos h0, show stepL l = 0 from if_pos h0, decide_eq_true h0]
    go_enter Try.func45, Try.ntmps45
    go_wp2
    exact bodyPost_ret (resStep (lastAgg _ _ _ _ _ _) _ rfl) rfl ⟨rfl, below2 _ _ _⟩
  · rw [show stepS s l = s + 1 from if_neg h0, show stepL l = (if 0 < l then l - 1 else l) from if_neg h0, decide_eq_false h0]
    by_cases hp : 0 < l
    · rw [if_pos hp]
      have hlt : wrap64 (l - 1) = l - 1 := by unfold wrap64; omega
      go_enter Try.func45, Try.ntmps45
      go_wp2
      exact bodyPost_ret (resStep (lastAgg _ _ _ _ _ _) _ rfl) rfl ⟨rfl, below2 _ _ _⟩
    · rw [if_neg hp]
      go_enter Try.func45, Try.ntmps45
      go_wp2
      exact bodyPost_ret (resStep (lastAgg _ _ _ _ _ _) _ rfl) rfl ⟨rfl, below2 _ _ _⟩

/-- Numbers that the document's disk may have. -/
structure RD.Ok (R : RD) : Prop where
  n : R.now.length ≤ 4096
  sure : R.sure.length = R.now.length
  fresh : R.fresh.length = R.now.length
  steps : 0 ≤ R.steps ∧ R.steps ≤ 1000000000
  left : -1 ≤ R.left ∧ R.left ≤ 9223372036854775807
theorem refV_dv {w : World} {X : List Nat} {R : RD} {v : Value} (h : RefV w X R v) : ∃ A1 A2 A3 c1 c2 c3, v = dv A1 A2 A3 R.sure.length R.now.length R.fresh.length c1 c2 c3 R.steps R.left ∧ Sl w X A1 (strs R.sure) ∧ Sl w X A2 (strs R.now) ∧ Sl w X A3 (bools R.fresh) := h

theorem resArm {w : World} {b : Nat} {v0 v1 v2 v3 v4 : Value} (h : w.heap[b]? = some (.cells #[v0, v1, v2, v3, v4] 33 (0, 0))) (tmps : Array Value) (h2 : tmps.getD 4 undef = .pointer (some ⟨b, 0, none⟩)) :
    (results Try.f14 tmps).run Try.prog w = .ok (.tuple #[.agg #[v0, v1, v2, v3, v4], tmps.getD 5 undef]) w := by
  have e0 : w.cell? ⟨b, 0, none⟩ = some v0 := cell_of_row w b 0 _ _ _ h
  have e1 : w.cell? ⟨b, 1, none⟩ = some v1 := cell_of_row w b 1 _ _ _ h
  have e2 : w.cell? ⟨b, 2, none⟩ = some v2 := cell_of_row w b 2 _ _ _ h
  have e3 : w.cell? ⟨b, 3, none⟩ = some v3 := cell_of_row w b 3 _ _ _ h
  have e4 : w.cell? ⟨b, 4, none⟩ = some v4 := cell_of_row w b 4 _ _ _ h
  have h2' := h2
  simp only [Array.getD_eq_getD_getElem?] at h2'
  simp [results, Try.results14, go_sem, h2', e0, e1, e2, e3, e4]
def RD.armE (R : RD) (n : Int) : Int := if n < 0 then 1 else if R.left = 0 then 30 else 0
def RD.armM (R : RD) (n : Int) : RD := if n < 0 then R else if R.left = 0 then R else { R with left := n }
set_option maxRecDepth 100000 in
set_option maxHeartbeats 1000000 in
theorem rarm_any (w : World) (X : List Nat) (R : RD) (v : Value) (h : RefV w X R v) (n : Int) :
    Calls Try.prog 14 #[v, .int .i64 n] w fun e w' => ∃ v', e = .returned (.tuple #[v', .int .i64 (R.armE n)]) ∧ RefV w' X (R.armM n) v' ∧ Below w.heap.size w w' := by
  have hh := h
  obtain ⟨A1, A2, A3, c1, c2, c3, rfl, h1, h2, h3⟩ := h
  unfold RD.armE RD.armM
  by_cases hn : n < 0
  · rw [if_pos hn, if_pos hn]
    go_enter Try.func14, Try.ntmps14
    go_wp2
    exact bodyPost_ret (resArm (lastAgg _ _ _ _ _ _) _ rfl) rfl ⟨_, rfl, hh.below (below2 _ _ _), below2 _ _ _⟩
  · rw [if_neg hn, if_neg hn]
    by_cases h0 : R.left = 0
    · rw [if_pos h0, if_pos h0]
      go_enter Try.func14, Try.ntmps14
      go_wp2
      exact bodyPost_ret (resArm (lastAgg _ _ _ _ _ _) _ rfl) rfl ⟨_, rfl, by rw [h0] at hh; exact hh.below (below2 _ _ _), below2 _ _ _⟩
    · rw [if_neg h0, if_neg h0]
      go_enter Try.func14, Try.ntmps14
      go_wp2
      exact bodyPost_ret (resArm (lastAgg _ _ _ _ _ _) _ rfl) rfl ⟨_, rfl, RefV.below (w := w) ⟨A1, A2, A3, c1, c2, c3, rfl, h1, h2, h3⟩ (below2 _ _ _), below2 _ _ _⟩
end Go.Proofs.Ytajakmfloeefpaa
/- Words that several walks over disks share. -/
namespace Go.Proofs.Ytajakmfloeefpaa
open Go.RowKit Go.Maps

theorem bytesC (A : Option Addr) (b : List UInt8) (c B : Nat) (w : World) (hr : Rd w B A (u8s b)) (hB : B ≤ w.heap.size) (hb : b.length ≤ 4611686018427387904) :
    Calls Try.prog 16 #[.slice A b.length c] w fun e w' => ∃ g, e = .returned (.slice (some ⟨g, 0, none⟩) 64 64) ∧ w.heap.size ≤ g ∧ g < w'.heap.size ∧ Rd w' w'.heap.size (some ⟨g, 0, none⟩) (u8s (bytesL b)) ∧ Below w.heap.size w w' := by
  refine (bytes_any A b c B w hr hB hb).mono ?_
  rintro e w' ⟨rfl, hg, hb⟩
  have hlt := (Array.getElem?_eq_some_iff.1 hg).1
  refine ⟨_, rfl, Nat.le_refl _, hlt, fun _ => ⟨_, 0, rfl, hlt, fun j u hu => ?_⟩, hb⟩
  rw [cell_of_row _ _ _ _ _ _ hg]
  simpa using hu

theorem make64 (w : World) : (Instr.makeSlice 45 (.int .i64 64) (.int .i64 64)).run Try.prog w = .ok (.slice (some ⟨w.heap.size, 0, none⟩) 64 64) (w.alloc (.cells (u8s zero64).toArray 5)) := by
  have h := run_make_row' (P := Try.prog) 45 5 (.int .u8 0) 1 Try.underlying45 infoU8 rfl .i64 .i64 64 (by omega) (by omega) w
  rw [made64] at h
  exact h
theorem filter_one (i : Nat) : ∀ n : Nat, ((List.range n).filter fun j => decide (j = i)).length = if i < n then 1 else 0
  | 0 => by simp
  | n + 1 => by
    rw [List.range_succ, List.filter_append, List.length_append, filter_one i n]
    by_cases h : i < n
    · rw [if_pos h, if_pos (by omega), List.filter_cons, if_neg (by simp; omega)]; rfl
    · by_cases e : n = i
      · rw [if_neg h, if_pos (by omega), List.filter_cons, if_pos (by simp [e])]; rfl
      · rw [if_neg h, if_neg (by omega), List.filter_cons, if_neg (by simpa using e)]; rfl
theorem crashed_get (M : DM) (i : Nat) : (M.crashed [] (-1) 0).get i = M.sure i := by
  show M.left1 [] (-1) 0 i = _
  unfold DM.left1
  cases M.wr i with
  | none => rfl
  | some l => simp
theorem sl_str {w : World} {X : List Nat} {A : Option Addr} {l : List UInt8} (h : Sl w X A (u8s l)) (hl : l.length = 64) :
    (convert 45 9 (.slice A 64 64)).run Try.prog w = .ok (.string ⟨l.toArray⟩) w := strAt h.1 hl.symm
theorem unarmed {M : DM} (h : M.armed = false) : M.dead = false := by unfold DM.dead; rw [h]; rfl
theorem write_plain {M : DM} {i : Nat} {l : List UInt8} (ha : M.armed = false) (hi : i < M.size) (hl : l.length = 64) : M.writeE (i : Int) l = 0 ∧ M.writeM (i : Int) l = M.written i l := by
  have hn : ¬ (¬ (0 ≤ (i : Int) ∧ (i : Int) < (M.size : Int)) ∨ l.length ≠ 64) := by rw [hl]; omega
  unfold DM.writeE DM.writeM
  rw [if_neg hn, if_neg hn, unarmed ha]
  exact ⟨rfl, rfl⟩
theorem flush_plain {M : DM} (ha : M.armed = false) : M.flushE = 0 ∧ M.flushM = M.flushed := by
  unfold DM.flushE DM.flushM
  rw [unarmed ha]
  exact ⟨rfl, rfl⟩
theorem crashed_facts (M : DM) (keep : List Bool) (torn cut : Int) : (M.crashed keep torn cut).size = M.size ∧ (M.crashed keep torn cut).steps = 0 ∧ (M.crashed keep torn cut).fresh.length = 0 := by
  refine ⟨rfl, rfl, ?_⟩
  have : (M.crashed keep torn cut).fresh = [] := by unfold DM.fresh; simp [DM.crashed]
  rw [this]; rfl
/-- Where the first difference stands nothing of the one is left. -/
theorem drop_same {b l s : List UInt8} {n k : Nat} (hb : b = l.take n ++ s.drop n) (hl : l.length = 64) (hs : s.length = 64) (hk : k ≤ 64) (hd : k = 64 ∨ b[k]? ≠ l[k]?) : b.drop k = s.drop k := by
  have hbl : b.length = 64 := by rw [hb]; simp [hl, hs]; omega
  rcases hd with rfl | hd
  · rw [List.drop_of_length_le (by omega), List.drop_of_length_le (by omega)]
  · by_cases hk64 : k = 64
    · rw [List.drop_of_length_le (by omega), List.drop_of_length_le (by omega)]
    · have hnk : n ≤ k := by
        rcases Nat.lt_or_ge k n with h | h
        · exfalso; apply hd
          rw [hb, List.getElem?_append_left (by simp; omega), List.getElem?_take, if_pos h]
        · exact h
      rw [hb, List.drop_append, List.length_take, hl]
      rw [List.drop_of_length_le (by simp; omega), List.nil_append, List.drop_drop]
      congr 1
      omega
/-- Bytes of two bytes that were just laid. -/
theorem bytes_two (x y : UInt8) (w : World) :
    Calls Try.prog 16 #[.slice (some ⟨w.heap.size, 0, none⟩) 2 2] (w.alloc (.cells #[.int .u8 (x.toNat : Int), .int .u8 (y.toNat : Int)] 5)) fun e w' => ∃ g, e = .returned (.slice (some ⟨g, 0, none⟩) 64 64) ∧ w.heap.size < g ∧ g < w'.heap.size ∧ Rd w' w'.heap.size (some ⟨g, 0, none⟩) (u8s (bytesL [x, y])) ∧ Below w.heap.size w w' := by
  have hs : (w.alloc (.cells #[.int .u8 (x.toNat : Int), .int .u8 (y.toNat : Int)] 5)).heap.size = w.heap.size + 1 := by simp
  have hr : Rd (w.alloc (.cells #[.int .u8 (x.toNat : Int), .int .u8 (y.toNat : Int)] 5)) (w.heap.size + 1) (some ⟨w.heap.size, 0, none⟩) (u8s [x, y]) := Rd.new w #[.int .u8 (x.toNat : Int), .int .u8 (y.toNat : Int)] 5 (0, 0)
  refine (bytesC (some ⟨w.heap.size, 0, none⟩) [x, y] 2 _ _ hr (by omega) (by simp)).mono ?_
  rintro e w' ⟨g, rfl, h1, h2, h3, h4⟩
  rw [hs] at h1 h4
  exact ⟨g, rfl, by omega, h2, h3, ((Below.refl _ w).alloc (Nat.le_refl _) _).trans (lower h4 (by omega))⟩
theorem wrap_byte (x : UInt8) : wrap64 (x.toNat : Int) = (x.toNat : Int) := by
  have := x.toNat_lt
  unfold wrap64
  omega
theorem bytes_two' (x y : UInt8) (w : World) {n : Nat} (hn : w.heap.size = n) :
    Calls Try.prog 16 #[.slice (some ⟨n, 0, none⟩) 2 2] (w.alloc (.cells #[.int .u8 (x.toNat : Int), .int .u8 (y.toNat : Int)] 5)) fun e w' => ∃ g, e = .returned (.slice (some ⟨g, 0, none⟩) 64 64) ∧ n < g ∧ g < w'.heap.size ∧ Rd w' w'.heap.size (some ⟨g, 0, none⟩) (u8s (bytesL [x, y])) ∧ Below n w w' := by
  subst hn
  exact bytes_two x y w
theorem rd_drop {w : World} {B g k : Nat} {l : List UInt8} (h : Rd w B (some ⟨g, 0, none⟩) (u8s l)) : Rd w B (some ⟨g, k, none⟩) (u8s (l.drop k)) := by
  intro hn
  have h0 : u8s l ≠ [] := by rintro e; apply hn; have := congrArg List.length e; rw [u8s_len] at this; have h2 : l = [] := List.eq_nil_of_length_eq_zero this; rw [h2]; simp [u8s]
  obtain ⟨b, o, e, hb, hc⟩ := h h0
  cases e
  refine ⟨g, k, rfl, hb, fun j u hu => ?_⟩
  have := hc (k + j) u (by rw [← hu]; simp [u8s, List.getElem?_drop])
  rw [Nat.zero_add] at this
  exact this
def ints (L : List Nat) : List Value := L.map fun (i : Nat) => Value.int .i64 (i : Int)
@[simp] theorem ints_len (L : List Nat) : (ints L).length = L.length := by simp [ints]
theorem ints_snoc (L : List Nat) (i : Nat) : ints L ++ [.int .i64 (i : Int)] = ints (L ++ [i]) := by simp [ints]
theorem ints_get (L : List Nat) (i : Nat) (h : i < L.length) : (ints L)[i]'(by simpa using h) = .int .i64 (L[i] : Int) := by simp [ints]
end Go.Proofs.Ytajakmfloeefpaa
