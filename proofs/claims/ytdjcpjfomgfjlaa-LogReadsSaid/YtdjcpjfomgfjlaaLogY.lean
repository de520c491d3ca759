/- The document's log, plainly: its record against the scan; its room. -/
import Derived.Test.YtdjcpjfomgfjlaaLogX
namespace Go.Proofs.Ytdjcpjfomgfjlaa

theorem recO_some {g : Nat → List UInt8} {a behind s : Nat} {d : List UInt8} (hg : ∀ i, i < behind → (g i).length = 64) (h : recO g a behind = some (s, d)) :
    hdr (g a) = some (s, d.length) ∧ a + secs d.length < behind ∧ d = (cat g (a + 1) (secs d.length)).take d.length ∧ 1 ≤ s ∧ s ≤ 4611686018427387904 ∧ d.length ≤ 4000 := by
  unfold recO at h
  cases hh : hdr (g a) with
  | none => rw [hh] at h; cases h
  | some x =>
    obtain ⟨s', n⟩ := x
    rw [hh] at h
    simp only at h
    by_cases hb : behind < a + 1 + secs n
    · rw [if_pos hb] at h; cases h
    · rw [if_neg hb] at h
      injection h with h
      injection h with h1 h2
      subst h1
      have hl : d.length = n := by
        rw [← h2, List.length_take, cat_len (fun i hi => hg _ (by omega))]
        unfold secs
        omega
      rw [hl]
      obtain ⟨q1, q2, q3, _⟩ := hdr_some hh
      exact ⟨rfl, by omega, h2.symm, q1, q2, q3⟩
theorem scan_rec {g : Nat → List UInt8} {a behind s : Nat} {d : List UInt8} {nx : Option Nat} (hg : ∀ i, i < behind → (g i).length = 64) (h : recO g a behind = some (s, d)) (hn : nx = none ∨ nx = some s) :
    scan g behind a nx = (s, d) :: scan g behind (a + 1 + secs d.length) (some (s + 1)) := by
  obtain ⟨h1, h2, h3, _⟩ := recO_some hg h
  unfold scan
  obtain ⟨f, hf⟩ : ∃ f, behind - a = f + 1 := ⟨behind - a - 1, by omega⟩
  rw [hf]
  simp only [scanF]
  rw [if_pos (by omega), h1]
  simp only
  rw [if_pos ⟨hn, h2⟩, ← h3, scanF_fuel g behind f (behind - (a + 1 + secs d.length)) _ _ (by omega) (by omega)]
theorem scan_norec {g : Nat → List UInt8} {a behind : Nat} {nx : Option Nat} (h : recO g a behind = none) : scan g behind a nx = [] := by
  cases hh : hdr (g a) with
  | none => exact scan_none fun _ => hh
  | some x =>
    obtain ⟨s, n⟩ := x
    refine scan_bad hh fun hb => ?_
    unfold recO at h
    rw [hh] at h
    simp only at h
    rw [if_neg (by omega)] at h
    cases h
theorem scan_other {g : Nat → List UInt8} {a behind s : Nat} {d : List UInt8} {nx : Option Nat} (hg : ∀ i, i < behind → (g i).length = 64) (h : recO g a behind = some (s, d)) (hn : ¬ (nx = none ∨ nx = some s)) : scan g behind a nx = [] :=
  scan_bad (recO_some hg h).1 fun hb => hn hb.1
/-- The document's room is the log's. -/
theorem room_same {L : LG} (hok : L.Ok) : roomR L.first (L.behind - L.first) L.next L.recs = L.room := by
  have h1 := hok.first
  have h2 := hok.endd
  have h3 := hok.behind
  unfold roomR LG.room
  unfold LG.endd at h2 ⊢
  have h4 := endR_le L.first L.recs
  by_cases he : endR L.first L.recs = L.behind
  · rw [if_pos (.inl (by omega)), if_pos (.inl he)]
  · by_cases hn : 4611686018427387904 < L.next
    · rw [if_pos (.inr (by omega)), if_pos (.inr hn)]
    · rw [if_neg (by omega), if_neg (by omega)]
      congr 1
      omega
end Go.Proofs.Ytdjcpjfomgfjlaa
