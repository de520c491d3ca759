/- Wherever the power goes within a Reset. -/
import Derived.Test.YtdjcpjfomgfjlaaLogC
namespace Go.Proofs.Ytdjcpjfomgfjlaa

def heads : Nat → List Rec → List Nat
  | _, [] => []
  | a, (_, d) :: r => a :: heads (a + 1 + secs d.length) r
def others : Nat → List Rec → List Nat
  | _, [] => []
  | a, (_, d) :: r => ((List.range (secs d.length)).map fun i => a + 1 + i) ++ others (a + 1 + secs d.length) r
theorem heads_ge {i : Nat} : ∀ {a : Nat} {rs : List Rec}, i ∈ heads a rs → a ≤ i ∧ i < endR a rs
  | a, (s, d) :: r, h => by
    have hle := endR_le (a + 1 + secs d.length) r
    rcases List.mem_cons.1 h with rfl | h
    · refine ⟨Nat.le_refl _, ?_⟩; show _ < endR (_ + 1 + secs d.length) r; omega
    · have := heads_ge h; refine ⟨by omega, ?_⟩; show _ < endR (_ + 1 + secs d.length) r; omega
theorem others_ge {i : Nat} : ∀ {a : Nat} {rs : List Rec}, i ∈ others a rs → a < i ∧ i < endR a rs
  | a, (s, d) :: r, h => by
    have hle := endR_le (a + 1 + secs d.length) r
    rcases List.mem_append.1 h with h | h
    · obtain ⟨j, hj, rfl⟩ := List.mem_map.1 h
      have := List.mem_range.1 hj
      refine ⟨by omega, ?_⟩; show _ < endR (_ + 1 + secs d.length) r; omega
    · have := others_ge h; refine ⟨by omega, ?_⟩; show _ < endR (_ + 1 + secs d.length) r; omega
theorem apart {i : Nat} : ∀ {a : Nat} {rs : List Rec}, i ∈ heads a rs → i ∉ others a rs
  | a, (s, d) :: r, h, h' => by
    rcases List.mem_cons.1 h with rfl | h
    · have := others_ge h'; omega
    · rcases List.mem_append.1 h' with h' | h'
      · obtain ⟨j, hj, rfl⟩ := List.mem_map.1 h'
        have := List.mem_range.1 hj
        have := heads_ge h
        omega
      · exact apart h h'
theorem heads_len (a : Nat) (rs : List Rec) : (heads a rs).length = rs.length := by
  induction rs generalizing a with
  | nil => rfl
  | cons x r ih => obtain ⟨s, d⟩ := x; simp [heads, ih]
/-- With some heads gone the records ahead of the first of them are left. -/
theorem scan_less {g g' : Nat → List UInt8} {behind : Nat} : ∀ {a : Nat} {nx : Option Nat} {rs : List Rec}, Laid g behind a nx rs → (∀ i ∈ heads a rs, g' i = g i ∨ hdr (g' i) = none) → (∀ i ∈ others a rs, g' i = g i) →
    (endR a rs < behind → hdr (g' (endR a rs)) = none) → scan g' behind a nx <+: rs
  | a, nx, [], _, _, _, h4 => by rw [scan_none (a := a) (fun h => h4 h)]; exact List.prefix_refl _
  | a, nx, (s, d) :: r, ⟨h1, h2, h3, h4, h5⟩, hh, ho, he => by
    rcases hh a (by simp [heads]) with e | e
    · have hc : ∀ i, i < secs d.length → g' (a + 1 + i) = g (a + 1 + i) := fun i hi => ho _ (List.mem_append_left _ (List.mem_map.2 ⟨i, List.mem_range.2 hi, rfl⟩))
      rw [scan_some (by rw [e]; exact h1) h2 h3, cat_congr hc, h4]
      exact (List.prefix_cons_inj _).2 (scan_less h5 (fun i hi => hh i (List.mem_cons_of_mem _ hi)) (fun i hi => ho i (List.mem_append_right _ hi)) he)
    · rw [scan_none (fun _ => e)]; exact List.nil_prefix
def rstOps (first : Nat) (rs : List Rec) : List DOp := if rs = [] then [] else wipeOps (heads first rs) ++ wipeOps (others first rs)
/-- Wherever the power goes within a Reset: the records ahead of some one, or all, or none. -/
theorem reset_cut {M : DM} {first behind : Nat} {rs : List Rec} (h : Clean M first behind rs) {k : Nat} {g : Nat → List UInt8} (hg : Crashes (doneOps ((rstOps first rs).take k) M) behind g) (hf : first ≤ behind) :
    scan g behind first none <+: rs ∧ ((rstOps first rs).length ≤ k → scan g behind first none = []) := by
  by_cases h0 : rs = []
  · subst h0
    have hg' : Crashes M behind g := by simpa [rstOps, doneOps] using hg
    have := (h.crash hf hg').scan
    exact ⟨by rw [this]; exact List.prefix_refl _, fun _ => this⟩
  · have hops : rstOps first rs = wipeOps (heads first rs) ++ wipeOps (others first rs) := if_neg h0
    have hwl : (wipeOps (heads first rs)).length = rs.length + 1 := by simp [wipeOps, zeroOps, heads_len]
    have hend := h.laid.end_le hf
    by_cases c1 : k ≤ rs.length
    · have e : (rstOps first rs).take k = zeroOps ((heads first rs).take k) := by
        rw [hops, List.take_append_of_le_length (by omega)]
        unfold wipeOps
        rw [List.take_append_of_le_length (by simp [zeroOps, heads_len]; omega), zeroOps_take]
      rw [e] at hg
      obtain ⟨q1, q2⟩ := done_zero ((heads first rs).take k) M
      refine ⟨?_, fun hl => by rw [hops, List.length_append, hwl] at hl; omega⟩
      refine scan_less h.laid (fun i hi => ?_) (fun i hi => ?_) (fun hl => ?_)
      · have hib := heads_ge hi
        rcases hg i (by omega) with ⟨hw, hb⟩ | ⟨l, c, hw, hb⟩
        · left; rw [hb, q1]
        · rw [q2] at hw
          split at hw
          · injection hw with hw
            by_cases hc : c = 0
            · left; rw [hb, hc, q1]; simp
            · right
              refine hdr_first ?_
              rw [hb, ← hw, List.getElem?_append_left (by simp [zero64]; omega), List.getElem?_take_of_lt (by omega)]
              simp [zero64]
          · rw [h.calm i] at hw; cases hw
      · have hib := others_ge hi
        rw [mix_zero (hg i (by omega)) (by rw [q2, if_neg (fun hm => apart (List.mem_of_mem_take hm) hi)]; exact h.calm i), q1]
      · rw [mix_zero (hg _ hl) (by rw [q2, if_neg (fun hm => by have := heads_ge (List.mem_of_mem_take hm); omega)]; exact h.calm _), q1, h.zero _ (Nat.le_refl _) hl]
        exact hdr_zero
    · have hz : first < behind → g first = zero64 := by
        intro hl
        obtain ⟨j, hj⟩ : ∃ j, k = rs.length + 1 + j := ⟨k - (rs.length + 1), by omega⟩
        have e : (rstOps first rs).take k = wipeOps (heads first rs) ++ (wipeOps (others first rs)).take j := by
          rw [hops, List.take_append, List.take_of_length_le (by omega), hwl, show k - (rs.length + 1) = j by omega]
        rw [e, doneOps_append] at hg
        have hmem : first ∈ heads first rs := by
          cases rs with
          | nil => exact absurd rfl h0
          | cons x r => obtain ⟨s, d⟩ := x; simp [heads]
        have hno : first ∉ others first rs := apart hmem
        obtain ⟨q1, q2⟩ := done_zero (heads first rs) M
        have hs1 : (doneOps (wipeOps (heads first rs)) M).sure first = zero64 ∧ (doneOps (wipeOps (heads first rs)) M).wr first = none := by
          unfold wipeOps
          rw [doneOps_append]
          refine ⟨?_, rfl⟩
          show ((doneOps (zeroOps (heads first rs)) M).wr first).getD _ = _
          rw [q2, if_pos hmem]; rfl
        generalize doneOps (wipeOps (heads first rs)) M = M1 at hs1 hg
        have hs2 : (doneOps ((wipeOps (others first rs)).take j) M1).sure first = zero64 ∧ (doneOps ((wipeOps (others first rs)).take j) M1).wr first = none := by
          by_cases c2 : j ≤ (others first rs).length
          · have e2 : (wipeOps (others first rs)).take j = zeroOps ((others first rs).take j) := by
              unfold wipeOps
              rw [List.take_append_of_le_length (by simpa [zeroOps] using c2), zeroOps_take]
            obtain ⟨p1, p2⟩ := done_zero ((others first rs).take j) M1
            rw [e2, p1, p2, if_neg (fun hm => hno (List.mem_of_mem_take hm))]
            exact hs1
          · have e2 : (wipeOps (others first rs)).take j = wipeOps (others first rs) := List.take_of_length_le (by simp [wipeOps, zeroOps]; omega)
            obtain ⟨p1, p2⟩ := done_zero (others first rs) M1
            rw [e2]
            unfold wipeOps
            rw [doneOps_append]
            refine ⟨?_, rfl⟩
            show ((doneOps (zeroOps (others first rs)) M1).wr first).getD ((doneOps (zeroOps (others first rs)) M1).sure first) = _
            rw [p2, if_neg hno, hs1.2, p1]
            exact hs1.1
        rw [mix_zero (hg first hl) hs2.2, hs2.1]
      have hs : scan g behind first none = [] := scan_none (fun hl => by rw [hz hl]; exact hdr_zero)
      exact ⟨by rw [hs]; exact List.nil_prefix, fun _ => hs⟩
end Go.Proofs.Ytdjcpjfomgfjlaa
