/- Wherever the power goes within an Append, or an Open. -/
import Derived.Test.YtdjcpjfomgfjlaaLogB
namespace Go.Proofs.Ytdjcpjfomgfjlaa

/-- Records that are whole, and behind them no head's end. -/
structure Whole (g : Nat → List UInt8) (first behind : Nat) (rs : List Rec) : Prop where
  laid : Laid g behind first none rs
  stop : endR first rs < behind → (g (endR first rs))[63]? = some 0
theorem Whole.scan {g : Nat → List UInt8} {first behind : Nat} {rs : List Rec} (h : Whole g first behind rs) : Go.Proofs.Ytdjcpjfomgfjlaa.scan g behind first none = rs := by
  rw [h.laid.scan, scan_none, List.append_nil]
  intro hl
  refine hdr_last ?_
  rw [h.stop hl]
  decide
structure Clean (M : DM) (first behind : Nat) (rs : List Rec) : Prop where
  calm : Calm M
  laid : Laid M.sure behind first none rs
  zero : ∀ i, endR first rs ≤ i → i < behind → M.sure i = zero64
theorem Clean.whole {M : DM} {first behind : Nat} {rs : List Rec} (h : Clean M first behind rs) : Whole M.sure first behind rs :=
  ⟨h.laid, fun hl => by rw [h.zero _ (Nat.le_refl _) hl]; simp [zero64]⟩
/-- A crash behind steps: each sector is as it was sure, as it was written, or a beginning of the one and the end of the other. -/
def Crashes (M : DM) (behind : Nat) (g : Nat → List UInt8) : Prop := ∀ i, i < behind → Mix M i (g i)
theorem crashes_left1 (M : DM) (h : M.full) (keep : List Bool) (torn cut : Int) {behind : Nat} (hb : behind ≤ M.size) : Crashes M behind (M.left1 keep torn cut) := fun _ hi => mix_left1 M h keep torn cut (by omega)
theorem Whole.congr {g g' : Nat → List UInt8} {first behind : Nat} {rs : List Rec} (h : Whole g first behind rs) (hf : first ≤ behind) (hg : ∀ i, first ≤ i → i < behind → i < endR first rs → g' i = g i)
    (he : endR first rs < behind → (g' (endR first rs))[63]? = some 0) : Whole g' first behind rs :=
  ⟨h.laid.congr (fun i h1 h2 => hg i h1 (by have := h.laid.end_le hf; omega) h2), he⟩
theorem Clean.crash {M : DM} {first behind : Nat} {rs : List Rec} {g : Nat → List UInt8} (h : Clean M first behind rs) (hf : first ≤ behind) (hg : Crashes M behind g) : Whole g first behind rs := by
  have e : ∀ i, i < behind → g i = M.sure i := fun i hi => mix_zero (hg i hi) (h.calm i)
  exact h.whole.congr hf (fun i _ h2 _ => e i h2) (fun hl => by rw [e _ hl]; exact h.whole.stop hl)

def appOps (first : Nat) (rs : List Rec) (next : Nat) (d : List UInt8) : List DOp :=
  wrs (endR first rs + 1) (chunks d) ++ (none :: some (endR first rs, headL next d.length) :: none :: [])
theorem appOps_len (first : Nat) (rs : List Rec) (next : Nat) (d : List UInt8) : (appOps first rs next d).length = secs d.length + 3 := by simp [appOps, wrs_len, chunks_len]
section
variable {M : DM} {first behind next : Nat} {rs : List Rec} {d : List UInt8}
/-- The disk behind the data's flush. -/
def atData (M : DM) (first : Nat) (rs : List Rec) (d : List UInt8) : DM := (doneOps (wrs (endR first rs + 1) (chunks d)) M).flushed
theorem atData_facts (hc : Calm M) : Calm (atData M first rs d) ∧ (∀ i, ¬ (endR first rs + 1 ≤ i ∧ i < endR first rs + 1 + secs d.length) → (atData M first rs d).sure i = M.sure i) ∧ ∀ i, i < secs d.length → some ((atData M first rs d).sure (endR first rs + 1 + i)) = (chunks d)[i]? := by
  obtain ⟨h1, h2⟩ := done_wrs (endR first rs + 1) (chunks d) M
  rw [chunks_len] at h2
  refine ⟨fun i => rfl, fun i hi => ?_, fun i hi => ?_⟩
  · show ((doneOps (wrs (endR first rs + 1) (chunks d)) M).wr i).getD ((doneOps (wrs (endR first rs + 1) (chunks d)) M).sure i) = _
    rw [h2, if_neg hi, hc i, h1]
    rfl
  · show some (((doneOps (wrs (endR first rs + 1) (chunks d)) M).wr _).getD ((doneOps (wrs (endR first rs + 1) (chunks d)) M).sure _)) = _
    rw [h2, if_pos (by omega), h1, show endR first rs + 1 + i - (endR first rs + 1) = i by omega, chunks_get d i hi]
    rfl
theorem laid_more {g : Nat → List UInt8} (hl : Laid g behind first none rs) (hn : nextR none rs = none ∨ nextR none rs = some next) (h1 : 1 ≤ next) (h2 : next ≤ 4611686018427387904) (h3 : d.length ≤ 4000)
    (hfit : endR first rs + secs d.length < behind) (hh : g (endR first rs) = headL next d.length) (hd : ∀ i, i < secs d.length → some (g (endR first rs + 1 + i)) = (chunks d)[i]?) : Laid g behind first none (rs ++ [(next, d)]) :=
  Laid.append.2 ⟨hl, by rw [hh]; exact hdr_head h1 h2 h3, hn, hfit, cat_chunks d g _ hd, trivial⟩
theorem append_all (h : Clean M first behind rs) (hn : nextR none rs = none ∨ nextR none rs = some next) (h1 : 1 ≤ next) (h2 : next ≤ 4611686018427387904) (h3 : d.length ≤ 4000)
    (hfit : endR first rs + secs d.length < behind) : Clean (doneOps (appOps first rs next d) M) first behind (rs ++ [(next, d)]) := by
  obtain ⟨f1, f2, f3⟩ := atData_facts (first := first) (rs := rs) (d := d) h.calm
  have e : doneOps (appOps first rs next d) M = ((atData M first rs d).written (endR first rs) (headL next d.length)).flushed := by
    unfold appOps
    rw [doneOps_append]
    rfl
  have hs : ∀ i, ((atData M first rs d).written (endR first rs) (headL next d.length)).flushed.sure i = if i = endR first rs then headL next d.length else (atData M first rs d).sure i := by
    intro i
    show ((if i = endR first rs then some (headL next d.length) else (atData M first rs d).wr i)).getD ((atData M first rs d).sure i) = _
    by_cases hi : i = endR first rs
    · rw [if_pos hi, if_pos hi]; rfl
    · rw [if_neg hi, if_neg hi, f1 i]; rfl
  rw [e]
  refine ⟨fun i => rfl, laid_more ?_ hn h1 h2 h3 hfit ?_ ?_, fun i hi hb => ?_⟩
  · exact h.laid.congr fun i _ hi => by rw [hs, if_neg (by omega), f2 i (by omega)]
  · rw [hs, if_pos rfl]
  · intro i hi; rw [hs, if_neg (by omega)]; exact f3 i hi
  · rw [endR_append] at hi
    change endR first rs + 1 + secs d.length ≤ i at hi
    rw [hs, if_neg (by omega), f2 i (by omega)]
    exact h.zero i (by omega) hb
/-- Wherever the power goes within an Append: the records, or these and the new one. -/
theorem append_cut (h : Clean M first behind rs) (hf : first ≤ behind) (hn : nextR none rs = none ∨ nextR none rs = some next) (h1 : 1 ≤ next) (h2 : next ≤ 4611686018427387904) (h3 : d.length ≤ 4000)
    (hfit : endR first rs + secs d.length < behind) {k : Nat} {g : Nat → List UInt8} (hg : Crashes (doneOps ((appOps first rs next d).take k) M) behind g) :
    Whole g first behind rs ∨ Whole g first behind (rs ++ [(next, d)]) := by
  have hW := h.whole
  have heb : endR first rs < behind := by omega
  by_cases c1 : k ≤ secs d.length
  · left
    have e : (appOps first rs next d).take k = wrs (endR first rs + 1) ((chunks d).take k) := by
      unfold appOps
      rw [List.take_append_of_le_length (by rw [wrs_len, chunks_len]; exact c1), wrs_take]
    rw [e] at hg
    obtain ⟨q1, q2⟩ := done_wrs (endR first rs + 1) ((chunks d).take k) M
    have hsame : ∀ i, i ≤ endR first rs → i < behind → g i = M.sure i := fun i hi hb => by
      have := mix_zero (hg i hb) (by rw [q2, if_neg (by omega)]; exact h.calm i)
      rw [this, q1]
    exact hW.congr hf (fun i _ hb hi => hsame i (by omega) hb) (fun hl => by rw [hsame _ (Nat.le_refl _) hl]; exact hW.stop hl)
  · obtain ⟨f1, f2, f3⟩ := atData_facts (first := first) (rs := rs) (d := d) h.calm
    by_cases c2 : k = secs d.length + 1
    · left
      have e : doneOps ((appOps first rs next d).take k) M = atData M first rs d := by
        unfold appOps
        rw [c2, List.take_append, wrs_len, chunks_len, List.take_of_length_le (by rw [wrs_len, chunks_len]; omega), show secs d.length + 1 - secs d.length = 1 by omega, doneOps_append]
        rfl
      rw [e] at hg
      have hsame : ∀ i, i ≤ endR first rs → i < behind → g i = M.sure i := fun i hi hb => by
        rw [mix_zero (hg i hb) (f1 i), f2 i (by omega)]
      exact hW.congr hf (fun i _ hb hi => hsame i (by omega) hb) (fun hl => by rw [hsame _ (Nat.le_refl _) hl]; exact hW.stop hl)
    · by_cases c3 : k = secs d.length + 2
      · have e : doneOps ((appOps first rs next d).take k) M = (atData M first rs d).written (endR first rs) (headL next d.length) := by
          unfold appOps
          rw [c3, List.take_append, wrs_len, chunks_len, List.take_of_length_le (by rw [wrs_len, chunks_len]; omega), show secs d.length + 2 - secs d.length = 2 by omega, doneOps_append]
          rfl
        rw [e] at hg
        have hwr : ∀ i, i ≠ endR first rs → ((atData M first rs d).written (endR first rs) (headL next d.length)).wr i = none := fun i hi => by
          show (if i = endR first rs then some (headL next d.length) else (atData M first rs d).wr i) = none
          rw [if_neg hi]; exact f1 i
        have hoth : ∀ i, i ≠ endR first rs → i < behind → g i = (atData M first rs d).sure i := fun i hi hb => mix_zero (M := (atData M first rs d).written (endR first rs) (headL next d.length)) (hg i hb) (hwr i hi)
        have hpre : ∀ i, i < endR first rs → i < behind → g i = M.sure i := fun i hi hb => by rw [hoth i (by omega) hb, f2 i (by omega)]
        have hat := hg (endR first rs) heb
        have hz : ((atData M first rs d).written (endR first rs) (headL next d.length)).sure (endR first rs) = zero64 := by
          show (atData M first rs d).sure _ = _
          rw [f2 _ (by omega)]; exact h.zero _ (Nat.le_refl _) heb
        have hget : ∃ c, g (endR first rs) = (headL next d.length).take c ++ zero64.drop c := by
          rcases hat with ⟨hw, _⟩ | ⟨l, c, hw, hb⟩
          · exfalso
            change (if endR first rs = endR first rs then some (headL next d.length) else _) = none at hw
            rw [if_pos rfl] at hw; cases hw
          · change (if endR first rs = endR first rs then some (headL next d.length) else _) = some l at hw
            rw [if_pos rfl] at hw
            injection hw with hw
            exact ⟨c, by rw [hb, hz, ← hw]⟩
        obtain ⟨c, hc⟩ := hget
        by_cases h64 : 64 ≤ c
        · right
          have hhead : g (endR first rs) = headL next d.length := by rw [hc, List.take_of_length_le (by rw [headL_len]; exact h64), List.drop_of_length_le (by simpa [zero64] using h64), List.append_nil]
          refine ⟨laid_more (h.laid.congr fun i _ hi => hpre i hi (by omega)) hn h1 h2 h3 hfit hhead ?_, ?_⟩
          · intro i hi; rw [hoth _ (by omega) (by omega)]; exact f3 i hi
          · rw [endR_append]
            intro hl
            change endR first rs + 1 + secs d.length < behind at hl
            show (g (endR first rs + 1 + secs d.length))[63]? = some 0
            rw [hoth _ (by omega) hl, f2 _ (by omega), h.zero _ (by omega) hl]
            simp [zero64]
        · left
          refine hW.congr hf (fun i _ hb hi => hpre i hi hb) (fun hl => ?_)
          have hcl : ((headL next d.length).take c).length = c := by rw [List.length_take, headL_len]; omega
          rw [hc, List.getElem?_append_right (by omega), hcl, List.getElem?_drop, show c + (63 - c) = 63 by omega]
          simp [zero64]
      · right
        have hk : (appOps first rs next d).take k = appOps first rs next d := List.take_of_length_le (by rw [appOps_len]; omega)
        rw [hk] at hg
        exact (append_all h hn h1 h2 h3 hfit).crash hf hg
end

/-- Wherever the power goes within a wiping of what is behind the records, these stay. -/
theorem wipe_cut {M : DM} {first behind : Nat} {rs : List Rec} {L : List Nat} (h : Whole M.sure first behind rs) (hc : Calm M) (hf : first ≤ behind) (hL : ∀ i ∈ L, endR first rs ≤ i)
    {k : Nat} {g : Nat → List UInt8} (hg : Crashes (doneOps ((wipeOps L).take k) M) behind g) : Whole g first behind rs := by
  have key : ∀ (M' : DM), (∀ i, i < endR first rs → M'.wr i = none ∧ M'.sure i = M.sure i) → (endR first rs < behind → (M'.sure (endR first rs))[63]? = some 0 ∧ (M'.wr (endR first rs) = none ∨ M'.wr (endR first rs) = some zero64)) → Crashes M' behind g → Whole g first behind rs := by
    intro M' h1 h2 h3
    refine h.congr hf (fun i _ hb hi => ?_) (fun hl => ?_)
    · rw [mix_zero (h3 i hb) (h1 i hi).1, (h1 i hi).2]
    · obtain ⟨h4, h5⟩ := h2 hl
      rcases h3 _ hl with ⟨_, hb⟩ | ⟨l, c, hw, hb⟩
      · rw [hb]; exact h4
      · have : l = zero64 := by
          rcases h5 with h5 | h5
          · rw [h5] at hw; cases hw
          · rw [h5] at hw; injection hw with hw; exact hw.symm
        rw [hb, this]
        by_cases h64 : 64 ≤ c
        · rw [List.take_of_length_le (by simpa [zero64] using h64), List.getElem?_append_left (by simp [zero64])]
          simp [zero64]
        · rw [List.getElem?_append_right (by simp [zero64]; omega)]
          have : (zero64.take c).length = c := by simp [zero64]; omega
          rw [this, List.getElem?_drop, show c + (63 - c) = 63 by omega]
          exact h4
  by_cases c1 : k ≤ L.length
  · have e : (wipeOps L).take k = zeroOps (L.take k) := by
      unfold wipeOps
      rw [List.take_append_of_le_length (by simpa [zeroOps] using c1), zeroOps_take]
    rw [e] at hg
    obtain ⟨q1, q2⟩ := done_zero (L.take k) M
    refine key _ (fun i hi => ⟨?_, by rw [q1]⟩) (fun hl => ⟨by rw [q1]; exact h.stop hl, ?_⟩) hg
    · rw [q2, if_neg (fun hm => by have := hL i (List.mem_of_mem_take hm); omega)]; exact hc i
    · rw [q2]
      split
      · exact .inr rfl
      · exact .inl (hc _)
  · have e : (wipeOps L).take k = wipeOps L := List.take_of_length_le (by simp [wipeOps, zeroOps]; omega)
    rw [e] at hg
    unfold wipeOps at hg
    rw [doneOps_append] at hg
    obtain ⟨q1, q2⟩ := done_zero L M
    refine key _ (fun i hi => ⟨rfl, ?_⟩) (fun hl => ⟨?_, .inl rfl⟩) hg
    · show ((doneOps (zeroOps L) M).wr i).getD ((doneOps (zeroOps L) M).sure i) = _
      rw [q2, if_neg (fun hm => by have := hL i hm; omega), hc i, q1]; rfl
    · show (((doneOps (zeroOps L) M).wr (endR first rs)).getD ((doneOps (zeroOps L) M).sure (endR first rs)))[63]? = _
      rw [q2]
      split
      · simp [zero64]
      · rw [hc, q1]; exact h.stop hl
end Go.Proofs.Ytdjcpjfomgfjlaa
