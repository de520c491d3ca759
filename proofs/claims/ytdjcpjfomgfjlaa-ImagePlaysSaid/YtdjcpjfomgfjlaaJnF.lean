/- Joined: LogC LogD LogH LogI LogJ ImgV ImgA ImgB LogV. -/
import Derived.Test.YtdjcpjfomgfjlaaJnE
/- Wherever the power goes within an Append, or an Open. -/
namespace Go.Proofs.Ytdjcpjfomgfjlaa

/-- Records that are whole, and behind them no head's end. -/
structure Whole (g : Nat → List UInt8) (first behind : Nat) (rs : List Rec) : Prop where
  laid : Laid g behind first none rs
  stop : endR first rs < behind → (g (endR first rs))[63]? = some 0
theorem Whole.scan {g : Nat → List UInt8} {first behind : Nat} {rs : List Rec} (h : Whole g first behind rs) : Go.Proofs.Ytdjcpjfomgfjlaa.scan g behind first none = rs := by
  rw [h.laid.scan, scan_none, List.append_nil]
  intro hl
  refine hdr_last ?_
  rw [h.stop hl]
  decide
structure Clean (M : DM) (first behind : Nat) (rs : List Rec) : Prop where
  calm : Calm M
  laid : Laid M.sure behind first none rs
  zero : ∀ i, endR first rs ≤ i → i < behind → M.sure i = zero64
theorem Clean.whole {M : DM} {first behind : Nat} {rs : List Rec} (h : Clean M first behind rs) : Whole M.sure first behind rs :=
  ⟨h.laid, fun hl => by rw [h.zero _ (Nat.le_refl _) hl]; simp [zero64]⟩
/-- A crash behind steps: each sector is as it was sure, as it was written, or a beginning of the one and the end of the other. -/
def Crashes (M : DM) (behind : Nat) (g : Nat → List UInt8) : Prop := ∀ i, i < behind → Mix M i (g i)
theorem crashes_left1 (M : DM) (h : M.full) (keep : List Bool) (torn cut : Int) {behind : Nat} (hb : behind ≤ M.size) : Crashes M behind (M.left1 keep torn cut) := fun _ hi => mix_left1 M h keep torn cut (by omega)
theorem Whole.congr {g g' : Nat → List UInt8} {first behind : Nat} {rs : List Rec} (h : Whole g first behind rs) (hf : first ≤ behind) (hg : ∀ i, first ≤ i → i < behind → i < endR first rs → g' i = g i)
    (he : endR first rs < behind → (g' (endR first rs))[63]? = some 0) : Whole g' first behind rs :=
  ⟨h.laid.congr (fun i h1 h2 => hg i h1 (by have := h.laid.end_le hf; omega) h2), he⟩
theorem Clean.crash {M : DM} {first behind : Nat} {rs : List Rec} {g : Nat → List UInt8} (h : Clean M first behind rs) (hf : first ≤ behind) (hg : Crashes M behind g) : Whole g first behind rs := by
  have e : ∀ i, i < behind → g i = M.sure i := fun i hi => mix_zero (hg i hi) (h.calm i)
  exact h.whole.congr hf (fun i _ h2 _ => e i h2) (fun hl => by rw [e _ hl]; exact h.whole.stop hl)

def appOps (first : Nat) (rs : List Rec) (next : Nat) (d : List UInt8) : List DOp :=
  wrs (endR first rs + 1) (chunks d) ++ (none :: some (endR first rs, headL next d.length) :: none :: [])
theorem appOps_len (first : Nat) (rs : List Rec) (next : Nat) (d : List UInt8) : (appOps first rs next d).length = secs d.length + 3 := by simp [appOps, wrs_len, chunks_len]
section
variable {M : DM} {first behind next : Nat} {rs : List Rec} {d : List UInt8}
/-- The disk behind the data's flush. -/
def atData (M : DM) (first : Nat) (rs : List Rec) (d : List UInt8) : DM := (doneOps (wrs (endR first rs + 1) (chunks d)) M).flushed
theorem atData_facts (hc : Calm M) : Calm (atData M first rs d) ∧ (∀ i, ¬ (endR first rs + 1 ≤ i ∧ i < endR first rs + 1 + secs d.length) → (atData M first rs d).sure i = M.sure i) ∧ ∀ i, i < secs d.length → some ((atData M first rs d).sure (endR first rs + 1 + i)) = (chunks d)[i]? := by
  obtain ⟨h1, h2⟩ := done_wrs (endR first rs + 1) (chunks d) M
  rw [chunks_len] at h2
  refine ⟨fun i => rfl, fun i hi => ?_, fun i hi => ?_⟩
  · show ((doneOps (wrs (endR first rs + 1) (chunks d)) M).wr i).getD ((doneOps (wrs (endR first rs + 1) (chunks d)) M).sure i) = _
    rw [h2, if_neg hi, hc i, h1]
    rfl
  · show some (((doneOps (wrs (endR first rs + 1) (chunks d)) M).wr _).getD ((doneOps (wrs (endR first rs + 1) (chunks d)) M).sure _)) = _
    rw [h2, if_pos (by omega), h1, show endR first rs + 1 + i - (endR first rs + 1) = i by omega, chunks_get d i hi]
    rfl
theorem laid_more {g : Nat → List UInt8} (hl : Laid g behind first none rs) (hn : nextR none rs = none ∨ nextR none rs = some next) (h1 : 1 ≤ next) (h2 : next ≤ 4611686018427387904) (h3 : d.length ≤ 4000)
    (hfit : endR first rs + secs d.length < behind) (hh : g (endR first rs) = headL next d.length) (hd : ∀ i, i < secs d.length → some (g (endR first rs + 1 + i)) = (chunks d)[i]?) : Laid g behind first none (rs ++ [(next, d)]) :=
  Laid.append.2 ⟨hl, by rw [hh]; exact hdr_head h1 h2 h3, hn, hfit, cat_chunks d g _ hd, trivial⟩
theorem append_all (h : Clean M first behind rs) (hn : nextR none rs = none ∨ nextR none rs = some next) (h1 : 1 ≤ next) (h2 : next ≤ 4611686018427387904) (h3 : d.length ≤ 4000)
    (hfit : endR first rs + secs d.length < behind) : Clean (doneOps (appOps first rs next d) M) first behind (rs ++ [(next, d)]) := by
  obtain ⟨f1, f2, f3⟩ := atData_facts (first := first) (rs := rs) (d := d) h.calm
  have e : doneOps (appOps first rs next d) M = ((atData M first rs d).written (endR first rs) (headL next d.length)).flushed := by
    unfold appOps
    rw [doneOps_append]
    rfl
  have hs : ∀ i, ((atData M first rs d).written (endR first rs) (headL next d.length)).flushed.sure i = if i = endR first rs then headL next d.length else (atData M first rs d).sure i := by
    intro i
    show ((if i = endR first rs then some (headL next d.length) else (atData M first rs d).wr i)).getD ((atData M first rs d).sure i) = _
    by_cases hi : i = endR first rs
    · rw [if_pos hi, if_pos hi]; rfl
    · rw [if_neg hi, if_neg hi, f1 i]; rfl
  rw [e]
  refine ⟨fun i => rfl, laid_more ?_ hn h1 h2 h3 hfit ?_ ?_, fun i hi hb => ?_⟩
  · exact h.laid.congr fun i _ hi => by rw [hs, if_neg (by omega), f2 i (by omega)]
  · rw [hs, if_pos rfl]
  · intro i hi; rw [hs, if_neg (by omega)]; exact f3 i hi
  · rw [endR_append] at hi
    change endR first rs + 1 + secs d.length ≤ i at hi
    rw [hs, if_neg (by omega), f2 i (by omega)]
    exact h.zero i (by omega) hb
/-- Wherever the power goes within an Append: the records, or these and the new one. -/
theorem append_cut (h : Clean M first behind rs) (hf : first ≤ behind) (hn : nextR none rs = none ∨ nextR none rs = some next) (h1 : 1 ≤ next) (h2 : next ≤ 4611686018427387904) (h3 : d.length ≤ 4000)
    (hfit : endR first rs + secs d.length < behind) {k : Nat} {g : Nat → List UInt8} (hg : Crashes (doneOps ((appOps first rs next d).take k) M) behind g) :
    Whole g first behind rs ∨ Whole g first behind (rs ++ [(next, d)]) := by
  have hW := h.whole
  have heb : endR first rs < behind := by omega
  by_cases c1 : k ≤ secs d.length
  · left
    have e : (appOps first rs next d).take k = wrs (endR first rs + 1) ((chunks d).take k) := by
      unfold appOps
      rw [List.take_append_of_le_length (by rw [wrs_len, chunks_len]; exact c1), wrs_take]
    rw [e] at hg
    obtain ⟨q1, q2⟩ := done_wrs (endR first rs + 1) ((chunks d).take k) M
    have hsame : ∀ i, i ≤ endR first rs → i < behind → g i = M.sure i := fun i hi hb => by
      have := mix_zero (hg i hb) (by rw [q2, if_neg (by omega)]; exact h.calm i)
      rw [this, q1]
    exact hW.congr hf (fun i _ hb hi => hsame i (by omega) hb) (fun hl => by rw [hsame _ (Nat.le_refl _) hl]; exact hW.stop hl)
  · obtain ⟨f1, f2, f3⟩ := atData_facts (first := first) (rs := rs) (d := d) h.calm
    by_cases c2 : k = secs d.length + 1
    · left
      have e : doneOps ((appOps first rs next d).take k) M = atData M first rs d := by
        unfold appOps
        rw [c2, List.take_append, wrs_len, chunks_len, List.take_of_length_le (by rw [wrs_len, chunks_len]; omega), show secs d.length + 1 - secs d.length = 1 by omega, doneOps_append]
        rfl
      rw [e] at hg
      have hsame : ∀ i, i ≤ endR first rs → i < behind → g i = M.sure i := fun i hi hb => by
        rw [mix_zero (hg i hb) (f1 i), f2 i (by omega)]
      exact hW.congr hf (fun i _ hb hi => hsame i (by omega) hb) (fun hl => by rw [hsame _ (Nat.le_refl _) hl]; exact hW.stop hl)
    · by_cases c3 : k = secs d.length + 2
      · have e : doneOps ((appOps first rs next d).take k) M = (atData M first rs d).written (endR first rs) (headL next d.length) := by
          unfold appOps
          rw [c3, List.take_append, wrs_len, chunks_len, List.take_of_length_le (by rw [wrs_len, chunks_len]; omega), show secs d.length + 2 - secs d.length = 2 by omega, doneOps_append]
          rfl
        rw [e] at hg
        have hwr : ∀ i, i ≠ endR first rs → ((atData M first rs d).written (endR first rs) (headL next d.length)).wr i = none := fun i hi => by
          show (if i = endR first rs then some (headL next d.length) else (atData M first rs d).wr i) = none
          rw [if_neg hi]; exact f1 i
        have hoth : ∀ i, i ≠ endR first rs → i < behind → g i = (atData M first rs d).sure i := fun i hi hb => mix_zero (M := (atData M first rs d).written (endR first rs) (headL next d.length)) (hg i hb) (hwr i hi)
        have hpre : ∀ i, i < endR first rs → i < behind → g i = M.sure i := fun i hi hb => by rw [hoth i (by omega) hb, f2 i (by omega)]
        have hat := hg (endR first rs) heb
        have hz : ((atData M first rs d).written (endR first rs) (headL next d.length)).sure (endR first rs) = zero64 := by
          show (atData M first rs d).sure _ = _
          rw [f2 _ (by omega)]; exact h.zero _ (Nat.le_refl _) heb
        have hget : ∃ c, g (endR first rs) = (headL next d.length).take c ++ zero64.drop c := by
          rcases hat with ⟨hw, _⟩ | ⟨l, c, hw, hb⟩
          · exfalso
            change (if endR first rs = endR first rs then some (headL next d.length) else _) = none at hw
            rw [if_pos rfl] at hw; cases hw
          · change (if endR first rs = endR first rs then some (headL next d.length) else _) = some l at hw
            rw [if_pos rfl] at hw
            injection hw with hw
            exact ⟨c, by rw [hb, hz, ← hw]⟩
        obtain ⟨c, hc⟩ := hget
        by_cases h64 : 64 ≤ c
        · right
          have hhead : g (endR first rs) = headL next d.length := by rw [hc, List.take_of_length_le (by rw [headL_len]; exact h64), List.drop_of_length_le (by simpa [zero64] using h64), List.append_nil]
          refine ⟨laid_more (h.laid.congr fun i _ hi => hpre i hi (by omega)) hn h1 h2 h3 hfit hhead ?_, ?_⟩
          · intro i hi; rw [hoth _ (by omega) (by omega)]; exact f3 i hi
          · rw [endR_append]
            intro hl
            change endR first rs + 1 + secs d.length < behind at hl
            show (g (endR first rs + 1 + secs d.length))[63]? = some 0
            rw [hoth _ (by omega) hl, f2 _ (by omega), h.zero _ (by omega) hl]
            simp [zero64]
        · left
          refine hW.congr hf (fun i _ hb hi => hpre i hi hb) (fun hl => ?_)
          have hcl : ((headL next d.length).take c).length = c := by rw [List.length_take, headL_len]; omega
          rw [hc, List.getElem?_append_right (by omega), hcl, List.getElem?_drop, show c + (63 - c) = 63 by omega]
          simp [zero64]
      · right
        have hk : (appOps first rs next d).take k = appOps first rs next d := List.take_of_length_le (by rw [appOps_len]; omega)
        rw [hk] at hg
        exact (append_all h hn h1 h2 h3 hfit).crash hf hg
end

/-- Wherever the power goes within a wiping of what is behind the records, these stay. -/
theorem wipe_cut {M : DM} {first behind : Nat} {rs : List Rec} {L : List Nat} (h : Whole M.sure first behind rs) (hc : Calm M) (hf : first ≤ behind) (hL : ∀ i ∈ L, endR first rs ≤ i)
    {k : Nat} {g : Nat → List UInt8} (hg : Crashes (doneOps ((wipeOps L).take k) M) behind g) : Whole g first behind rs := by
  have key : ∀ (M' : DM), (∀ i, i < endR first rs → M'.wr i = none ∧ M'.sure i = M.sure i) → (endR first rs < behind → (M'.sure (endR first rs))[63]? = some 0 ∧ (M'.wr (endR first rs) = none ∨ M'.wr (endR first rs) = some zero64)) → Crashes M' behind g → Whole g first behind rs := by
    intro M' h1 h2 h3
    refine h.congr hf (fun i _ hb hi => ?_) (fun hl => ?_)
    · rw [mix_zero (h3 i hb) (h1 i hi).1, (h1 i hi).2]
    · obtain ⟨h4, h5⟩ := h2 hl
      rcases h3 _ hl with ⟨_, hb⟩ | ⟨l, c, hw, hb⟩
      · rw [hb]; exact h4
      · have : l = zero64 := by
          rcases h5 with h5 | h5
          · rw [h5] at hw; cases hw
          · rw [h5] at hw; injection hw with hw; exact hw.symm
        rw [hb, this]
        by_cases h64 : 64 ≤ c
        · rw [List.take_of_length_le (by simpa [zero64] using h64), List.getElem?_append_left (by simp [zero64])]
          simp [zero64]
        · rw [List.getElem?_append_right (by simp [zero64]; omega)]
          have : (zero64.take c).length = c := by simp [zero64]; omega
          rw [this, List.getElem?_drop, show c + (63 - c) = 63 by omega]
          exact h4
  by_cases c1 : k ≤ L.length
  · have e : (wipeOps L).take k = zeroOps (L.take k) := by
      unfold wipeOps
      rw [List.take_append_of_le_length (by simpa [zeroOps] using c1), zeroOps_take]
    rw [e] at hg
    obtain ⟨q1, q2⟩ := done_zero (L.take k) M
    refine key _ (fun i hi => ⟨?_, by rw [q1]⟩) (fun hl => ⟨by rw [q1]; exact h.stop hl, ?_⟩) hg
    · rw [q2, if_neg (fun hm => by have := hL i (List.mem_of_mem_take hm); omega)]; exact hc i
    · rw [q2]
      split
      · exact .inr rfl
      · exact .inl (hc _)
  · have e : (wipeOps L).take k = wipeOps L := List.take_of_length_le (by simp [wipeOps, zeroOps]; omega)
    rw [e] at hg
    unfold wipeOps at hg
    rw [doneOps_append] at hg
    obtain ⟨q1, q2⟩ := done_zero L M
    refine key _ (fun i hi => ⟨rfl, ?_⟩) (fun hl => ⟨?_, .inl rfl⟩) hg
    · show ((doneOps (zeroOps L) M).wr i).getD ((doneOps (zeroOps L) M).sure i) = _
      rw [q2, if_neg (fun hm => by have := hL i hm; omega), hc i, q1]; rfl
    · show (((doneOps (zeroOps L) M).wr (endR first rs)).getD ((doneOps (zeroOps L) M).sure (endR first rs)))[63]? = _
      rw [q2]
      split
      · simp [zero64]
      · rw [hc, q1]; exact h.stop hl
end Go.Proofs.Ytdjcpjfomgfjlaa
/- Wherever the power goes within a Reset. -/
namespace Go.Proofs.Ytdjcpjfomgfjlaa

def heads : Nat → List Rec → List Nat
  | _, [] => []
  | a, (_, d) :: r => a :: heads (a + 1 + secs d.length) r
def others : Nat → List Rec → List Nat
  | _, [] => []
  | a, (_, d) :: r => ((List.range (secs d.length)).map fun i => a + 1 + i) ++ others (a + 1 + secs d.length) r
theorem heads_ge {i : Nat} : ∀ {a : Nat} {rs : List Rec}, i ∈ heads a rs → a ≤ i ∧ i < endR a rs
  | a, (s, d) :: r, h => by
    have hle := endR_le (a + 1 + secs d.length) r
    rcases List.mem_cons.1 h with rfl | h
    · refine ⟨Nat.le_refl _, ?_⟩; show _ < endR (_ + 1 + secs d.length) r; omega
    · have := heads_ge h; refine ⟨by omega, ?_⟩; show _ < endR (_ + 1 + secs d.length) r; omega
theorem others_ge {i : Nat} : ∀ {a : Nat} {rs : List Rec}, i ∈ others a rs → a < i ∧ i < endR a rs
  | a, (s, d) :: r, h => by
    have hle := endR_le (a + 1 + secs d.length) r
    rcases List.mem_append.1 h with h | h
    · obtain ⟨j, hj, rfl⟩ := List.mem_map.1 h
      have := List.mem_range.1 hj
      refine ⟨by omega, ?_⟩; show _ < endR (_ + 1 + secs d.length) r; omega
    · have := others_ge h; refine ⟨by omega, ?_⟩; show _ < endR (_ + 1 + secs d.length) r; omega
theorem apart {i : Nat} : ∀ {a : Nat} {rs : List Rec}, i ∈ heads a rs → i ∉ others a rs
  | a, (s, d) :: r, h, h' => by
    rcases List.mem_cons.1 h with rfl | h
    · have := others_ge h'; omega
    · rcases List.mem_append.1 h' with h' | h'
      · obtain ⟨j, hj, rfl⟩ := List.mem_map.1 h'
        have := List.mem_range.1 hj
        have := heads_ge h
        omega
      · exact apart h h'
theorem heads_len (a : Nat) (rs : List Rec) : (heads a rs).length = rs.length := by
  induction rs generalizing a with
  | nil => rfl
  | cons x r ih => obtain ⟨s, d⟩ := x; simp [heads, ih]
/-- With some heads gone the records ahead of the first of them are left. -/
theorem scan_less {g g' : Nat → List UInt8} {behind : Nat} : ∀ {a : Nat} {nx : Option Nat} {rs : List Rec}, Laid g behind a nx rs → (∀ i ∈ heads a rs, g' i = g i ∨ hdr (g' i) = none) → (∀ i ∈ others a rs, g' i = g i) →
    (endR a rs < behind → hdr (g' (endR a rs)) = none) → scan g' behind a nx <+: rs
  | a, nx, [], _, _, _, h4 => by rw [scan_none (a := a) (fun h => h4 h)]; exact List.prefix_refl _
  | a, nx, (s, d) :: r, ⟨h1, h2, h3, h4, h5⟩, hh, ho, he => by
    rcases hh a (by simp [heads]) with e | e
    · have hc : ∀ i, i < secs d.length → g' (a + 1 + i) = g (a + 1 + i) := fun i hi => ho _ (List.mem_append_left _ (List.mem_map.2 ⟨i, List.mem_range.2 hi, rfl⟩))
      rw [scan_some (by rw [e]; exact h1) h2 h3, cat_congr hc, h4]
      exact (List.prefix_cons_inj _).2 (scan_less h5 (fun i hi => hh i (List.mem_cons_of_mem _ hi)) (fun i hi => ho i (List.mem_append_right _ hi)) he)
    · rw [scan_none (fun _ => e)]; exact List.nil_prefix
def rstOps (first : Nat) (rs : List Rec) : List DOp := if rs = [] then [] else wipeOps (heads first rs) ++ wipeOps (others first rs)
/-- Wherever the power goes within a Reset: the records ahead of some one, or all, or none. -/
theorem reset_cut {M : DM} {first behind : Nat} {rs : List Rec} (h : Clean M first behind rs) {k : Nat} {g : Nat → List UInt8} (hg : Crashes (doneOps ((rstOps first rs).take k) M) behind g) (hf : first ≤ behind) :
    scan g behind first none <+: rs ∧ ((rstOps first rs).length ≤ k → scan g behind first none = []) := by
  by_cases h0 : rs = []
  · subst h0
    have hg' : Crashes M behind g := by simpa [rstOps, doneOps] using hg
    have := (h.crash hf hg').scan
    exact ⟨by rw [this]; exact List.prefix_refl _, fun _ => this⟩
  · have hops : rstOps first rs = wipeOps (heads first rs) ++ wipeOps (others first rs) := if_neg h0
    have hwl : (wipeOps (heads first rs)).length = rs.length + 1 := by simp [wipeOps, zeroOps, heads_len]
    have hend := h.laid.end_le hf
    by_cases c1 : k ≤ rs.length
    · have e : (rstOps first rs).take k = zeroOps ((heads first rs).take k) := by
        rw [hops, List.take_append_of_le_length (by omega)]
        unfold wipeOps
        rw [List.take_append_of_le_length (by simp [zeroOps, heads_len]; omega), zeroOps_take]
      rw [e] at hg
      obtain ⟨q1, q2⟩ := done_zero ((heads first rs).take k) M
      refine ⟨?_, fun hl => by rw [hops, List.length_append, hwl] at hl; omega⟩
      refine scan_less h.laid (fun i hi => ?_) (fun i hi => ?_) (fun hl => ?_)
      · have hib := heads_ge hi
        rcases hg i (by omega) with ⟨hw, hb⟩ | ⟨l, c, hw, hb⟩
        · left; rw [hb, q1]
        · rw [q2] at hw
          split at hw
          · injection hw with hw
            by_cases hc : c = 0
            · left; rw [hb, hc, q1]; simp
            · right
              refine hdr_first ?_
              rw [hb, ← hw, List.getElem?_append_left (by simp [zero64]; omega), List.getElem?_take_of_lt (by omega)]
              simp [zero64]
          · rw [h.calm i] at hw; cases hw
      · have hib := others_ge hi
        rw [mix_zero (hg i (by omega)) (by rw [q2, if_neg (fun hm => apart (List.mem_of_mem_take hm) hi)]; exact h.calm i), q1]
      · rw [mix_zero (hg _ hl) (by rw [q2, if_neg (fun hm => by have := heads_ge (List.mem_of_mem_take hm); omega)]; exact h.calm _), q1, h.zero _ (Nat.le_refl _) hl]
        exact hdr_zero
    · have hz : first < behind → g first = zero64 := by
        intro hl
        obtain ⟨j, hj⟩ : ∃ j, k = rs.length + 1 + j := ⟨k - (rs.length + 1), by omega⟩
        have e : (rstOps first rs).take k = wipeOps (heads first rs) ++ (wipeOps (others first rs)).take j := by
          rw [hops, List.take_append, List.take_of_length_le (by omega), hwl, show k - (rs.length + 1) = j by omega]
        rw [e, doneOps_append] at hg
        have hmem : first ∈ heads first rs := by
          cases rs with
          | nil => exact absurd rfl h0
          | cons x r => obtain ⟨s, d⟩ := x; simp [heads]
        have hno : first ∉ others first rs := apart hmem
        obtain ⟨q1, q2⟩ := done_zero (heads first rs) M
        have hs1 : (doneOps (wipeOps (heads first rs)) M).sure first = zero64 ∧ (doneOps (wipeOps (heads first rs)) M).wr first = none := by
          unfold wipeOps
          rw [doneOps_append]
          refine ⟨?_, rfl⟩
          show ((doneOps (zeroOps (heads first rs)) M).wr first).getD _ = _
          rw [q2, if_pos hmem]; rfl
        generalize doneOps (wipeOps (heads first rs)) M = M1 at hs1 hg
        have hs2 : (doneOps ((wipeOps (others first rs)).take j) M1).sure first = zero64 ∧ (doneOps ((wipeOps (others first rs)).take j) M1).wr first = none := by
          by_cases c2 : j ≤ (others first rs).length
          · have e2 : (wipeOps (others first rs)).take j = zeroOps ((others first rs).take j) := by
              unfold wipeOps
              rw [List.take_append_of_le_length (by simpa [zeroOps] using c2), zeroOps_take]
            obtain ⟨p1, p2⟩ := done_zero ((others first rs).take j) M1
            rw [e2, p1, p2, if_neg (fun hm => hno (List.mem_of_mem_take hm))]
            exact hs1
          · have e2 : (wipeOps (others first rs)).take j = wipeOps (others first rs) := List.take_of_length_le (by simp [wipeOps, zeroOps]; omega)
            obtain ⟨p1, p2⟩ := done_zero (others first rs) M1
            rw [e2]
            unfold wipeOps
            rw [doneOps_append]
            refine ⟨?_, rfl⟩
            show ((doneOps (zeroOps (others first rs)) M1).wr first).getD ((doneOps (zeroOps (others first rs)) M1).sure first) = _
            rw [p2, if_neg hno, hs1.2, p1]
            exact hs1.1
        rw [mix_zero (hg first hl) hs2.2, hs2.1]
      have hs : scan g behind first none = [] := scan_none (fun hl => by rw [hz hl]; exact hdr_zero)
      exact ⟨by rw [hs]; exact List.nil_prefix, fun _ => hs⟩
end Go.Proofs.Ytdjcpjfomgfjlaa
/- data, heads, others. -/
namespace Go.Proofs.Ytdjcpjfomgfjlaa
open Go.RowKit Go.Maps

/-- A slice of the call's own, read. -/
def Own (w w' : World) (l : List UInt8) (e : Ending) : Prop :=
  ∃ A c, e = .returned (.slice A l.length c) ∧ (∀ a, A = some a → w.heap.size ≤ a.block ∧ ∃ cs, w'.heap[a.block]? = some (.cells cs 5 (0, 0))) ∧ Rd w' w'.heap.size A (u8s l) ∧ l.length ≤ c ∧ c ≤ maxLen ∧ Below w.heap.size w w'
theorem own_typed {w : World} {base size n c : Nat} {e : TypeId} {A : Option Addr} {xs : List Value} (h : w.ownsRow base e size (.slice A n c) n xs) : ∀ a, A = some a → ∃ cs, w.heap[a.block]? = some (.cells cs e (0, 0)) := by
  intro a ha
  rcases h.2 with ⟨hv, _⟩ | ⟨g, cap, cur, hv, _, hgg, _⟩
  · cases hv; cases ha
  · cases hv; cases ha
    exact ⟨_, hgg⟩
theorem cat_take_len (M : DM) (a n : Nat) (h : ∀ i, i < secs n → (M.get (a + i)).length = 64) : ((cat M.get a (secs n)).take n).length = n := by
  rw [List.length_take, cat_len h]
  unfold secs
  omega

set_option maxRecDepth 100000 in
set_option maxHeartbeats 2000000 in
theorem data_any {w : World} {base q p bs bw T : Nat} {L : LG} {v : Value} {M : DM} (h : LogAt w base q p L v) (hD : DiskM w p bs bw M T) (hz : M.size ≤ 4096) (n : Nat) (hn : n ≤ 4000) (hfit : L.endd + secs n < M.size) :
    Calls Try.prog 71 #[.pointer (some ⟨q, 0, none⟩), .int .i64 (n : Int)] w fun e w' => Own w w' ((cat M.get (L.endd + 1) (secs n)).take n) e := by
  obtain ⟨i0, hi, hz0, hz1, hz2⟩ := info_parts infoU8
  have hsec := secs_any n w (by omega)
  have hss : secs n ≤ 63 := by unfold secs; omega
  have hfull := hD.full
  have HS := Lib.hid hsec
  have hlen : ∀ k, k ≤ secs n → (cat M.get (L.endd + 1) k).length = 64 * k := fun k hk => cat_len (fun i hi => (hfull _ (by omega)).2)
  have HL := Lib.hid hlen
  have HH := Lib.hid (And.intro h (And.intro hD (And.intro hz (And.intro hn (And.intro hfit hss)))))
  have hsI : (secs n : Int) ≤ 63 := by omega
  have hnI : (n : Int) ≤ 4000 := by omega
  clear hsec hlen h hD hz hfit hfull hn hss
  go_enter Try.func71, Try.ntmps71
  go_upto_region 3 with (first
    | (go_at_call 70; (with_reducible refine HS.out.mono ?_); rintro e w1 ⟨rfl, rfl⟩)
    | go_in)
  go_wp2_with go_in
  go_loopw [5, 6, 9] (fun u _ i wr => ∃ k : Nat, k ≤ secs n ∧ i = .int .i64 (k : Int) ∧ OwnB wr w.heap.size 5 u (cat M.get (L.endd + 1) k) ∧ Below w.heap.size w wr)
    (fun _ _ i _ => secs n - (intOf i).toNat)
  case atStart => exact ⟨0, by omega, rfl, OwnB.nil _ _ _, Below.refl _ _⟩
  case round =>
    obtain ⟨k, hk, rfl, ho, hb⟩ := hrel
    by_cases hkl : k < secs n
    · have hkI : (k : Int) < (secs n : Int) := by omega
      have hblk := ((HH.out.1.kept hb).blk)
      unfold LG.cells at hblk
      have a3 := cell_of_row wr q 3 _ _ _ hblk
      have hsc := sector_any (HH.out.1.kept hb) (HH.out.2.1.kept hb) HH.out.2.2.1 (i := L.endd + 1 + k) (by have := HH.out.2.2.2.2.1; omega)
      have hcast : (((L.endd + 1 + k : Nat)) : Int) = (L.endd : Int) + 1 + (k : Int) := by omega
      rw [hcast] at hsc
      have hend : (L.endd : Int) ≤ 4096 := by have := HH.out.2.2.2.2.1; have := HH.out.2.2.1; omega
      obtain ⟨Ao, co, rfl, _, _, _⟩ := ho.shape
      have HSC := Lib.hid hsc
      have HX := Lib.hid (And.intro ho (And.intro hb hkl))
      have HSZ := Lib.hid hb.size
      clear hsc hcast hblk ho hb hkl
      go_wp2_with (first
        | (go_at_call 69; (with_reducible refine HSC.out.mono ?_); rintro e w2 ⟨g2, rfl, hg1, hg2, hr2, hl2, hb2⟩)
        | (at_builtin; refine wpList_appB _ rfl (.tmp 12) (.tmp 21) _ rfl w.heap.size 5 i0 _ Try.underlying45 hi hz0 hz1 hz2 rfl (.slice Ao (cat M.get (L.endd + 1) k).length co) (cat M.get (L.endd + 1) k) rfl (HX.out.1.below hb2 (Nat.le_refl _)) _ (some ⟨g2, 0, none⟩) 64 64 (M.get (L.endd + 1 + k)) rfl hl2.symm hr2 (by have := HL.out k (by omega); omega) (by have := HSZ.out; have := hb2.size; omega) ?_; intro v3 w3 hown3 hg3 hat3)
        | go_in)
      have hsz2 := hb2.size
      have hown2 := HX.out.1.below hb2 (Nat.le_refl _)
      have hb3 : Below w.heap.size w w3 := (HX.out.2.1.trans (lower' hb2 HSZ.out)).trans (grown_below' hg3 (fun j hj => (World.ownsRow.lt (by have h := hown2; unfold OwnB at h; exact h) j hj).1) (by have := HSZ.out; omega))
      exact ⟨⟨k + 1, HX.out.2.2, by simp, by rw [cat_succ]; exact hown3, hb3⟩, by simp [intOf]; have := HX.out.2.2; omega⟩
    · obtain rfl : k = secs n := by omega
      obtain ⟨Ao, co, rfl, hc1, hc2, hr2⟩ := ho.shape
      have hl := HL.out (secs n) (Nat.le_refl _)
      have hq : n ≤ 64 * secs n := by unfold secs; omega
      have hnl : (n : Int) ≤ (co : Int) := by omega
      have HX := Lib.hid (And.intro ho (And.intro hb (And.intro hc1 (And.intro hc2 (And.intro hr2 hl)))))
      have HQ := Lib.hid hq
      clear ho hb hc1 hc2 hr2 hl hk hq
      go_wp2_with go_in
      go_ret
      have hx := HX.out
      have hq := HQ.out
      have htl : ((cat M.get (L.endd + 1) (secs n)).take n).length = n := by rw [List.length_take, hx.2.2.2.2.2]; omega
      refine ⟨Ao, co, by rw [htl]; rfl, fun a ha => ⟨hx.2.2.2.2.1.2 a ha, own_typed (by have h := hx.1; unfold OwnB at h; exact h) a ha⟩, ?_, by rw [htl]; omega, hx.2.2.2.1, hx.2.1⟩
      rw [u8s_take]
      exact hx.2.2.2.2.1.1.take _

/-- The k-th place. -/
theorem plc_get (r : List Rec) : ∀ (a i : Nat) (h : i < r.length), ∃ x : Nat, (heads a r)[i]? = some x ∧ (plc a r)[i * 2]? = some (.int .i64 (x : Int)) ∧ (plc a r)[i * 2 + 1]? = some (.int .i64 (secs (r[i].2).length : Int)) := by
  induction r with
  | nil => intro a i h; exact absurd h (by simp)
  | cons y r ih =>
    obtain ⟨s, d⟩ := y
    intro a i h
    cases i with
    | zero => exact ⟨a, rfl, rfl, rfl⟩
    | succ i =>
      obtain ⟨x, h1, h2, h3⟩ := ih (a + 1 + secs d.length) i (by simpa using h)
      refine ⟨x, by simpa [heads] using h1, ?_, ?_⟩
      · rw [show (i + 1) * 2 = i * 2 + 2 by omega]; simpa [plc] using h2
      · rw [show (i + 1) * 2 + 1 = i * 2 + 1 + 2 by omega]; simpa [plc] using h3
theorem heads_take (r : List Rec) (a k x : Nat) (h : (heads a r)[k]? = some x) : (heads a r).take (k + 1) = (heads a r).take k ++ [x] := by
  obtain ⟨hk, e⟩ := List.getElem?_eq_some_iff.1 h
  rw [List.take_succ_eq_append_getElem hk, e]
theorem rd_two (wr : World) (x m : Nat) : Rd ((wr.alloc (.cells #[.int .i64 (x : Int), .int .i64 (m : Int)] 134)).alloc (.cells #[.int .i64 (x : Int)] 3)) (wr.heap.size + 2) (some ⟨wr.heap.size + 1, 0, none⟩) [.int .i64 (x : Int)] := by
  have := Rd.new (wr.alloc (.cells #[.int .i64 (x : Int), .int .i64 (m : Int)] 134)) #[.int .i64 (x : Int)] 3 (0, 0)
  rw [alloc1_size] at this
  exact this
set_option maxRecDepth 100000 in
set_option maxHeartbeats 2000000 in
theorem heads_any {w : World} {base q p : Nat} {L : LG} {v : Value} (h : LogAt w base q p L v) (hlen : L.recs.length ≤ 4096) :
    Calls Try.prog 49 #[.pointer (some ⟨q, 0, none⟩)] w fun e w' => ∃ v', e = .returned v' ∧ w'.ownsRow w.heap.size 3 1 v' (heads L.first L.recs).length (ints (heads L.first L.recs)) ∧ Below w.heap.size w w' := by
  obtain ⟨i0, hi, hz0, hz1, hz2⟩ := info_parts infoInt
  have hblk := h.blk
  unfold LG.cells at hblk
  have a5 := cell_of_row w q 5 _ _ _ hblk
  have hhl := heads_len L.first L.recs
  obtain ⟨Ap, cp, rfl, _, _, hrp⟩ := own_shape h.row
  have HH := Lib.hid (And.intro h (And.intro hlen (And.intro hhl hrp)))
  have hlI : (L.recs.length : Int) ≤ 4096 := by omega
  clear h hblk hlen hhl hrp
  go_enter Try.func49, Try.ntmps49
  go_wp2_with go_in
  go_loopw [3, 5, 11] (fun u _ i wr => ∃ k : Nat, k ≤ L.recs.length ∧ i = .int .i64 (k : Int) ∧ wr.ownsRow w.heap.size 3 1 u k (ints ((heads L.first L.recs).take k)) ∧ Below w.heap.size w wr)
    (fun _ _ i _ => L.recs.length - (intOf i).toNat)
  case atStart => exact ⟨0, by omega, rfl, by have := World.ownsRow_nil w w.heap.size 3 1; simpa [ints] using this, Below.refl _ _⟩
  case round =>
    obtain ⟨k, hk, rfl, ho, hb⟩ := hrel
    by_cases hkl : k < L.recs.length
    · have hkI : (k : Int) < (L.recs.length : Int) := by omega
      obtain ⟨x, e1, e2, e3⟩ := plc_get L.recs L.first k hkl
      obtain ⟨ab, ao, rfl, hab, hcc⟩ := HH.out.2.2.2 (by intro e; have := plc_len L.first L.recs; rw [e] at this; simp at this; omega)
      have p0 : wr.cell? ⟨ab, ao + k * 2, none⟩ = some (.int .i64 (x : Int)) := (hb.cell (p := ⟨ab, ao + k * 2, none⟩) hab).trans (hcc _ _ e2)
      have p1 : wr.cell? ⟨ab, ao + k * 2 + 1, none⟩ = some (.int .i64 (secs (L.recs[k].2).length : Int)) := (hb.cell (p := ⟨ab, ao + k * 2 + 1, none⟩) hab).trans (hcc _ _ e3)
      generalize secs (L.recs[k].2).length = m at p1
      have htk := heads_take L.recs L.first k x e1
      have HX := Lib.hid (And.intro ho (And.intro hb (And.intro hkl htk)))
      obtain ⟨Ao, co, rfl, _, _, _⟩ := own_shape ho
      have HSZ := Lib.hid hb.size
      clear ho hb e1 e2 e3 hcc htk hkl
      go_wp2_with (first
        | (at_builtin; refine wpList_appR _ rfl (.tmp 15) (.tmp 18) _ rfl w.heap.size 3 i0 _ 1 8 Try.underlying88 hi hz0 hz1 hz2 rfl (by omega) (.slice Ao k co) k (ints ((heads L.first L.recs).take k)) rfl (World.ownsRow.alloc (World.ownsRow.alloc HX.out.1 _) _) (wr.heap.size + 2) (some ⟨wr.heap.size + 1, 0, none⟩) 1 1 [.int .i64 (x : Int)] rfl rfl (rd_two wr x m) (by simp [Value.oneCell']) (by have := HX.out.2.2.1; have := HH.out.2.1; omega) (by omega) (by have := HSZ.out; simp; omega) ?_; intro v2 w2 hown2 hg2 hat2)
        | go_in)
      rw [ints_snoc, ← HX.out.2.2.2] at hown2
      have hb2 : Below w.heap.size w w2 := ((HX.out.2.1.alloc HSZ.out _).alloc (by have := HSZ.out; simp; omega) _).trans (grown_below' hg2 (fun j hj => (World.ownsRow.lt HX.out.1 j hj).1) (by have := HSZ.out; simp; omega))
      exact ⟨⟨k + 1, HX.out.2.2.1, by simp, hown2, hb2⟩, by simp [intOf]; have := HX.out.2.2.1; omega⟩
    · obtain rfl : k = L.recs.length := by omega
      have HX := Lib.hid (And.intro ho hb)
      clear ho hb
      go_wp2_with go_in
      go_ret
      refine ⟨_, rfl, ?_, HX.out.2⟩
      have h := HX.out.1
      rw [List.take_of_length_le (by rw [heads_len]; exact Nat.le_refl _)] at h
      rw [heads_len]
      exact h

/-- The other sectors of the first k records, and i of the next one. -/
def oth (a : Nat) (r : List Rec) (k i : Nat) : List Nat := others a (r.take k) ++ (List.range i).map fun j => endR a (r.take k) + 1 + j
theorem oth_snoc (a : Nat) (r : List Rec) (k i : Nat) : oth a r k (i + 1) = oth a r k i ++ [endR a (r.take k) + 1 + i] := by
  unfold oth
  rw [List.range_succ, List.map_append, ← List.append_assoc]
  rfl
theorem others_append (a : Nat) (r r' : List Rec) : others a (r ++ r') = others a r ++ others (endR a r) r' := by
  induction r generalizing a with
  | nil => rfl
  | cons x r ih => obtain ⟨s, d⟩ := x; simp only [List.cons_append, others, endR, ih, List.append_assoc]
theorem oth_next (a : Nat) (r : List Rec) (k : Nat) (h : k < r.length) : oth a r k (secs (r[k].2).length) = oth a r (k + 1) 0 := by
  unfold oth
  have e : r.take (k + 1) = r.take k ++ [r[k]] := List.take_succ_eq_append_getElem h
  rw [e, others_append]
  simp only [List.range_zero, List.map_nil, List.append_nil]
  congr 1
  obtain ⟨s, d⟩ := r[k]
  simp [others]
theorem oth_end (a : Nat) (r : List Rec) : oth a r r.length 0 = others a r := by
  unfold oth
  rw [List.take_length]
  simp
theorem heads_at (r : List Rec) : ∀ (a i : Nat) (h : i < r.length), (heads a r)[i]? = some (endR a (r.take i)) := by
  induction r with
  | nil => intro a i h; exact absurd h (by simp)
  | cons y r ih =>
    obtain ⟨s, d⟩ := y
    intro a i h
    cases i with
    | zero => rfl
    | succ i => exact ih (a + 1 + secs d.length) i (by simpa using h)
theorem end_take (r : List Rec) : ∀ (a i : Nat) (h : i < r.length), endR a (r.take i) + 1 + secs (r[i].2).length ≤ endR a r := by
  induction r with
  | nil => intro a i h; exact absurd h (by simp)
  | cons y r ih =>
    obtain ⟨s, d⟩ := y
    intro a i h
    cases i with
    | zero =>
      show a + 1 + secs d.length ≤ endR (a + 1 + secs d.length) r
      have := endR_le (a + 1 + secs d.length) r
      omega
    | succ i => exact ih (a + 1 + secs d.length) i (by simpa using h)
theorem others_len (r : List Rec) (a : Nat) : (others a r).length + r.length + a = endR a r := by
  induction r generalizing a with
  | nil => simp [others, endR]
  | cons x r ih =>
    obtain ⟨s, d⟩ := x
    have := ih (a + 1 + secs d.length)
    simp only [others, endR, List.length_append, List.length_map, List.length_range, List.length_cons]
    omega
theorem oth_len (a : Nat) (r : List Rec) (k i : Nat) : (oth a r k i).length ≤ endR a (r.take k) + i := by
  unfold oth
  have := others_len (r.take k) a
  simp only [List.length_append, List.length_map, List.length_range]
  omega
set_option maxRecDepth 100000 in
set_option maxHeartbeats 4000000 in
theorem others_any {w : World} {base q p : Nat} {L : LG} {v : Value} (h : LogAt w base q p L v) :
    Calls Try.prog 50 #[.pointer (some ⟨q, 0, none⟩)] w fun e w' => ∃ v', e = .returned v' ∧ w'.ownsRow w.heap.size 3 1 v' (others L.first L.recs).length (ints (others L.first L.recs)) ∧ Below w.heap.size w w' := by
  obtain ⟨i0, hi, hz0, hz1, hz2⟩ := info_parts infoInt
  have hblk := h.blk
  unfold LG.cells at hblk
  have a5 := cell_of_row w q 5 _ _ _ hblk
  have hend : endR L.first L.recs ≤ 4096 := Nat.le_trans h.ok.endd h.ok.behind
  have hlen : L.recs.length ≤ 4096 := by have := endR_le L.first L.recs; omega
  obtain ⟨Ap, cp, rfl, _, _, hrp⟩ := own_shape h.row
  have HH := Lib.hid (And.intro h (And.intro hlen (And.intro hend hrp)))
  have hlI : (L.recs.length : Int) ≤ 4096 := by omega
  clear h hblk hlen hend hrp
  go_enter Try.func50, Try.ntmps50
  go_wp2_with go_in
  go_loopw [3, 5, 6, 12, 18] (fun u _ _ i _ wr => ∃ k : Nat, k ≤ L.recs.length ∧ i = .int .i64 (k : Int) ∧ wr.ownsRow w.heap.size 3 1 u (oth L.first L.recs k 0).length (ints (oth L.first L.recs k 0)) ∧ Below w.heap.size w wr)
    (fun _ _ _ i _ _ => L.recs.length - (intOf i).toNat)
  case atStart => exact ⟨0, by omega, rfl, by have := World.ownsRow_nil w w.heap.size 3 1; simpa [ints, oth, others] using this, Below.refl _ _⟩
  case round =>
    obtain ⟨k, hk, rfl, ho, hb⟩ := hrel
    by_cases hkl : k < L.recs.length
    · have hkI : (k : Int) < (L.recs.length : Int) := by omega
      obtain ⟨x, e1, e2, e3⟩ := plc_get L.recs L.first k hkl
      have hxe : x = endR L.first (L.recs.take k) := by have := heads_at L.recs L.first k hkl; rw [e1] at this; injection this
      have hxs : x + 1 + secs (L.recs[k].2).length ≤ 4096 := by have := end_take L.recs L.first k hkl; have := HH.out.2.2.1; omega
      have hnx := oth_next L.first L.recs k hkl
      obtain ⟨ab, ao, rfl, hab, hcc⟩ := HH.out.2.2.2 (by intro e; have := plc_len L.first L.recs; rw [e] at this; simp at this; omega)
      have p0 : wr.cell? ⟨ab, ao + k * 2, none⟩ = some (.int .i64 (x : Int)) := (hb.cell (p := ⟨ab, ao + k * 2, none⟩) hab).trans (hcc _ _ e2)
      have p1 : wr.cell? ⟨ab, ao + k * 2 + 1, none⟩ = some (.int .i64 (secs (L.recs[k].2).length : Int)) := (hb.cell (p := ⟨ab, ao + k * 2 + 1, none⟩) hab).trans (hcc _ _ e3)
      generalize secs (L.recs[k].2).length = m at p1 hxs hnx
      have HX := Lib.hid (And.intro ho (And.intro hb (And.intro hkl (And.intro hxe (And.intro hxs hnx)))))
      obtain ⟨Ao, co, rfl, _, _, _⟩ := own_shape ho
      have HSZ := Lib.hid hb.size
      clear ho hb e1 e2 e3 hcc hkl hxe hxs hnx
      go_upto_region 6 with go_in
      have hg5 := heap_alloc_new wr (.cells #[.int .i64 (x : Int), .int .i64 (m : Int)] 134)
      have ho1 : (wr.alloc (.cells #[.int .i64 (x : Int), .int .i64 (m : Int)] 134)).ownsRow w.heap.size 3 1 (.slice Ao (oth L.first L.recs k 0).length co) (oth L.first L.recs k 0).length (ints (oth L.first L.recs k 0)) := World.ownsRow.alloc HX.out.1 _
      have hb1 : Below w.heap.size w (wr.alloc (.cells #[.int .i64 (x : Int), .int .i64 (m : Int)] 134)) := HX.out.2.1.alloc HSZ.out _
      have hap : ∀ g, (Value.slice Ao (oth L.first L.recs k 0).length co).ownBlock = some g → g ≠ wr.heap.size := fun g hg => by have := (World.ownsRow.lt HX.out.1 g hg).2; omega
      obtain ⟨b5, hb5⟩ : ∃ b5, b5 = wr.heap.size := ⟨_, rfl⟩
      have hz5 : w.heap.size ≤ b5 := by have := HSZ.out; omega
      rw [← hb5] at hg5 hap ⊢
      generalize wr.alloc (.cells #[.int .i64 (x : Int), .int .i64 (m : Int)] 134) = W1 at hg5 ho1 hb1 ⊢
      have H1 := Lib.hid (And.intro hg5 (And.intro ho1 (And.intro hb1 (And.intro hap hz5))))
      clear hg5 ho1 hb1 hap hb5 p0 p1 hz5
      go_wp2_with go_in
      go_loopw [3, 6, 18] (fun u _ i wi => ∃ j : Nat, j ≤ m ∧ i = .int .i64 (j : Int) ∧ wi.ownsRow w.heap.size 3 1 u (oth L.first L.recs k j).length (ints (oth L.first L.recs k j)) ∧ Below w.heap.size w wi ∧ wi.heap[b5]? = some (.cells #[.int .i64 (x : Int), .int .i64 (m : Int)] 134 (0, 0)) ∧ ∀ g, u.ownBlock = some g → g ≠ b5)
        (fun _ _ i _ => m - (intOf i).toNat)
      case atStart => exact ⟨0, by omega, rfl, H1.out.2.1, H1.out.2.2.1, H1.out.1, H1.out.2.2.2.1⟩
      case round =>
        obtain ⟨j, hj, rfl, hoj, hbj, hgj, hapj⟩ := hrel
        by_cases hjm : j < m
        · have hjI : (j : Int) < (m : Int) := by omega
          have hxI : (x : Int) + 1 + (m : Int) ≤ 4096 := by have := HX.out.2.2.2.2.1; omega
          have r0 := cell_of_row wr b5 0 _ _ _ hgj
          have hsn := oth_snoc L.first L.recs k j
          rw [← HX.out.2.2.2.1] at hsn
          have hlj := oth_len L.first L.recs k j
          rw [← HX.out.2.2.2.1] at hlj
          have HY := Lib.hid (And.intro hoj (And.intro hbj (And.intro hgj (And.intro hapj (And.intro hjm (And.intro hsn hlj))))))
          obtain ⟨Aj, cj, rfl, _, _, _⟩ := own_shape hoj
          have HZ := Lib.hid hbj.size
          have hcast : (((x + 1 + j : Nat)) : Int) = (x : Int) + 1 + (j : Int) := by omega
          have HCA := Lib.hid hcast
          clear hoj hbj hgj hapj hjm hsn hcast hlj
          go_wp2_with (first
            | (at_builtin; refine wpList_appR _ rfl (.tmp 21) (.tmp 27) _ rfl w.heap.size 3 i0 _ 1 8 Try.underlying88 hi hz0 hz1 hz2 rfl (by omega) (.slice Aj (oth L.first L.recs k j).length cj) (oth L.first L.recs k j).length (ints (oth L.first L.recs k j)) rfl (World.ownsRow.alloc HY.out.1 _) (wr.heap.size + 1) (some ⟨wr.heap.size, 0, none⟩) 1 1 [.int .i64 ((x : Int) + 1 + (j : Int))] rfl rfl (Rd.new wr #[.int .i64 ((x : Int) + 1 + (j : Int))] 3 (0, 0)) (by simp [Value.oneCell']) (by have := HY.out.2.2.2.2.2.2; omega) (by omega) (by have := HZ.out; simp; omega) ?_; intro v2 w2 hown2 hg2 hat2)
            | go_in)
          rw [← HCA.out, ints_snoc, ← HY.out.2.2.2.2.2.1] at hown2
          have hl : (oth L.first L.recs k j).length + 1 = (oth L.first L.recs k (j + 1)).length := by rw [HY.out.2.2.2.2.2.1]; simp
          rw [hl] at hown2
          have hb2 : Below w.heap.size w w2 := (HY.out.2.1.alloc HZ.out _).trans (grown_below' hg2 (fun j' hj' => (World.ownsRow.lt HY.out.1 j' hj').1) (by have := HZ.out; simp; omega))
          have hlt5 := heap_lt HY.out.2.2.1
          have hg6 : w2.heap[b5]? = some (.cells #[.int .i64 (x : Int), .int .i64 (m : Int)] 134 (0, 0)) := (hg2.block b5 (by simp; omega) (fun e => HY.out.2.2.2.1 b5 e.symm rfl)).trans ((Below.heap_alloc _ _ _ hlt5).trans HY.out.2.2.1)
          have hap2 : ∀ g, v2.ownBlock = some g → g ≠ b5 := fun g hg => by
            rcases hat2 with e | e
            · exact HY.out.2.2.2.1 g (e ▸ hg)
            · rw [e] at hg; simp at hg; omega
          exact ⟨⟨j + 1, HY.out.2.2.2.2.1, by simp, hown2, hb2, hg6, hap2⟩, by simp [intOf]; have := HY.out.2.2.2.2.1; omega⟩
        · obtain rfl : j = m := by omega
          rw [HX.out.2.2.2.2.2] at hoj
          have HY := Lib.hid (And.intro hoj hbj)
          clear hoj hbj hgj hapj hjm
          go_wp2_with go_in
          exact ⟨⟨k + 1, HX.out.2.2.1, by simp, HY.out.1, HY.out.2⟩, by simp [intOf]; have := HX.out.2.2.1; omega⟩
    · obtain rfl : k = L.recs.length := by omega
      have HX := Lib.hid (And.intro ho hb)
      clear ho hb
      go_wp2_with go_in
      go_ret
      refine ⟨_, rfl, ?_, HX.out.2⟩
      have h := HX.out.1
      rw [oth_end] at h
      exact h
end Go.Proofs.Ytdjcpjfomgfjlaa
/- dirty, wipe. -/
namespace Go.Proofs.Ytdjcpjfomgfjlaa
open Go.RowKit Go.Maps

theorem equal_b (A1 A2 : Option Addr) (l1 l2 : List UInt8) (n1 n2 c1 c2 B1 B2 : Nat) (b : Bool) (w : World) (h1 : Rd w B1 A1 (u8s l1)) (h2 : Rd w B2 A2 (u8s l2)) (hn1 : n1 = l1.length) (hn2 : n2 = l2.length) (hb : Hid ((l1 == l2) = b)) :
    Calls Try.prog 72 #[.slice A1 n1 c1, .slice A2 n2 c2] w fun e w' => e = .returned (.bool b) ∧ w = w' := by
  have := equal_any A1 A2 l1 l2 n1 n2 c1 c2 B1 B2 w h1 h2 hn1 hn2
  rw [hb.out] at this
  exact this
theorem rd_zero (W : World) : Rd (W.alloc (.cells (u8s zero64).toArray 5)) (W.heap.size + 1) (some ⟨W.heap.size, 0, none⟩) (u8s zero64) := Rd.new W (u8s zero64).toArray 5 (0, 0)
/-- The sectors from one on, up to another, that aren't zeros. -/
def dirtyL (g : Nat → List UInt8) (a k : Nat) : List Nat := ((List.range k).map fun i => a + i).filter fun i => !(g i == zero64)
theorem dirtyL_succ (g : Nat → List UInt8) (a k : Nat) : dirtyL g a (k + 1) = dirtyL g a k ++ if (g (a + k) == zero64) = true then [] else [a + k] := by
  unfold dirtyL
  rw [List.range_succ, List.map_append, List.filter_append]
  congr 1
  by_cases h : (g (a + k) == zero64) = true
  · simp [h]
  · simp [h]
theorem dirtyL_len (g : Nat → List UInt8) (a k : Nat) : (dirtyL g a k).length ≤ k := by
  unfold dirtyL
  refine Nat.le_trans (List.length_filter_le _ _) (by simp)
theorem dirtyL_mem {g : Nat → List UInt8} {a k i : Nat} (h : i ∈ dirtyL g a k) : a ≤ i ∧ i < a + k := by
  unfold dirtyL at h
  obtain ⟨h1, _⟩ := List.mem_filter.1 h
  obtain ⟨j, hj, rfl⟩ := List.mem_map.1 h1
  have := List.mem_range.1 hj
  omega
theorem dirtyL_not {g : Nat → List UInt8} {a k i : Nat} (h1 : a ≤ i) (h2 : i < a + k) (h : i ∉ dirtyL g a k) : g i = zero64 := by
  have : (g i == zero64) = true := by
    cases hb : (g i == zero64) with
    | true => rfl
    | false =>
      exfalso; apply h
      unfold dirtyL
      refine List.mem_filter.2 ⟨List.mem_map.2 ⟨i - a, List.mem_range.2 (by omega), by omega⟩, by simp [hb]⟩
  exact beq_iff_eq.1 this
def LG.dirty (L : LG) (M : DM) : List Nat := dirtyL M.get L.endd (L.behind - L.endd)

set_option maxRecDepth 100000 in
set_option maxHeartbeats 4000000 in
theorem dirty_any {w : World} {base q p bs bw T : Nat} {L : LG} {v : Value} {M : DM} (h : LogAt w base q p L v) (hD : DiskM w p bs bw M T) (hz : M.size ≤ 4096) (hbm : L.behind ≤ M.size) :
    Calls Try.prog 40 #[.pointer (some ⟨q, 0, none⟩)] w fun e w' => ∃ v', e = .returned v' ∧ w'.ownsRow w.heap.size 3 1 v' (L.dirty M).length (ints (L.dirty M)) ∧ Below w.heap.size w w' := by
  obtain ⟨i0, hi, hz0, hz1, hz2⟩ := info_parts infoInt
  have hblk := h.blk
  unfold LG.cells at hblk
  have a3 := cell_of_row w q 3 _ _ _ hblk
  obtain ⟨K, hK⟩ : ∃ K, K = L.behind - L.endd := ⟨_, rfl⟩
  have hend := h.ok.endd
  have HH := Lib.hid (And.intro h (And.intro hD (And.intro hz (And.intro hbm (And.intro hK hend)))))
  clear h hblk hD hz hbm hK hend
  go_enter Try.func40, Try.ntmps40
  go_wp2_with go_in
  go_loopw [3, 4] (fun u i wr => ∃ k : Nat, k ≤ K ∧ i = .int .i64 ((L.endd : Int) + (k : Int)) ∧ wr.ownsRow w.heap.size 3 1 u (dirtyL M.get L.endd k).length (ints (dirtyL M.get L.endd k)) ∧ Below w.heap.size w wr)
    (fun _ i _ => K - (intOf i - (L.endd : Int)).toNat)
  case atStart => exact ⟨0, by omega, by simp, by have := World.ownsRow_nil w w.heap.size 3 1; simpa [ints, dirtyL] using this, Below.refl _ _⟩
  case round =>
    obtain ⟨k, hk, rfl, ho, hb⟩ := hrel
    have hblk := (HH.out.1.kept hb).blk
    unfold LG.cells at hblk
    have a2 := cell_of_row wr q 2 _ _ _ hblk
    have hbe : (L.behind : Int) ≤ 4096 := by have := HH.out.2.2.1; have := HH.out.2.2.2.1; omega
    by_cases hkl : k < K
    · have hkI : (L.endd : Int) + (k : Int) < (L.behind : Int) := by have := HH.out.2.2.2.2.1; omega
      have hsc := fun (W : World) (hW : Below wr.heap.size wr W) => sector_any ((HH.out.1.kept hb).kept hW) ((HH.out.2.1.kept hb).kept hW) HH.out.2.2.1 (i := L.endd + k) (by have := HH.out.2.2.2.1; have := HH.out.2.2.2.2.1; omega)
      have hcast : (((L.endd + k : Nat)) : Int) = (L.endd : Int) + (k : Int) := by omega
      rw [hcast] at hsc
      have hsn := dirtyL_succ M.get L.endd k
      have hlen := dirtyL_len M.get L.endd k
      obtain ⟨l, hl⟩ : ∃ l, l = M.get (L.endd + k) := ⟨_, rfl⟩
      rw [← hl] at hsc hsn
      have hKb : K ≤ 4096 := by have := HH.out.2.2.1; have := HH.out.2.2.2.1; have := HH.out.2.2.2.2.1; omega
      have HSC := Lib.hid hsc
      have HX := Lib.hid (And.intro ho (And.intro hb (And.intro hkl (And.intro hsn (And.intro hlen (And.intro hKb hcast))))))
      obtain ⟨Ao, co, rfl, _, _, _⟩ := own_shape ho
      have HSZ := Lib.hid hb.size
      have HMK := Lib.hid (fun W => make64 W)
      clear hsc hcast hblk ho hb hkl hsn hl hlen hKb
      go_upto_region 5 with go_in
      obtain ⟨b, hbb⟩ : ∃ b, (l == zero64) = b := ⟨_, rfl⟩
      have HBB := Lib.hid hbb
      clear hbb
      have k1 : Below wr.heap.size wr wr.drew := (Below.refl _ wr).drew
      have k2 : Below wr.heap.size wr (wr.alloc (.cells (u8s zero64).toArray 5)).drew := ((Below.refl _ wr).alloc (Nat.le_refl _) _).drew
      have KK := Lib.hid (And.intro k1 k2)
      have hmk := HMK.out wr.drew
      clear k1 k2
      cases b with
      | true =>
        go_region_with (first
          | (go_at_call 69; (with_reducible refine (HSC.out wr.drew KK.out.1).mono ?_); rintro e w2 ⟨g2, rfl, hg1, hg2, hr2, hl2, hb2⟩; have hmk2 := HMK.out w2; have hra := hr2.alloc (Nat.le_refl _) (.cells (u8s zero64).toArray 5); have hrz := rd_zero w2; have hC2 : Below wr.heap.size wr (w2.alloc (.cells (u8s zero64).toArray 5)) := (KK.out.1.trans hb2).alloc hb2.size _)
          | (go_at_call 69; (with_reducible refine (HSC.out _ KK.out.2).mono ?_); rintro e w2 ⟨g2, rfl, hg1, hg2, hra, hl2, hb2⟩; have hrz := ((rd_zero wr).drew).below hb2 (by show wr.heap.size + 1 ≤ (wr.alloc _).heap.size; simp); have hC2 : Below wr.heap.size wr w2 := KK.out.2.trans (lower' hb2 (by show wr.heap.size ≤ (wr.alloc _).heap.size; simp)))
          | (go_at_call 72; (refine (equal_b _ _ l zero64 64 64 64 64 _ _ true _ hra hrz hl2.symm rfl HBB).mono ?_); rintro e w3 ⟨rfl, rfl⟩))
        all_goals
          have HC2 := Lib.hid hC2
          clear hra hrz hb2 hC2
          go_wp2_with go_in
          refine ⟨⟨k + 1, HX.out.2.2.1, by simp; omega, ?_, HX.out.2.1.trans (lower' HC2.out HSZ.out)⟩, by simp [intOf]; have := HX.out.2.2.1; omega⟩
          rw [HX.out.2.2.2.1, if_pos HBB.out, List.append_nil]
          exact own_below HX.out.1 HC2.out (Nat.le_refl _)
      | false =>
        go_region_with (first
          | (go_at_call 69; (with_reducible refine (HSC.out wr.drew KK.out.1).mono ?_); rintro e w2 ⟨g2, rfl, hg1, hg2, hr2, hl2, hb2⟩; have hmk2 := HMK.out w2; have hra := hr2.alloc (Nat.le_refl _) (.cells (u8s zero64).toArray 5); have hrz := rd_zero w2; have hC2 : Below wr.heap.size wr (w2.alloc (.cells (u8s zero64).toArray 5)) := (KK.out.1.trans hb2).alloc hb2.size _)
          | (go_at_call 69; (with_reducible refine (HSC.out _ KK.out.2).mono ?_); rintro e w2 ⟨g2, rfl, hg1, hg2, hra, hl2, hb2⟩; have hrz := ((rd_zero wr).drew).below hb2 (by show wr.heap.size + 1 ≤ (wr.alloc _).heap.size; simp); have hC2 : Below wr.heap.size wr w2 := KK.out.2.trans (lower' hb2 (by show wr.heap.size ≤ (wr.alloc _).heap.size; simp)))
          | (go_at_call 72; (refine (equal_b _ _ l zero64 64 64 64 64 _ _ false _ hra hrz hl2.symm rfl HBB).mono ?_); rintro e w3 ⟨rfl, rfl⟩))
        all_goals
          clear hra hrz hb2
          first
            | (have hq : Below wr.heap.size wr (w2.alloc (.cells (u8s zero64).toArray 5)) := hC2; clear hq; generalize w2.alloc (.cells (u8s zero64).toArray 5) = W2 at hC2 ⊢)
            | generalize w2 = W2 at hC2 ⊢
          have hoW := own_below HX.out.1 hC2 (Nat.le_refl _)
          have HC2 := Lib.hid (And.intro hC2 hoW)
          have HSN := Lib.hid (show dirtyL M.get L.endd (k + 1) = dirtyL M.get L.endd k ++ [L.endd + k] by rw [HX.out.2.2.2.1, if_neg (by rw [HBB.out]; simp)])
          clear hC2 hoW
          go_wp2_with (first
            | (at_builtin; refine wpList_appR _ rfl (.tmp 23) (.tmp 25) _ rfl w.heap.size 3 i0 _ 1 8 Try.underlying88 hi hz0 hz1 hz2 rfl (by omega) (.slice Ao (dirtyL M.get L.endd k).length co) (dirtyL M.get L.endd k).length (ints (dirtyL M.get L.endd k)) rfl (World.ownsRow.alloc HC2.out.2 _) (W2.heap.size + 1) (some ⟨W2.heap.size, 0, none⟩) 1 1 [.int .i64 ((L.endd : Int) + (k : Int))] rfl rfl (Rd.new W2 #[.int .i64 ((L.endd : Int) + (k : Int))] 3 (0, 0)) (by simp [Value.oneCell']) (by have := HX.out.2.2.2.2.1; have := HX.out.2.2.2.2.2.1; have := HX.out.2.2.1; omega) (by omega) (by have := HSZ.out; have := HC2.out.1.size; simp; omega) ?_; intro v2 w5 hown2 hg2 hat2)
            | go_in)
          rw [← HX.out.2.2.2.2.2.2, ints_snoc, ← HSN.out] at hown2
          have hl : (dirtyL M.get L.endd k).length + 1 = (dirtyL M.get L.endd (k + 1)).length := by rw [HSN.out]; simp
          rw [hl] at hown2
          have hb5 : Below w.heap.size w w5 := ((HX.out.2.1.trans (lower' HC2.out.1 HSZ.out)).alloc (by have := HSZ.out; have := HC2.out.1.size; omega) _).trans (grown_below' hg2 (fun j hj => (World.ownsRow.lt HC2.out.2 j hj).1) (by have := HSZ.out; have := HC2.out.1.size; simp; omega))
          exact ⟨⟨k + 1, HX.out.2.2.1, by simp; omega, hown2, hb5⟩, by simp [intOf]; have := HX.out.2.2.1; omega⟩
    · obtain rfl : k = K := by omega
      have hkI : ¬ ((L.endd : Int) + (k : Int) < (L.behind : Int)) := by have := HH.out.2.2.2.2; omega
      have HX := Lib.hid (And.intro ho hb)
      clear ho hb hblk
      go_wp2_with go_in
      go_ret
      refine ⟨_, rfl, ?_, HX.out.2⟩
      unfold LG.dirty
      rw [← HH.out.2.2.2.2.1]
      exact HX.out.1
end Go.Proofs.Ytdjcpjfomgfjlaa
/- wipe; steps of a disk in memory. -/
namespace Go.Proofs.Ytdjcpjfomgfjlaa
open Go.RowKit Go.Maps

/-- Room for n steps more. -/
structure Fit (M : DM) (T n : Nat) : Prop where
  size : M.size ≤ 4096
  steps : M.steps + n ≤ 1000000000
  left : M.left ≤ 9223372036854775807
  T : T + n ≤ 1000000000
theorem Fit.ok {M : DM} {T n : Nat} (h : Fit M T n) : M.Ok T := ⟨h.size, by have := h.steps; omega, h.left, by have := h.T; omega⟩
theorem Fit.less {M : DM} {T n m : Nat} (h : Fit M T n) (hm : m ≤ n) : Fit M T m := ⟨h.size, by have := h.steps; omega, h.left, by have := h.T; omega⟩
theorem Fit.step {M : DM} {T n : Nat} (h : Fit M T (n + 1)) (o : DOp) : Fit (doneOp M o) (T + 1) n := by
  obtain ⟨h1, h2, h3, h4⟩ := doneOp_size M o
  refine ⟨by rw [h1]; exact h.size, by rw [h2]; have := h.steps; omega, ?_, by have := h.T; omega⟩
  rw [h4]
  have := h.left
  split <;> omega
theorem write_eq {M : DM} {i : Nat} {l : List UInt8} (hi : i < M.size) (hl : l.length = 64) : M.writeE (i : Int) l = (if M.dead then 30 else 0) ∧ M.writeM (i : Int) l = if M.dead then M else M.written i l := by
  have hn : ¬ (¬ (0 ≤ (i : Int) ∧ (i : Int) < (M.size : Int)) ∨ l.length ≠ 64) := by rw [hl]; omega
  unfold DM.writeE DM.writeM
  rw [if_neg hn, if_neg hn]
  exact ⟨rfl, rfl⟩
theorem writeD {w : World} {p bs bw T : Nat} {M : DM} (h : DiskM w p bs bw M T) (hk : M.Ok T) (hd : M.dead = true) {i : Nat} (hi : i < M.size) (g : Nat) (l : List UInt8) (hl : l.length = 64) (B : Nat) (hr : Rd w B (some ⟨g, 0, none⟩) (u8s l)) (hp : g ≠ p) :
    Calls Try.prog 17 #[.pointer (some ⟨p, 0, none⟩), .int .i64 (i : Int), .slice (some ⟨g, 0, none⟩) 64 64] w fun e w' => e = .returned (.int .i64 30) ∧ DiskM w' p bs bw M (T + 1) ∧ Fr w w' [p, bw] := by
  have := writeC h hk (i : Int) g l hl B hr hp
  rw [(write_eq hi hl).1, (write_eq hi hl).2, if_pos hd, if_pos hd] at this
  exact this
theorem writeL {w : World} {p bs bw T : Nat} {M : DM} (h : DiskM w p bs bw M T) (hk : M.Ok T) (hd : M.dead = false) {i : Nat} (hi : i < M.size) (g : Nat) (l : List UInt8) (hl : l.length = 64) (B : Nat) (hr : Rd w B (some ⟨g, 0, none⟩) (u8s l)) (hp : g ≠ p) :
    Calls Try.prog 17 #[.pointer (some ⟨p, 0, none⟩), .int .i64 (i : Int), .slice (some ⟨g, 0, none⟩) 64 64] w fun e w' => e = .returned (.int .i64 0) ∧ DiskM w' p bs bw (doneOp M (some (i, l))) (T + 1) ∧ Fr w w' [p, bw] := by
  have := writeC h hk (i : Int) g l hl B hr hp
  rw [(write_eq hi hl).1, (write_eq hi hl).2, if_neg (by simp [hd]), if_neg (by simp [hd])] at this
  exact this
/-- What steps leave, in memory. -/
def Ran (w w' : World) (p bs bw T : Nat) (M : DM) (ops : List DOp) (e : Ending) : Prop :=
  e = .returned (.int .i64 (runOps ops M).1) ∧ DiskM w' p bs bw (runOps ops M).2 (T + ops.length) ∧ Fr w w' [p, bs, bw]
theorem flushR {w : World} {p bs bw T : Nat} {M : DM} (h : DiskM w p bs bw M T) (hk : M.Ok T) :
    Calls Try.prog 73 #[.pointer (some ⟨p, 0, none⟩)] w fun e w' => Ran w w' p bs bw T M [none] e := by
  refine (flushM h hk).mono ?_
  rintro e w' ⟨rfl, h1, h2⟩
  have e1 : runOps [none] M = (M.flushE, M.flushM) := by
    unfold runOps DM.flushE DM.flushM
    cases hd : M.dead with
    | true => rfl
    | false => rfl
  refine ⟨by rw [e1], by rw [e1]; exact h1.mono (Nat.le_add_right _ _), h2⟩
theorem Ran.step {w w0 w' : World} {p bs bw T : Nat} {M : DM} {o : DOp} {ops : List DOp} {e : Ending} (hf : Fr w w0 [p, bs, bw]) (hd : M.dead = false) (h : Ran w0 w' p bs bw (T + 1) (doneOp M o) ops e) : Ran w w' p bs bw T M (o :: ops) e := by
  have e1 : runOps (o :: ops) M = runOps ops (doneOp M o) := by simp only [runOps]; rw [if_neg (by simp [hd])]
  exact ⟨by rw [e1]; exact h.1, by rw [e1]; have := h.2.1; rw [List.length_cons]; rw [show T + 1 + ops.length = T + (ops.length + 1) by omega] at this; exact this, hf.trans h.2.2⟩
theorem Ran.dead {w w' : World} {p bs bw T T' : Nat} {M : DM} {o : DOp} {ops : List DOp} {e : Ending} (hd : M.dead = true) (he : e = .returned (.int .i64 30)) (hD : DiskM w' p bs bw M T') (hT : T' ≤ T + 1) (hf : Fr w w' [p, bs, bw]) : Ran w w' p bs bw T M (o :: ops) e := by
  have e1 : runOps (o :: ops) M = (30, M) := by simp only [runOps]; rw [if_pos hd]
  exact ⟨by rw [e1]; exact he, by rw [e1]; exact hD.mono (by rw [List.length_cons]; omega), hf⟩

theorem make64D (w : World) : (Instr.makeSlice 45 (.int .i64 64) (.int .i64 64)).run Try.prog w = .ok (.slice (some ⟨w.heap.size, 0, none⟩) 64 64) (w.alloc (.cells (u8s zero64).toArray 5)) := make64 w
set_option maxRecDepth 100000 in
set_option maxHeartbeats 4000000 in
theorem wipe_any {w : World} {base q p bs bw T : Nat} {L : LG} {v : Value} {M : DM} (h : LogAt w base q p L v) (hD : DiskM w p bs bw M T) (A : Option Addr) (S : List Nat) (c B : Nat) (hr : Rd w B A (ints S)) (hB : ∀ a, A = some a → a.block ≠ p ∧ a.block ≠ bs ∧ a.block ≠ bw) (hq : q ≠ p ∧ q ≠ bs ∧ q ≠ bw) (hS : ∀ i ∈ S, i < M.size) (hl : S.length ≤ 4096) (hfit : Fit M T (S.length + 1)) :
    Calls Try.prog 41 #[.pointer (some ⟨q, 0, none⟩), .slice A S.length c] w fun e w' => Ran w w' p bs bw T M (wipeOps S) e := by
  have hblk := h.blk
  unfold LG.cells at hblk
  have HH := Lib.hid (And.intro hblk (And.intro hq (And.intro hS (And.intro hl hfit))))
  have HR := Lib.hid (And.intro hr hB)
  have HD := Lib.hid (And.intro hD hD.lt)
  have hlI : (S.length : Int) ≤ 4096 := by omega
  have hqs := (Array.getElem?_eq_some_iff.1 hblk).1
  have HQ := Lib.hid hqs
  clear h hblk hq hS hl hfit hr hB hD hqs
  go_enter Try.func41, Try.ntmps41
  go_wp2_with go_in
  go_loopw [6, 7, 10] (fun _ _ i wr => ∃ (k : Nat) (M' : DM), k ≤ S.length ∧ i = .int .i64 (k : Int) ∧ DiskM wr p bs bw M' (T + k) ∧ Fr w wr [p, bs, bw] ∧ M'.size = M.size ∧ Fit M' (T + k) (S.length - k + 1) ∧ ∀ w' e, Ran wr w' p bs bw (T + k) M' (zeroOps (S.drop k) ++ [none]) e → Ran w w' p bs bw T M (wipeOps S) e)
    (fun _ _ i _ => S.length - (intOf i).toNat)
  case atStart => exact ⟨0, M, by omega, rfl, HD.out.1, Fr.refl _ _, rfl, by simpa using HH.out.2.2.2.2, fun w' e h => by simpa [wipeOps] using h⟩
  case round =>
    obtain ⟨k, M', hk, rfl, hD, hf, hs, hfit, hran⟩ := hrel
    have hblk := (hf.block q HQ.out (by have := HH.out.2.1; simp; omega)).trans HH.out.1
    have a0 := cell_of_row wr q 0 _ _ _ hblk
    by_cases hkl : k < S.length
    · have hkI : (k : Int) < (S.length : Int) := by omega
      obtain ⟨x, hx⟩ : ∃ x, x = S[k] := ⟨_, rfl⟩
      have hxs : x < M'.size := by rw [hs, hx]; exact HH.out.2.2.1 _ (List.getElem_mem hkl)
      have hdrop : S.drop k = x :: S.drop (k + 1) := by rw [hx]; exact List.drop_eq_getElem_cons hkl
      obtain ⟨ab, ao, rfl, hab, hcc⟩ := HR.out.1 (by intro e; have := ints_len S; rw [e] at this; simp at this; omega)
      have hAB := HR.out.2 _ rfl
      have p0 : wr.cell? ⟨ab, ao + k, none⟩ = some (.int .i64 (x : Int)) := by
        have hc := hcc k _ (by rw [List.getElem?_eq_getElem (by rw [ints_len]; exact hkl), ints_get S k hkl])
        have hbl : ab < w.heap.size := World.block_lt_of_cell? w _ hc
        rw [hx]
        exact (World.cell?_of_block (hf.block ab hbl (by simp; exact hAB))).trans hc
      rw [hdrop] at hran
      have HX := Lib.hid (And.intro hD (And.intro hf (And.intro hs (And.intro hfit (And.intro hkl hran)))))
      have hlt := hD.lt
      have HLT := Lib.hid hlt
      have hw1 := writeL (w := (wr.alloc (.cells (u8s zero64).toArray 5)).drew) (hD.alloc (.cells (u8s zero64).toArray 5)) hfit.ok
      have hw2 := writeD (w := (wr.alloc (.cells (u8s zero64).toArray 5)).drew) (hD.alloc (.cells (u8s zero64).toArray 5)) hfit.ok
      have hne : wr.heap.size ≠ p := by omega
      have hb1 : Fr wr (wr.alloc (.cells (u8s zero64).toArray 5)).drew [p, bs, bw] := ((Fr.refl _ _).alloc _).drew
      have HMK := Lib.hid (fun W => make64 W)
      cases hd : M'.dead with
      | true =>
        have hcall := hw2 hd hxs wr.heap.size zero64 zero64_len _ (rd_zero wr).drew hne
        have HC := Lib.hid hcall
        have HDD := Lib.hid (And.intro hd hb1)
        have hmk := HMK.out wr.drew
        have c0 : (wr.alloc (.cells (u8s zero64).toArray 5)).cell? ⟨q, 0, none⟩ = some (.pointer (some ⟨p, 0, none⟩)) := cell_of_row (wr.alloc _) q 0 _ _ _ ((Below.heap_alloc _ _ _ (by have := HQ.out; have := hf.size; omega)).trans hblk)
        clear hw1 hw2 hd hcall hb1 hD hf hs hfit hran hdrop hx hcc hxs hblk hkl hlt hne hAB
        go_upto_region 4 with go_in
        go_region_with (first
          | (go_at_call 17; (with_reducible refine HC.out.mono ?_); rintro e w2 ⟨rfl, hD2, hF2⟩))
        all_goals
          have hfin : Fr wr w2 [p, bs, bw] := HDD.out.2.trans (hF2.mono (by simp))
          have HF := Lib.hid (And.intro hD2 hfin)
          clear hD2 hF2 hfin
          go_wp2_with go_in
          go_ret
          exact HX.out.2.2.2.2.2 _ _ (Ran.dead (o := some (x, zero64)) HDD.out.1 rfl HF.out.1 (Nat.le_refl _) HF.out.2)
      | false =>
        have hcall := hw1 hd hxs wr.heap.size zero64 zero64_len _ (rd_zero wr).drew hne
        have HC := Lib.hid hcall
        have HDD := Lib.hid (And.intro hd hb1)
        have hmk := HMK.out wr.drew
        have c0 : (wr.alloc (.cells (u8s zero64).toArray 5)).cell? ⟨q, 0, none⟩ = some (.pointer (some ⟨p, 0, none⟩)) := cell_of_row (wr.alloc _) q 0 _ _ _ ((Below.heap_alloc _ _ _ (by have := HQ.out; have := hf.size; omega)).trans hblk)
        clear hw1 hw2 hd hcall hb1 hD hf hs hfit hran hdrop hx hcc hxs hblk hkl hlt hne hAB
        go_upto_region 4 with go_in
        go_region_with (first
          | (go_at_call 17; (with_reducible refine HC.out.mono ?_); rintro e w2 ⟨rfl, hD2, hF2⟩))
        all_goals
          have hfin : Fr wr w2 [p, bs, bw] := HDD.out.2.trans (hF2.mono (by simp))
          have HF := Lib.hid (And.intro hD2 hfin)
          clear hD2 hF2 hfin
          go_wp2_with go_in
          have hx := HX.out
          refine ⟨⟨k + 1, doneOp M' (some (x, zero64)), hx.2.2.2.2.1, by simp, ?_, hx.2.1.trans HF.out.2, (doneOp_size _ _).1.trans hx.2.2.1, ?_, fun w' e h => hx.2.2.2.2.2 w' e (Ran.step (o := some (x, zero64)) HF.out.2 HDD.out.1 ?_)⟩, by simp [intOf]; have := hx.2.2.2.2.1; omega⟩
          · exact HF.out.1
          · have h2 := hx.2.2.2.1
            rw [show S.length - k + 1 = (S.length - (k + 1) + 1) + 1 by have := hx.2.2.2.2.1; omega] at h2
            exact h2.step _
          · exact h
    · obtain rfl : k = S.length := by omega
      have hfl := flushR hD hfit.ok
      rw [List.drop_length] at hran
      have HX := Lib.hid (And.intro hf hran)
      have HC := Lib.hid hfl
      clear hfl hD hf hs hfit hran hblk hkl
      go_wp2_with (first
        | (go_at_call 73; (with_reducible refine HC.out.mono ?_); rintro e w2 ⟨rfl, hD2, hF2⟩; have HF := Lib.hid (And.intro hD2 hF2); clear hD2 hF2)
        | go_in)
      go_ret
      exact HX.out.2 _ _ ⟨rfl, HF.out.1, HF.out.2⟩
end Go.Proofs.Ytdjcpjfomgfjlaa
/- The document's image: write. -/
namespace Go.Proofs.Ytdjcpjfomgfjlaa
open Go.RowKit Go.Maps

section
variable {w wr w' : World} {X : List Nat} {M : DM} {T : Nat} {v : Value}
theorem RefV.rwrite (hv : RefV wr X (refOf M) v) (hk : M.Ok T) (hX : ∀ x ∈ X, x < wr.heap.size) (i : Int) (b : List UInt8) :
    Calls Try.prog 19 #[v, .int .i64 i, .string ⟨b.toArray⟩] wr fun e w' => ∃ B1 B2 B3 m1 m2 m3 d1 d2 d3 s l, e = .returned (.tuple #[.agg #[.slice B1 m1 d1, .slice B2 m2 d2, .slice B3 m3 d3, .int .i64 s, .int .i64 l], .int .i64 (M.writeE i b)]) ∧ RefV w' X (refOf (M.writeM i b)) (.agg #[.slice B1 m1 d1, .slice B2 m2 d2, .slice B3 m3 d3, .int .i64 s, .int .i64 l]) ∧ Below wr.heap.size wr w' := by
  refine (rwrite_any wr X (refOf M) v hv (refOf_ok hk) hX i b).mono ?_
  rintro e w' ⟨v', rfl, hR, hb⟩
  rw [(refOf_write M i b).1]
  rw [(refOf_write M i b).2] at hR
  have hR' := hR
  obtain ⟨A1, A2, A3, c1, c2, c3, rfl, _, _, _⟩ := hR'
  exact ⟨_, _, _, _, _, _, _, _, _, _, _, rfl, hR, hb⟩
theorem RefV.rflush (hv : RefV wr X (refOf M) v) (hk : M.Ok T) (hX : ∀ x ∈ X, x < wr.heap.size) :
    Calls Try.prog 48 #[v] wr fun e w' => ∃ B1 B2 B3 m1 m2 m3 d1 d2 d3 s l, e = .returned (.tuple #[.agg #[.slice B1 m1 d1, .slice B2 m2 d2, .slice B3 m3 d3, .int .i64 s, .int .i64 l], .int .i64 M.flushE]) ∧ RefV w' X (refOf M.flushM) (.agg #[.slice B1 m1 d1, .slice B2 m2 d2, .slice B3 m3 d3, .int .i64 s, .int .i64 l]) ∧ Below wr.heap.size wr w' := by
  refine (rflush_any wr X (refOf M) v hv (refOf_ok hk) hX).mono ?_
  rintro e w' ⟨v', rfl, hR, hb⟩
  rw [(refOf_flush M).1]
  rw [(refOf_flush M).2] at hR
  have hR' := hR
  obtain ⟨A1, A2, A3, c1, c2, c3, rfl, _, _, _⟩ := hR'
  exact ⟨_, _, _, _, _, _, _, _, _, _, _, rfl, hR, hb⟩
/-- The document's disk in a new block, and behind it a block for what is handed back. -/
structure RBox (w wr : World) (X : List Nat) (M : DM) : Prop where
  box : ∃ A1 A2 A3 n1 n2 n3 c1 c2 c3 s l, wr.heap[w.heap.size]? = some (.cells #[.slice A1 n1 c1, .slice A2 n2 c2, .slice A3 n3 c3, .int .i64 s, .int .i64 l] 33 (0, 0)) ∧ RefV wr (w.heap.size :: (w.heap.size + 1) :: X) (refOf M) (.agg #[.slice A1 n1 c1, .slice A2 n2 c2, .slice A3 n3 c3, .int .i64 s, .int .i64 l])
  res : wr.heap[w.heap.size + 1]? = some (.cells #[.slice none 0 0, .slice none 0 0, .slice none 0 0, .int .i64 0, .int .i64 0] 33 (0, 0))
  below : Below w.heap.size w wr
theorem RBox.kept (h : RBox w wr X M) (hb : Below wr.heap.size wr w') : RBox w w' X M := by
  obtain ⟨A1, A2, A3, n1, n2, n3, c1, c2, c3, s, l, hg, hv⟩ := h.box
  exact ⟨⟨A1, A2, A3, n1, n2, n3, c1, c2, c3, s, l, (hb.block _ (heap_lt hg)).trans hg, hv.below hb⟩, (hb.block _ (heap_lt h.res)).trans h.res, h.below.trans (lower' hb h.below.size)⟩
theorem RBox.new {A1 A2 A3 : Option Addr} {n1 n2 n3 c1 c2 c3 : Nat} {s l : Int} (hv : RefV w X (refOf M) (.agg #[.slice A1 n1 c1, .slice A2 n2 c2, .slice A3 n3 c3, .int .i64 s, .int .i64 l])) (hp : 0 < M.size) :
    RBox w ((w.alloc (.cells #[.slice A1 n1 c1, .slice A2 n2 c2, .slice A3 n3 c3, .int .i64 s, .int .i64 l] 33)).alloc (.cells #[.slice none 0 0, .slice none 0 0, .slice none 0 0, .int .i64 0, .int .i64 0] 33)) X M := by
  obtain ⟨g0, g1⟩ := two_new w (.cells #[.slice A1 n1 c1, .slice A2 n2 c2, .slice A3 n3 c3, .int .i64 s, .int .i64 l] 33) (.cells #[.slice none 0 0, .slice none 0 0, .slice none 0 0, .int .i64 0, .int .i64 0] 33)
  have hb : Below w.heap.size w ((w.alloc (.cells #[.slice A1 n1 c1, .slice A2 n2 c2, .slice A3 n3 c3, .int .i64 s, .int .i64 l] 33)).alloc (.cells #[.slice none 0 0, .slice none 0 0, .slice none 0 0, .int .i64 0, .int .i64 0] 33)) := below2 _ _ _
  have h2 := (hv.ext (Y := [w.heap.size, w.heap.size + 1]) hp (by simp)).sub (Y := w.heap.size :: (w.heap.size + 1) :: X) (by
    intro y hy
    simp at hy ⊢
    rcases hy with h | h | h
    · exact .inr (.inl h)
    · exact .inr (.inr h)
    · exact .inl h)
  exact ⟨⟨_, _, _, _, _, _, _, _, _, _, _, g0, h2.below hb⟩, g1, hb⟩
theorem RBox.drew (h : RBox w wr X M) : RBox w wr.drew X M := h.kept (Below.refl _ _).drew
theorem RBox.put (h : RBox w wr X M) (hb : Below wr.heap.size wr w') {M' : DM} {B1 B2 B3 : Option Addr} {m1 m2 m3 d1 d2 d3 : Nat} {s l : Int} (hR : RefV w' (w.heap.size :: (w.heap.size + 1) :: X) (refOf M') (.agg #[.slice B1 m1 d1, .slice B2 m2 d2, .slice B3 m3 d3, .int .i64 s, .int .i64 l])) :
    RBox w (((((w'.setCell ⟨w.heap.size, 0, none⟩ (.slice B1 m1 d1)).setCell ⟨w.heap.size, 1, none⟩ (.slice B2 m2 d2)).setCell ⟨w.heap.size, 2, none⟩ (.slice B3 m3 d3)).setCell ⟨w.heap.size, 3, none⟩ (.int .i64 s)).setCell ⟨w.heap.size, 4, none⟩ (.int .i64 l)) X M' := by
  have h7 := h.kept hb
  obtain ⟨A1, A2, A3, n1, n2, n3, c1, c2, c3, s', l', hg, hv⟩ := h7.box
  have hf : Fr w' (((((w'.setCell ⟨w.heap.size, 0, none⟩ (.slice B1 m1 d1)).setCell ⟨w.heap.size, 1, none⟩ (.slice B2 m2 d2)).setCell ⟨w.heap.size, 2, none⟩ (.slice B3 m3 d3)).setCell ⟨w.heap.size, 3, none⟩ (.int .i64 s)).setCell ⟨w.heap.size, 4, none⟩ (.int .i64 l)) [w.heap.size] := (((((Fr.refl _ _).setCell (by simp) _).setCell (by simp) _).setCell (by simp) _).setCell (by simp) _).setCell (by simp) _
  exact ⟨⟨_, _, _, _, _, _, _, _, _, _, _, set5 hg _ _ _ _ _, hR.fr hf (by simp)⟩, (hf.block _ (heap_lt h7.res) (by simp)).trans h7.res, h7.below.trans (hf.below h7.below.size (by simp))⟩
/-- What is handed back is stored. -/
theorem RBox.done (h : RBox w wr X M) (hb : Below wr.heap.size wr w') {M' : DM} {B1 B2 B3 : Option Addr} {m1 m2 m3 d1 d2 d3 : Nat} {s l : Int} (hR : RefV w' (w.heap.size :: (w.heap.size + 1) :: X) (refOf M') (.agg #[.slice B1 m1 d1, .slice B2 m2 d2, .slice B3 m3 d3, .int .i64 s, .int .i64 l])) :
    (((((w'.setCell ⟨w.heap.size + 1, 0, none⟩ (.slice B1 m1 d1)).setCell ⟨w.heap.size + 1, 1, none⟩ (.slice B2 m2 d2)).setCell ⟨w.heap.size + 1, 2, none⟩ (.slice B3 m3 d3)).setCell ⟨w.heap.size + 1, 3, none⟩ (.int .i64 s)).setCell ⟨w.heap.size + 1, 4, none⟩ (.int .i64 l)).heap[w.heap.size + 1]? = some (.cells #[.slice B1 m1 d1, .slice B2 m2 d2, .slice B3 m3 d3, .int .i64 s, .int .i64 l] 33 (0, 0)) ∧
    RefV (((((w'.setCell ⟨w.heap.size + 1, 0, none⟩ (.slice B1 m1 d1)).setCell ⟨w.heap.size + 1, 1, none⟩ (.slice B2 m2 d2)).setCell ⟨w.heap.size + 1, 2, none⟩ (.slice B3 m3 d3)).setCell ⟨w.heap.size + 1, 3, none⟩ (.int .i64 s)).setCell ⟨w.heap.size + 1, 4, none⟩ (.int .i64 l)) X (refOf M') (.agg #[.slice B1 m1 d1, .slice B2 m2 d2, .slice B3 m3 d3, .int .i64 s, .int .i64 l]) ∧
    Below w.heap.size w (((((w'.setCell ⟨w.heap.size + 1, 0, none⟩ (.slice B1 m1 d1)).setCell ⟨w.heap.size + 1, 1, none⟩ (.slice B2 m2 d2)).setCell ⟨w.heap.size + 1, 2, none⟩ (.slice B3 m3 d3)).setCell ⟨w.heap.size + 1, 3, none⟩ (.int .i64 s)).setCell ⟨w.heap.size + 1, 4, none⟩ (.int .i64 l)) := by
  have h7 := h.kept hb
  have hf : Fr w' (((((w'.setCell ⟨w.heap.size + 1, 0, none⟩ (.slice B1 m1 d1)).setCell ⟨w.heap.size + 1, 1, none⟩ (.slice B2 m2 d2)).setCell ⟨w.heap.size + 1, 2, none⟩ (.slice B3 m3 d3)).setCell ⟨w.heap.size + 1, 3, none⟩ (.int .i64 s)).setCell ⟨w.heap.size + 1, 4, none⟩ (.int .i64 l)) [w.heap.size + 1] := (((((Fr.refl _ _).setCell (by simp) _).setCell (by simp) _).setCell (by simp) _).setCell (by simp) _).setCell (by simp) _
  exact ⟨set5 h7.res _ _ _ _ _, (hR.fr hf (by simp)).sub (fun y hy => by simp [hy]), h7.below.trans (hf.below h7.below.size (by simp))⟩
end
theorem resWr {w : World} {b : Nat} {v0 v1 v2 v3 v4 : Value} (h : w.heap[b]? = some (.cells #[v0, v1, v2, v3, v4] 33 (0, 0))) (tmps : Array Value) (h2 : tmps.getD 6 undef = .pointer (some ⟨b, 0, none⟩)) :
    (results Try.f65 tmps).run Try.prog w = .ok (.tuple #[.agg #[v0, v1, v2, v3, v4], tmps.getD 7 undef]) w := by
  have e0 : w.cell? ⟨b, 0, none⟩ = some v0 := cell_of_row w b 0 _ _ _ h
  have e1 : w.cell? ⟨b, 1, none⟩ = some v1 := cell_of_row w b 1 _ _ _ h
  have e2 : w.cell? ⟨b, 2, none⟩ = some v2 := cell_of_row w b 2 _ _ _ h
  have e3 : w.cell? ⟨b, 3, none⟩ = some v3 := cell_of_row w b 3 _ _ _ h
  have e4 : w.cell? ⟨b, 4, none⟩ = some v4 := cell_of_row w b 4 _ _ _ h
  have h2' := h2
  simp only [Array.getD_eq_getD_getElem?] at h2'
  simp [results, Try.results65, go_sem, h2', e0, e1, e2, e3, e4]
set_option maxRecDepth 100000 in
set_option maxHeartbeats 4000000 in
theorem rwr_any (w : World) (X : List Nat) (M : DM) (T : Nat) (v : Value) (hv : RefV w X (refOf M) v) (hk : M.Ok T) (hp : 0 < M.size) (hX : ∀ x ∈ X, x < w.heap.size) (a0 : Nat) (A : Option Addr) (c B : Nat) (bs : List (List UInt8)) (hst : M.steps + bs.length ≤ 1000000000) (hr : Rd w B A (strs bs)) (hB : B ≤ w.heap.size) (h64 : ∀ b ∈ bs, b.length = 64) (hat : a0 + bs.length ≤ M.size) :
    Calls Try.prog 65 #[v, .int .i64 (a0 : Int), .slice A bs.length c] w fun e w' => ∃ v', e = .returned (.tuple #[v', .int .i64 (runOps (wrs a0 bs ++ [none]) M).1]) ∧ RefV w' X (refOf (runOps (wrs a0 bs ++ [none]) M).2) v' ∧ Below w.heap.size w w' := by
  have hv' := hv
  obtain ⟨A1, A2, A3, c1, c2, c3, rfl, _, _, _⟩ := hv'
  obtain ⟨n1, hn1⟩ : ∃ n, n = (refOf M).sure.length := ⟨_, rfl⟩
  obtain ⟨n2, hn2⟩ : ∃ n, n = (refOf M).now.length := ⟨_, rfl⟩
  obtain ⟨n3, hn3⟩ : ∃ n, n = (refOf M).fresh.length := ⟨_, rfl⟩
  obtain ⟨sx, hsx⟩ : ∃ n, n = (refOf M).steps := ⟨_, rfl⟩
  obtain ⟨lx, hlx⟩ : ∃ n, n = (refOf M).left := ⟨_, rfl⟩
  rw [← hn1, ← hn2, ← hn3, ← hsx, ← hlx] at hv ⊢
  have h2 := RBox.new hv hp
  have hsz4 := hk.size
  have hatI : (a0 : Int) + (bs.length : Int) ≤ 4096 := by omega
  have HR := Lib.hid (And.intro hr (And.intro hB (And.intro h64 (And.intro hat (And.intro hk (And.intro hst hX))))))
  clear hn1 hn2 hn3 hsx hlx hv hr hB h64 hat hk hp hst hX hsz4
  obtain ⟨Rz, hRz⟩ : ∃ Rz, Rz = runOps (wrs a0 bs ++ [none]) M := ⟨_, rfl⟩
  rw [← hRz]
  have HRZ := Lib.hid hRz
  clear hRz
  go_enter Try.func65, Try.ntmps65
  go_upto_region 2 with (fail)
  generalize ((w.alloc (.cells #[.slice A1 n1 c1, .slice A2 n2 c2, .slice A3 n3 c3, .int .i64 sx, .int .i64 lx] 33)).alloc (.cells #[.slice none 0 0, .slice none 0 0, .slice none 0 0, .int .i64 0, .int .i64 0] 33)) = W2 at h2 ⊢
  have H2 := Lib.hid h2
  clear h2
  go_wp2_with (fail)
  go_loopw [8, 9, 12] (fun cd _ a wr => ∃ (k : Nat) (Mk : DM), k ≤ bs.length ∧ a = .int .i64 (k : Int) ∧ cd = .int .i64 0 ∧ runOps (wrs a0 (bs.take k)) M = (0, Mk) ∧ RBox w wr X Mk)
    (fun _ _ a _ => bs.length - (intOf a).toNat)
  case atStart => exact ⟨0, M, by omega, rfl, rfl, rfl, H2.out⟩
  case round =>
    obtain ⟨k, Mk, hkl, rfl, rfl, hrun, hbx⟩ := hrel
    have hfa := runOps_facts (wrs a0 (bs.take k)) M
    rw [hrun, wrs_len, List.length_take] at hfa
    dsimp only at hfa
    have hok : Mk.Ok T := ⟨by rw [hfa.1]; exact HR.out.2.2.2.2.1.size, by have := HR.out.2.2.2.2.2.1; omega, Nat.le_trans hfa.2.2.1 HR.out.2.2.2.2.1.left, HR.out.2.2.2.2.1.T⟩
    obtain ⟨P1, P2, P3, p1, p2, p3, e1, e2, e3, sk, lk, hg, hvk⟩ := hbx.box
    have hXk : ∀ x ∈ w.heap.size :: (w.heap.size + 1) :: X, x < wr.heap.size := by
      intro x hx
      rcases List.mem_cons.1 hx with rfl | hx
      · exact heap_lt hg
      · rcases List.mem_cons.1 hx with rfl | hx
        · exact heap_lt hbx.res
        · exact Nat.lt_of_lt_of_le (HR.out.2.2.2.2.2.2 x hx) hbx.below.size
    by_cases hkn : k < bs.length
    · have hkI : (k : Int) < (bs.length : Int) := by omega
      obtain ⟨b, hbe⟩ : ∃ b, b = bs[k] := ⟨_, rfl⟩
      have hb64 : b.length = 64 := by rw [hbe]; exact HR.out.2.2.1 _ (List.getElem_mem hkn)
      have htk : bs.take (k + 1) = bs.take k ++ [b] := by rw [hbe]; exact List.take_succ_eq_append_getElem hkn
      have hki : a0 + k < Mk.size := by rw [hfa.1]; have := HR.out.2.2.2.1; omega
      have hsn : wrs a0 (bs.take (k + 1)) = wrs a0 (bs.take k) ++ [some (a0 + k, b)] := by
        rw [htk, wrs_snoc, List.length_take, Nat.min_eq_left (by omega)]
      obtain ⟨ab, ao, rfl, hab, hcell⟩ := HR.out.1.get (k := k) (by rw [strs_len]; exact hkn)
      have hrow : wr.cell? ⟨ab, ao + k, none⟩ = some (.string ⟨b.toArray⟩) := by
        have h := hcell
        simp only [strs, List.getElem_map, ← hbe] at h
        rw [← h]
        exact hbx.below.cell (p := ⟨ab, ao + k, none⟩) (Nat.lt_of_lt_of_le hab HR.out.2.1)
      have hwk : IntKind.i64.wrap ((a0 : Int) + (k : Int)) = (a0 : Int) + (k : Int) := by rw [IntKind.wrap_i64]; omega
      have hw := (hvk.below (Below.refl _ _).drew).rwrite (wr := wr.drew) hok hXk ((a0 + k : Nat) : Int) b
      rw [(write_eq hki hb64).1, (write_eq hki hb64).2, Int.natCast_add, ← hwk] at hw
      clear hwk
      have y0 := cell_of_row wr (w.heap.size) 0 _ _ _ hg; have y1 := cell_of_row wr (w.heap.size) 1 _ _ _ hg; have y2 := cell_of_row wr (w.heap.size) 2 _ _ _ hg; have y3 := cell_of_row wr (w.heap.size) 3 _ _ _ hg; have y4 := cell_of_row wr (w.heap.size) 4 _ _ _ hg
      have HG := Lib.hid hg
      cases hd : Mk.dead with
      | true =>
        rw [if_pos hd, if_pos hd] at hw
        have hz : Rz = (30, Mk) := by
          rw [HRZ.out, ← List.take_append_drop k (wrs a0 bs), wrs_take, List.append_assoc, runOps_append, hrun, if_pos rfl]
          exact runOps_dead hd (by simp)
        have HZ := Lib.hid hz
        have HW := Lib.hid hw
        have HX := Lib.hid hbx
        clear hw hz hd hrun hfa hok hvk hXk hbe hb64 htk hki hsn hcell hg hbx
        go_upto_region 5 with (fail)
        go_region_with (go_at_call 19; (with_reducible refine HW.out.mono ?_); rintro e w9 ⟨B1, B2, B3, r1, r2, r3, f1, f2, f3, s9, l9, rfl, hR9, hb9⟩; have hg9 := (hb9.block _ (heap_lt HG.out)).trans HG.out; have u0 := cell_of_row w9 (w.heap.size) 0 _ _ _ hg9; have u1 := cell_of_row w9 (w.heap.size) 1 _ _ _ hg9; have u2 := cell_of_row w9 (w.heap.size) 2 _ _ _ hg9; have u3 := cell_of_row w9 (w.heap.size) 3 _ _ _ hg9; have u4 := cell_of_row w9 (w.heap.size) 4 _ _ _ hg9; have t0 := frozen_of_row w9 (w.heap.size) 0 _ _ hg9; have t1 := frozen_of_row w9 (w.heap.size) 1 _ _ hg9; have t2 := frozen_of_row w9 (w.heap.size) 2 _ _ hg9; have t3 := frozen_of_row w9 (w.heap.size) 3 _ _ hg9; have t4 := frozen_of_row w9 (w.heap.size) 4 _ _ hg9)
        all_goals
          have hX9 := HX.out.drew.put hb9 hR9
          generalize (((((w9.setCell ⟨w.heap.size, 0, none⟩ (.slice B1 r1 f1)).setCell ⟨w.heap.size, 1, none⟩ (.slice B2 r2 f2)).setCell ⟨w.heap.size, 2, none⟩ (.slice B3 r3 f3)).setCell ⟨w.heap.size, 3, none⟩ (.int .i64 s9)).setCell ⟨w.heap.size, 4, none⟩ (.int .i64 l9)) = w10 at hX9 ⊢
          clear hb9 hR9 hg9 u0 u1 u2 u3 u4 t0 t1 t2 t3 t4
          obtain ⟨Q1, Q2, Q3, q1, q2, q3, g1, g2, g3, sq, lq, hgq, hvq⟩ := hX9.box
          have hrs := hX9.res
          have z0 := cell_of_row w10 (w.heap.size) 0 _ _ _ hgq; have z1 := cell_of_row w10 (w.heap.size) 1 _ _ _ hgq; have z2 := cell_of_row w10 (w.heap.size) 2 _ _ _ hgq; have z3 := cell_of_row w10 (w.heap.size) 3 _ _ _ hgq; have z4 := cell_of_row w10 (w.heap.size) 4 _ _ _ hgq
          have m0 := cell_of_row w10 (w.heap.size + 1) 0 _ _ _ hrs; have m1 := cell_of_row w10 (w.heap.size + 1) 1 _ _ _ hrs; have m2 := cell_of_row w10 (w.heap.size + 1) 2 _ _ _ hrs; have m3 := cell_of_row w10 (w.heap.size + 1) 3 _ _ _ hrs; have m4 := cell_of_row w10 (w.heap.size + 1) 4 _ _ _ hrs
          have mf0 := frozen_of_row w10 (w.heap.size + 1) 0 _ _ hrs; have mf1 := frozen_of_row w10 (w.heap.size + 1) 1 _ _ hrs; have mf2 := frozen_of_row w10 (w.heap.size + 1) 2 _ _ hrs; have mf3 := frozen_of_row w10 (w.heap.size + 1) 3 _ _ hrs; have mf4 := frozen_of_row w10 (w.heap.size + 1) 4 _ _ hrs
          have hdn := hX9.done (Below.refl _ _) hvq
          have HDN := Lib.hid hdn
          clear hdn hX9 hgq hvq hrs
          go_wp2_with (fail)
          exact bodyPost_ret (resWr HDN.out.1 _ rfl) rfl ⟨_, by rw [HZ.out]; rfl, by rw [HZ.out]; exact HDN.out.2.1, HDN.out.2.2⟩
      | false =>
        rw [if_neg (by simp [hd]), if_neg (by simp [hd])] at hw
        have hrn : runOps (wrs a0 (bs.take (k + 1))) M = (0, Mk.written (a0 + k) b) := by
          rw [hsn, runOps_append, hrun, if_pos rfl]
          simp only [runOps]
          rw [if_neg (by simp [hd])]
          rfl
        have HRN := Lib.hid hrn
        have HW := Lib.hid hw
        have HX := Lib.hid (And.intro hbx hkn)
        clear hw hrn hd hrun hfa hok hvk hXk hbe hb64 htk hki hsn hcell hg hbx
        go_upto_region 5 with (fail)
        go_region_with (go_at_call 19; (with_reducible refine HW.out.mono ?_); rintro e w9 ⟨B1, B2, B3, r1, r2, r3, f1, f2, f3, s9, l9, rfl, hR9, hb9⟩; have hg9 := (hb9.block _ (heap_lt HG.out)).trans HG.out; have u0 := cell_of_row w9 (w.heap.size) 0 _ _ _ hg9; have u1 := cell_of_row w9 (w.heap.size) 1 _ _ _ hg9; have u2 := cell_of_row w9 (w.heap.size) 2 _ _ _ hg9; have u3 := cell_of_row w9 (w.heap.size) 3 _ _ _ hg9; have u4 := cell_of_row w9 (w.heap.size) 4 _ _ _ hg9; have t0 := frozen_of_row w9 (w.heap.size) 0 _ _ hg9; have t1 := frozen_of_row w9 (w.heap.size) 1 _ _ hg9; have t2 := frozen_of_row w9 (w.heap.size) 2 _ _ hg9; have t3 := frozen_of_row w9 (w.heap.size) 3 _ _ hg9; have t4 := frozen_of_row w9 (w.heap.size) 4 _ _ hg9)
        all_goals
          have hX9 := HX.out.1.drew.put hb9 hR9
          generalize (((((w9.setCell ⟨w.heap.size, 0, none⟩ (.slice B1 r1 f1)).setCell ⟨w.heap.size, 1, none⟩ (.slice B2 r2 f2)).setCell ⟨w.heap.size, 2, none⟩ (.slice B3 r3 f3)).setCell ⟨w.heap.size, 3, none⟩ (.int .i64 s9)).setCell ⟨w.heap.size, 4, none⟩ (.int .i64 l9)) = w10 at hX9 ⊢
          clear hb9 hR9 hg9 u0 u1 u2 u3 u4 t0 t1 t2 t3 t4
          have HX9 := Lib.hid hX9
          clear hX9
          go_wp2_with (fail)
          exact ⟨⟨k + 1, _, HX.out.2, by simp, rfl, HRN.out, HX9.out⟩, by simp [intOf]; have := HX.out.2; omega⟩
    · obtain rfl : k = bs.length := by omega
      have hkI : ¬ (bs.length : Int) < (bs.length : Int) := by omega
      rw [List.take_length] at hrun
      have hz : Rz = (Mk.flushE, Mk.flushM) := by
        rw [HRZ.out, runOps_append, hrun, if_pos rfl]
        unfold runOps DM.flushE DM.flushM
        cases hd : Mk.dead with
        | true => rfl
        | false => rfl
      have hw := hvk.rflush hok hXk
      have y0 := cell_of_row wr (w.heap.size) 0 _ _ _ hg; have y1 := cell_of_row wr (w.heap.size) 1 _ _ _ hg; have y2 := cell_of_row wr (w.heap.size) 2 _ _ _ hg; have y3 := cell_of_row wr (w.heap.size) 3 _ _ _ hg; have y4 := cell_of_row wr (w.heap.size) 4 _ _ _ hg
      have HZ := Lib.hid hz
      have HW := Lib.hid hw
      have HX := Lib.hid (And.intro hbx hbx.res)
      clear hw hz hrun hfa hok hvk hXk hg hbx
      go_wp2_with (first
        | (go_at_call 48; (with_reducible refine HW.out.mono ?_); rintro e w9 ⟨B1, B2, B3, r1, r2, r3, f1, f2, f3, s9, l9, rfl, hR9, hb9⟩; have hdn := HX.out.1.done hb9 hR9; have HDN := Lib.hid hdn; have hrs := (hb9.block _ (heap_lt HX.out.2)).trans HX.out.2; have z0 := cell_of_row w9 (w.heap.size + 1) 0 _ _ _ hrs; have z1 := cell_of_row w9 (w.heap.size + 1) 1 _ _ _ hrs; have z2 := cell_of_row w9 (w.heap.size + 1) 2 _ _ _ hrs; have z3 := cell_of_row w9 (w.heap.size + 1) 3 _ _ _ hrs; have z4 := cell_of_row w9 (w.heap.size + 1) 4 _ _ _ hrs; have zf0 := frozen_of_row w9 (w.heap.size + 1) 0 _ _ hrs; have zf1 := frozen_of_row w9 (w.heap.size + 1) 1 _ _ hrs; have zf2 := frozen_of_row w9 (w.heap.size + 1) 2 _ _ hrs; have zf3 := frozen_of_row w9 (w.heap.size + 1) 3 _ _ hrs; have zf4 := frozen_of_row w9 (w.heap.size + 1) 4 _ _ hrs; clear hdn)
        | fail)
      exact bodyPost_ret (resWr HDN.out.1 _ rfl) rfl ⟨_, by rw [HZ.out]; rfl, by rw [HZ.out]; exact HDN.out.2.1, HDN.out.2.2⟩
end Go.Proofs.Ytdjcpjfomgfjlaa
/- Images in two areas, plainly. -/
namespace Go.Proofs.Ytdjcpjfomgfjlaa

def be4 (n : Nat) : List UInt8 := [UInt8.ofNat (n / 16777216), UInt8.ofNat (n / 65536), UInt8.ofNat (n / 256), UInt8.ofNat n]
theorem beV_be4 (n : Nat) (h : n < 4294967296) : beV (be4 n) = n := by
  simp only [beV, be4, List.foldl, UInt8.toNat_ofNat']
  omega
/-- An image's head. -/
def headI (s n : Nat) : List UInt8 := 73 :: (be8 s ++ (be4 n ++ (List.replicate 50 0 ++ [90])))
theorem headI_len (s n : Nat) : (headI s n).length = 64 := rfl
theorem headI_first (s n : Nat) : (headI s n)[0]? = some 73 := rfl
theorem headI_last (s n : Nat) : (headI s n)[63]? = some 90 := rfl
def sizeV (b : List UInt8) : Nat := beV ((b.drop 9).take 4)
theorem seqV_headI (s n : Nat) (h : s < 18446744073709551616) : seqV (headI s n) = s := by
  have : ((headI s n).drop 1).take 8 = be8 s := rfl
  rw [seqV, this, beV_be8 s h]
theorem sizeV_head (s n : Nat) (h : n < 4294967296) : sizeV (headI s n) = n := by
  have : ((headI s n).drop 9).take 4 = be4 n := rfl
  rw [sizeV, this, beV_be4 n h]
/-- What an area's first sector says. -/
def ahd (room : Nat) (b : List UInt8) : Option (Nat × Nat) :=
  if 1 ≤ seqV b ∧ seqV b ≤ 4611686018427387904 ∧ sizeV b ≤ room ∧ b = headI (seqV b) (sizeV b) then some (seqV b, sizeV b) else none
theorem ahd_head {room s n : Nat} (h1 : 1 ≤ s) (h2 : s ≤ 4611686018427387904) (h3 : n ≤ room) (h4 : n < 4294967296) : ahd room (headI s n) = some (s, n) := by
  have e1 := seqV_headI s n (by omega)
  have e2 := sizeV_head s n h4
  unfold ahd
  rw [e1, e2, if_pos ⟨h1, h2, h3, rfl⟩]
theorem ahd_some {room : Nat} {b : List UInt8} {s n : Nat} (h : ahd room b = some (s, n)) : 1 ≤ s ∧ s ≤ 4611686018427387904 ∧ n ≤ room ∧ b = headI s n := by
  unfold ahd at h
  split at h
  · rename_i hx
    injection h with h
    injection h with h1 h2
    subst h1 h2
    exact hx
  · cases h
theorem ahd_last {room : Nat} {b : List UInt8} (h : b[63]? ≠ some 90) : ahd room b = none := by
  cases hb : ahd room b with
  | none => rfl
  | some x => exact absurd ((ahd_some hb).2.2.2 ▸ headI_last _ _) h
theorem ahd_first {room : Nat} {b : List UInt8} (h : b[0]? ≠ some 73) : ahd room b = none := by
  cases hb : ahd room b with
  | none => rfl
  | some x => exact absurd ((ahd_some hb).2.2.2 ▸ headI_first _ _) h
theorem ahd_zero (room : Nat) : ahd room zero64 = none := ahd_first (by simp [zero64])
def seqO : Option (Nat × Nat) → Nat
  | none => 0
  | some (s, _) => s
theorem seqO_pos {room : Nat} {b : List UInt8} (h : seqO (ahd room b) = 0) : ahd room b = none := by
  cases hb : ahd room b with
  | none => rfl
  | some x => obtain ⟨s, n⟩ := x; rw [hb] at h; have := (ahd_some hb).1; change s = 0 at h; omega
/-- Is it the one ahead that counts? -/
def pick (x y : Option (Nat × Nat)) : Bool := decide (0 < seqO x ∧ seqO y ≤ seqO x)
def roomI (count : Nat) : Nat := (count - 1) * 64
def imgAt (g : Nat → List UInt8) (a : Nat) (x : Option (Nat × Nat)) : Option (Nat × List UInt8) := x.map fun p => (p.1, (cat g (a + 1) (secs p.2)).take p.2)
section
variable (g : Nat → List UInt8) (first count : Nat)
def hdA : Option (Nat × Nat) := ahd (roomI count) (g first)
def hdB : Option (Nat × Nat) := ahd (roomI count) (g (first + count))
/-- The sector of the area that counts, and of the other one. -/
def areaC : Nat := if pick (hdA g first count) (hdB g first count) then first else first + count
def areaO : Nat := if pick (hdA g first count) (hdB g first count) then first + count else first
def hdC : Option (Nat × Nat) := if pick (hdA g first count) (hdB g first count) then hdA g first count else hdB g first count
/-- The image that counts. -/
def imgOf : Option (Nat × List UInt8) := imgAt g (areaC g first count) (hdC g first count)
end
def seqI : Option (Nat × List UInt8) → Nat
  | none => 0
  | some (s, _) => s
theorem seqI_at (g : Nat → List UInt8) (a : Nat) (x : Option (Nat × Nat)) : seqI (imgAt g a x) = seqO x := by
  cases x with
  | none => rfl
  | some p => rfl
theorem seqI_of (g : Nat → List UInt8) (first count : Nat) : seqI (imgOf g first count) = seqO (hdC g first count) := seqI_at _ _ _
theorem secs_room {n count : Nat} (h : n ≤ roomI count) (hc : 2 ≤ count) : secs n < count := by unfold secs; unfold roomI at h; omega
theorem imgAt_congr {g g' : Nat → List UInt8} {a count : Nat} {x : Option (Nat × Nat)} (hx : ∀ s n, x = some (s, n) → secs n < count) (h : ∀ i, a < i → i < a + count → g' i = g i) : imgAt g' a x = imgAt g a x := by
  cases x with
  | none => rfl
  | some p =>
    obtain ⟨s, n⟩ := p
    have := hx s n rfl
    show some (s, _) = some (s, _)
    rw [cat_congr (g := g') (g' := g) fun i hi => h (a + 1 + i) (by omega) (by show a + 1 + i < a + count; have : i < secs n := hi; omega)]
variable {g g' : Nat → List UInt8} {first count : Nat}
theorem hdC_secs (hc : 2 ≤ count) : ∀ s n, hdC g first count = some (s, n) → secs n < count := by
  intro s n h
  unfold hdC at h
  split at h
  · exact secs_room (ahd_some h).2.2.1 hc
  · exact secs_room (ahd_some h).2.2.1 hc
theorem areas (g : Nat → List UInt8) (first count : Nat) : (areaC g first count = first ∧ areaO g first count = first + count) ∨ (areaC g first count = first + count ∧ areaO g first count = first) := by
  unfold areaC areaO
  split
  · exact .inl ⟨rfl, rfl⟩
  · exact .inr ⟨rfl, rfl⟩
/-- The other area turned, but not to a new image: what counts stays. -/
theorem img_stays (hc : 2 ≤ count) (h1 : ∀ i, areaC g first count ≤ i → i < areaC g first count + count → g' i = g i)
    (h2 : ahd (roomI count) (g' (areaO g first count)) = none ∨ g' (areaO g first count) = g (areaO g first count)) : imgOf g' first count = imgOf g first count := by
  by_cases hp : pick (hdA g first count) (hdB g first count) = true
  · have eC : areaC g first count = first := if_pos hp
    have eO : areaO g first count = first + count := if_pos hp
    rw [eC] at h1
    rw [eO] at h2
    have eA : hdA g' first count = hdA g first count := by unfold hdA; rw [h1 first (Nat.le_refl _) (by omega)]
    have hle : seqO (hdB g' first count) ≤ seqO (hdB g first count) := by
      unfold hdB
      rcases h2 with h2 | h2
      · rw [h2]; exact Nat.zero_le _
      · rw [h2]; exact Nat.le_refl _
    have hp' : pick (hdA g' first count) (hdB g' first count) = true := by
      unfold pick at hp ⊢
      simp only [decide_eq_true_eq] at hp ⊢
      rw [eA]
      omega
    have e1 : areaC g' first count = first := if_pos hp'
    have e2 : hdC g' first count = hdC g first count := by
      unfold hdC
      rw [if_pos hp, if_pos hp', eA]
    unfold imgOf
    rw [e1, eC, e2]
    exact imgAt_congr (hdC_secs hc) fun i h3 h4 => h1 i (by omega) h4
  · have eC : areaC g first count = first + count := if_neg hp
    have eO : areaO g first count = first := if_neg hp
    rw [eC] at h1
    rw [eO] at h2
    have eB : hdB g' first count = hdB g first count := by unfold hdB; rw [h1 (first + count) (Nat.le_refl _) (by omega)]
    have hp' : ¬ pick (hdA g' first count) (hdB g' first count) = true := by
      unfold pick at hp ⊢
      simp only [decide_eq_true_eq] at hp ⊢
      rw [eB]
      unfold hdA at hp ⊢
      rcases h2 with h2 | h2
      · rw [h2]; show ¬ (0 < 0 ∧ _); omega
      · rw [h2]; exact hp
    have e1 : areaC g' first count = first + count := if_neg hp'
    have e2 : hdC g' first count = hdC g first count := by
      unfold hdC
      rw [if_neg hp, if_neg hp', eB]
    unfold imgOf
    rw [e1, eC, e2]
    exact imgAt_congr (hdC_secs hc) fun i h3 h4 => h1 i (by omega) h4
/-- The other area has a newer image: that counts. -/
theorem img_new {s n : Nat} (hC : g' (areaC g first count) = g (areaC g first count)) (hO : ahd (roomI count) (g' (areaO g first count)) = some (s, n)) (hs : seqO (hdC g first count) < s) :
    imgOf g' first count = some (s, (cat g' (areaO g first count + 1) (secs n)).take n) ∧ areaC g' first count = areaO g first count ∧ areaO g' first count = areaC g first count := by
  by_cases hp : pick (hdA g first count) (hdB g first count) = true
  · have eC : areaC g first count = first := if_pos hp
    have eO : areaO g first count = first + count := if_pos hp
    have eH : hdC g first count = hdA g first count := if_pos hp
    rw [eC] at hC
    rw [eO] at hO ⊢
    rw [eH] at hs
    rw [eC]
    have eA : hdA g' first count = hdA g first count := by unfold hdA; rw [hC]
    have hp' : ¬ pick (hdA g' first count) (hdB g' first count) = true := by
      unfold pick
      simp only [decide_eq_true_eq]
      rw [eA]
      unfold hdB
      rw [hO]
      show ¬ (_ ∧ s ≤ _)
      omega
    have e1 : areaC g' first count = first + count := if_neg hp'
    have e2 : hdC g' first count = some (s, n) := by unfold hdC; rw [if_neg hp']; exact hO
    refine ⟨?_, e1, if_neg hp'⟩
    unfold imgOf
    rw [e1, e2]
    rfl
  · have eC : areaC g first count = first + count := if_neg hp
    have eO : areaO g first count = first := if_neg hp
    have eH : hdC g first count = hdB g first count := if_neg hp
    rw [eC] at hC
    rw [eO] at hO ⊢
    rw [eH] at hs
    rw [eC]
    have eB : hdB g' first count = hdB g first count := by unfold hdB; rw [hC]
    have hp' : pick (hdA g' first count) (hdB g' first count) = true := by
      unfold pick
      simp only [decide_eq_true_eq]
      rw [eB]
      unfold hdA
      rw [hO]
      show 0 < s ∧ _ ≤ s
      omega
    have e1 : areaC g' first count = first := if_pos hp'
    have e2 : hdC g' first count = some (s, n) := by unfold hdC; rw [if_pos hp']; exact hO
    refine ⟨?_, e1, if_pos hp'⟩
    unfold imgOf
    rw [e1, e2]
    rfl
def saveOps (o s : Nat) (d : List UInt8) : List DOp := some (o, zero64) :: none :: (wrs (o + 1) (chunks d) ++ (none :: some (o, headI s d.length) :: none :: []))
theorem saveOps_len (o s : Nat) (d : List UInt8) : (saveOps o s d).length = secs d.length + 5 := by simp [saveOps, wrs_len, chunks_len]
end Go.Proofs.Ytdjcpjfomgfjlaa
/- Wherever the power goes within a Save. -/
namespace Go.Proofs.Ytdjcpjfomgfjlaa

section
variable {M : DM} {first count s : Nat} {d : List UInt8} {g : Nat → List UInt8}
/-- The disk behind the first flush of a Save, and behind the second one. -/
def sv1 (M : DM) (o : Nat) : DM := (M.written o zero64).flushed
def sv2 (M : DM) (o : Nat) (d : List UInt8) : DM := (doneOps (wrs (o + 1) (chunks d)) (sv1 M o)).flushed
theorem sv1_facts (hc : Calm M) (o : Nat) : Calm (sv1 M o) ∧ (∀ i, i ≠ o → (sv1 M o).sure i = M.sure i) ∧ (sv1 M o).sure o = zero64 := by
  refine ⟨fun i => rfl, fun i hi => ?_, ?_⟩
  · show ((if i = o then some zero64 else M.wr i)).getD (M.sure i) = _
    rw [if_neg hi, hc i]; rfl
  · show ((if o = o then some zero64 else M.wr o)).getD (M.sure o) = _
    rw [if_pos rfl]; rfl
theorem sv2_facts (hc : Calm M) (o : Nat) (d : List UInt8) : Calm (sv2 M o d) ∧ (∀ i, ¬ (o + 1 ≤ i ∧ i < o + 1 + secs d.length) → (sv2 M o d).sure i = (sv1 M o).sure i) ∧ ∀ i, i < secs d.length → some ((sv2 M o d).sure (o + 1 + i)) = (chunks d)[i]? := by
  obtain ⟨h1, h2⟩ := done_wrs (o + 1) (chunks d) (sv1 M o)
  rw [chunks_len] at h2
  have hc1 := (sv1_facts hc o).1
  refine ⟨fun i => rfl, fun i hi => ?_, fun i hi => ?_⟩
  · show ((doneOps (wrs (o + 1) (chunks d)) (sv1 M o)).wr i).getD ((doneOps (wrs (o + 1) (chunks d)) (sv1 M o)).sure i) = _
    rw [h2, if_neg hi, hc1 i, h1]; rfl
  · show some (((doneOps (wrs (o + 1) (chunks d)) (sv1 M o)).wr _).getD ((doneOps (wrs (o + 1) (chunks d)) (sv1 M o)).sure _)) = _
    rw [h2, if_pos (by omega), h1, show o + 1 + i - (o + 1) = i by omega, chunks_get d i hi]; rfl
/-- The image that is there behind all steps. -/
theorem new_there (h3 : d.length ≤ roomI count) (h4 : d.length < 4294967296) (h1 : 1 ≤ s) (h2 : s ≤ 4611686018427387904) (hs : seqI (imgOf M.sure first count) < s)
    (hC : g (areaC M.sure first count) = M.sure (areaC M.sure first count)) (hO : g (areaO M.sure first count) = headI s d.length) (hd : ∀ i, i < secs d.length → some (g (areaO M.sure first count + 1 + i)) = (chunks d)[i]?) :
    imgOf g first count = some (s, d) := by
  rw [seqI_of] at hs
  obtain ⟨e, _, _⟩ := img_new (g := M.sure) (g' := g) (s := s) (n := d.length) hC (by rw [hO]; exact ahd_head h1 h2 h3 h4) hs
  rw [e, cat_chunks d g _ hd]
/-- Wherever the power goes within a Save: the image that counted, or the new one; behind all steps the new one. -/
theorem save_cut (hc : Calm M) (h2c : 2 ≤ count) (h3 : d.length ≤ roomI count) (h4 : d.length < 4294967296) (h1 : 1 ≤ s) (h2 : s ≤ 4611686018427387904) (hs : seqI (imgOf M.sure first count) < s)
    {behind : Nat} (hb : first + 2 * count ≤ behind) {k : Nat} (hg : Crashes (doneOps ((saveOps (areaO M.sure first count) s d).take k) M) behind g) :
    (imgOf g first count = imgOf M.sure first count ∨ imgOf g first count = some (s, d)) ∧ ((saveOps (areaO M.sure first count) s d).length ≤ k → imgOf g first count = some (s, d)) := by
  have hn : secs d.length < count := secs_room h3 h2c
  obtain ⟨a, ha⟩ : ∃ a, a = areaC M.sure first count := ⟨_, rfl⟩
  obtain ⟨o, ho⟩ : ∃ o, o = areaO M.sure first count := ⟨_, rfl⟩
  have hao : (a = first ∧ o = first + count) ∨ (a = first + count ∧ o = first) := by rw [ha, ho]; exact areas _ _ _
  rw [← ho] at hg ⊢
  have hstay : (∀ i, a ≤ i → i < a + count → g i = M.sure i) → (ahd (roomI count) (g o) = none ∨ g o = M.sure o) → imgOf g first count = imgOf M.sure first count := fun q1 q2 =>
    img_stays h2c (by rw [← ha]; exact q1) (by rw [← ho]; exact q2)
  have hnew : g a = M.sure a → g o = headI s d.length → (∀ i, i < secs d.length → some (g (o + 1 + i)) = (chunks d)[i]?) → imgOf g first count = some (s, d) := fun q1 q2 q3 =>
    new_there h3 h4 h1 h2 hs (by rw [← ha]; exact q1) (by rw [← ho]; exact q2) (by rw [← ho]; exact q3)
  clear ha ho
  obtain ⟨e1, e2, e3⟩ := sv1_facts hc o
  obtain ⟨f1, f2, f3⟩ := sv2_facts hc o d
  by_cases c0 : k = 0
  · subst c0
    have hsame : ∀ i, i < behind → g i = M.sure i := fun i hi => mix_zero (hg i hi) (hc i)
    exact ⟨.inl (hstay (fun i h5 h6 => hsame i (by omega)) (.inr (hsame o (by omega)))), fun hl => by rw [saveOps_len] at hl; omega⟩
  by_cases c1 : k = 1
  · subst c1
    have hg' : Crashes (M.written o zero64) behind g := hg
    have hw : ∀ i, i ≠ o → (M.written o zero64).wr i = none := fun i hi => by
      show (if i = o then some zero64 else M.wr i) = none
      rw [if_neg hi]; exact hc i
    refine ⟨.inl (hstay (fun i h5 h6 => mix_zero (M := M.written o zero64) (hg' i (by omega)) (hw i (by omega))) ?_), fun hl => by rw [saveOps_len] at hl; omega⟩
    rcases hg' o (by omega) with ⟨h5, _⟩ | ⟨l, c, h5, h6⟩
    · exfalso
      change (if o = o then some zero64 else _) = none at h5
      rw [if_pos rfl] at h5; cases h5
    · change (if o = o then some zero64 else _) = some l at h5
      rw [if_pos rfl] at h5
      injection h5 with h5
      by_cases hcz : c = 0
      · right; rw [h6, hcz]; rfl
      · left
        refine ahd_first ?_
        rw [h6, ← h5, List.getElem?_append_left (by simp [zero64]; omega), List.getElem?_take_of_lt (by omega)]
        simp [zero64]
  obtain ⟨j, rfl⟩ : ∃ j, k = 2 + j := ⟨k - 2, by omega⟩
  have hops : doneOps ((saveOps o s d).take (2 + j)) M = doneOps ((wrs (o + 1) (chunks d) ++ (none :: some (o, headI s d.length) :: none :: [])).take j) (sv1 M o) := by
    rw [Nat.add_comm]; rfl
  rw [hops] at hg
  clear hops
  have hz : ahd (roomI count) ((sv1 M o).sure o) = none := by rw [e3]; exact ahd_zero _
  by_cases c2 : j ≤ secs d.length
  · have e : (wrs (o + 1) (chunks d) ++ (none :: some (o, headI s d.length) :: none :: [])).take j = wrs (o + 1) ((chunks d).take j) := by
      rw [List.take_append_of_le_length (by rw [wrs_len, chunks_len]; exact c2), wrs_take]
    rw [e] at hg
    obtain ⟨q1, q2⟩ := done_wrs (o + 1) ((chunks d).take j) (sv1 M o)
    have hout : ∀ i, ¬ (o + 1 ≤ i ∧ i < o + 1 + secs d.length) → i < behind → g i = (sv1 M o).sure i := fun i hi hb2 => by
      rw [mix_zero (hg i hb2) (by rw [q2, if_neg (by rw [List.length_take, chunks_len]; omega)]; exact e1 i), q1]
    refine ⟨.inl (hstay (fun i h5 h6 => ?_) (.inl ?_)), fun hl => by rw [saveOps_len] at hl; omega⟩
    · rw [hout i (by omega) (by omega), e2 i (by omega)]
    · rw [hout o (by omega) (by omega)]; exact hz
  by_cases c3 : j = secs d.length + 1
  · have e : doneOps ((wrs (o + 1) (chunks d) ++ (none :: some (o, headI s d.length) :: none :: [])).take j) (sv1 M o) = sv2 M o d := by
      rw [c3, List.take_append, wrs_len, chunks_len, List.take_of_length_le (by rw [wrs_len, chunks_len]; omega), show secs d.length + 1 - secs d.length = 1 by omega, doneOps_append]
      rfl
    rw [e] at hg
    have hall : ∀ i, i < behind → g i = (sv2 M o d).sure i := fun i hi => mix_zero (hg i hi) (f1 i)
    refine ⟨.inl (hstay (fun i h5 h6 => ?_) (.inl ?_)), fun hl => by rw [saveOps_len] at hl; omega⟩
    · rw [hall i (by omega), f2 i (by omega), e2 i (by omega)]
    · rw [hall o (by omega), f2 o (by omega)]; exact hz
  by_cases c4 : j = secs d.length + 2
  · have e : doneOps ((wrs (o + 1) (chunks d) ++ (none :: some (o, headI s d.length) :: none :: [])).take j) (sv1 M o) = (sv2 M o d).written o (headI s d.length) := by
      rw [c4, List.take_append, wrs_len, chunks_len, List.take_of_length_le (by rw [wrs_len, chunks_len]; omega), show secs d.length + 2 - secs d.length = 2 by omega, doneOps_append]
      rfl
    rw [e] at hg
    have hw : ∀ i, i ≠ o → ((sv2 M o d).written o (headI s d.length)).wr i = none := fun i hi => by
      show (if i = o then some (headI s d.length) else (sv2 M o d).wr i) = none
      rw [if_neg hi]; exact f1 i
    have hoth : ∀ i, i ≠ o → i < behind → g i = (sv2 M o d).sure i := fun i hi hb2 => mix_zero (M := (sv2 M o d).written o (headI s d.length)) (hg i hb2) (hw i hi)
    have hsa : ∀ i, a ≤ i → i < a + count → g i = M.sure i := fun i h5 h6 => by rw [hoth i (by omega) (by omega), f2 i (by omega), e2 i (by omega)]
    refine ⟨?_, fun hl => by rw [saveOps_len] at hl; omega⟩
    rcases hg o (by omega) with ⟨h5, _⟩ | ⟨l, c, h5, h6⟩
    · exfalso
      change (if o = o then some (headI s d.length) else _) = none at h5
      rw [if_pos rfl] at h5; cases h5
    · change (if o = o then some (headI s d.length) else _) = some l at h5
      rw [if_pos rfl] at h5
      injection h5 with h5
      have hzs : ((sv2 M o d).written o (headI s d.length)).sure o = zero64 := by
        show (sv2 M o d).sure o = _
        rw [f2 o (by omega), e3]
      rw [hzs, ← h5] at h6
      by_cases h64 : 64 ≤ c
      · right
        refine hnew (hsa a (Nat.le_refl _) (by omega)) ?_ (fun i hi => ?_)
        · rw [h6, List.take_of_length_le (by rw [headI_len]; exact h64), List.drop_of_length_le (by simpa [zero64] using h64), List.append_nil]
        · rw [hoth _ (by omega) (by omega)]; exact f3 i hi
      · left
        refine hstay hsa (.inl (ahd_last ?_))
        have hcl : ((headI s d.length).take c).length = c := by rw [List.length_take, headI_len]; omega
        rw [h6, List.getElem?_append_right (by omega), hcl, List.getElem?_drop, show c + (63 - c) = 63 by omega]
        simp [zero64]
  · have e : doneOps ((wrs (o + 1) (chunks d) ++ (none :: some (o, headI s d.length) :: none :: [])).take j) (sv1 M o) = ((sv2 M o d).written o (headI s d.length)).flushed := by
      rw [List.take_of_length_le (by simp [wrs_len, chunks_len]; omega), doneOps_append]
      rfl
    rw [e] at hg
    have hsv : ∀ i, ((sv2 M o d).written o (headI s d.length)).flushed.sure i = if i = o then headI s d.length else (sv2 M o d).sure i := by
      intro i
      show ((if i = o then some (headI s d.length) else (sv2 M o d).wr i)).getD ((sv2 M o d).sure i) = _
      by_cases hi : i = o
      · rw [if_pos hi, if_pos hi]; rfl
      · rw [if_neg hi, if_neg hi, f1 i]; rfl
    have hall : ∀ i, i < behind → g i = if i = o then headI s d.length else (sv2 M o d).sure i := fun i hi => by rw [← hsv i]; exact mix_zero (hg i hi) rfl
    have hn2 : imgOf g first count = some (s, d) := by
      refine hnew ?_ ?_ (fun i hi => ?_)
      · rw [hall a (by omega), if_neg (by omega), f2 a (by omega), e2 a (by omega)]
      · rw [hall o (by omega), if_pos rfl]
      · rw [hall _ (by omega), if_neg (by omega)]; exact f3 i hi
    exact ⟨.inr hn2, fun _ => hn2⟩
end
end Go.Proofs.Ytdjcpjfomgfjlaa
/- The document's log: Sectors, Head, End. -/
namespace Go.Proofs.Ytdjcpjfomgfjlaa
open Go.RowKit Go.Maps

set_option maxRecDepth 100000 in
theorem rsecs_any (n : Nat) (w : World) (hn : n ≤ 1000000) :
    Calls Try.prog 47 #[.int .i64 (n : Int)] w fun e w' => e = .returned (.int .i64 (secs n : Int)) ∧ w = w' := by
  have hss : secs n ≤ 20000 := by unfold secs; omega
  have hnI : (n : Int) ≤ 1000000 := by omega
  have HN := Lib.hid hn
  clear hn
  go_enter Try.func47, Try.ntmps47
  go_wp2
  go_loop [3] (fun u => ∃ k : Nat, k ≤ secs n ∧ u = .int .i64 (k : Int)) (fun u => secs n - (intOf u).toNat)
  case atStart => exact ⟨0, by omega, rfl⟩
  case round =>
    obtain ⟨k, hk, rfl⟩ := hrel
    have hkI : (k : Int) ≤ 20000 := by omega
    by_cases hkl : k < secs n
    · have h1 : (k : Int) * 64 < (n : Int) := by unfold secs at hkl; omega
      go_wp2
      go_round
      case rel => exact ⟨k + 1, by omega, by simp⟩
      case measure => simp [intOf]; omega
    · obtain rfl : k = secs n := by omega
      have h1 : ¬ (secs n : Int) * 64 < (n : Int) := by unfold secs; omega
      go_wp2
      go_ret
      exact ⟨rfl, rfl⟩
/-- A head, of whose Seq the last k bytes are written. -/
def hdR (s : Nat) : Nat → List UInt8
  | 0 => (zero64.set 0 82).set 63 165
  | k + 1 => (hdR s k).set (8 - k) (UInt8.ofNat (s / 256 ^ k))
theorem hdR_len (s : Nat) : ∀ k, (hdR s k).length = 64
  | 0 => rfl
  | k + 1 => by rw [hdR, List.length_set, hdR_len s k]
theorem hdR_end (s n : Nat) : ((hdR s 8).set 9 (UInt8.ofNat (n / 256))).set 10 (UInt8.ofNat n) = headL s n := by
  simp [hdR, zero64, headL, be8, be2, List.replicate_succ]
set_option maxRecDepth 100000 in
set_option maxHeartbeats 1000000 in
theorem rHead_any (s n : Nat) (w : World) (hs : s ≤ 9223372036854775807) (hn : n ≤ 65535) :
    Calls Try.prog 27 #[.int .i64 (s : Int), .int .i64 (n : Int)] w fun e w' => e = .returned (.string ⟨(headL s n).toArray⟩) ∧ Below w.heap.size w w' := by
  have hmk := make64 w
  have h0 : ((u8s zero64).set 0 (.int .u8 82)).set 63 (.int .u8 165) = u8s (hdR s 0) := rfl
  have hg : (w.alloc (.cells (((u8s zero64).set 0 (.int .u8 82)).set 63 (.int .u8 165)).toArray 5)).heap[w.heap.size]? = some (.cells (u8s (hdR s 0)).toArray 5 (0, 0)) := by rw [h0]; exact heap_alloc_new w _
  have hB1 : Below w.heap.size w (w.alloc (.cells (((u8s zero64).set 0 (.int .u8 82)).set 63 (.int .u8 165)).toArray 5)) := (Below.refl _ w).alloc (Nat.le_refl _) _
  have HG := Lib.hid (And.intro hg (And.intro hB1 hs))
  have hn' : (n : Int) ≤ 65535 := by omega
  clear hB1 hg h0 hs hn
  go_enter Try.func27, Try.ntmps27
  go_wp2
  go_loopw [0, 6] (fun z i wr => ∃ k : Nat, k ≤ 8 ∧ i = .int .i64 (8 - (k : Int)) ∧ z = .int .i64 ((s / 256 ^ k : Nat) : Int) ∧ wr.heap[w.heap.size]? = some (.cells (u8s (hdR s k)).toArray 5 (0, 0)) ∧ Below w.heap.size w wr)
    (fun _ i _ => (intOf i).toNat)
  case atStart => exact ⟨0, by omega, rfl, by simp, HG.out.1, HG.out.2.1⟩
  case round =>
    obtain ⟨k, hk, rfl, rfl, hg, hb⟩ := hrel
    by_cases hk8 : k < 8
    · have hkI : (0 : Int) < 8 - (k : Int) := by omega
      have hkJ : (8 : Int) - (k : Int) < 64 := by omega
      have hkN : ((8 : Int) - (k : Int)).toNat = 8 - k := by omega
      have hk0 : (0 : Int) ≤ 8 - (k : Int) := by omega
      obtain ⟨S, hS⟩ : ∃ S, S = s / 256 ^ k := ⟨_, rfl⟩
      have hS1 : s / 256 ^ (k + 1) = S / 256 := by rw [hS, Nat.pow_succ, Nat.div_div_eq_div_mul]
      have hSl : S ≤ 9223372036854775807 := by rw [hS]; exact Nat.le_trans (Nat.div_le_self _ _) HG.out.2.2
      rw [← hS]
      have hm : (S : Int).tmod 256 = ((S % 256 : Nat) : Int) := by rw [Int.tmod_eq_emod_of_nonneg (by omega)]; omega
      have hd : (S : Int).tdiv 256 = ((S / 256 : Nat) : Int) := by rw [Int.tdiv_eq_ediv_of_nonneg (by omega)]; omega
      have hx : ((S % 256 : Nat) : Int) = ((UInt8.ofNat S).toNat : Int) := by rw [mod256]; omega
      obtain ⟨v1, hv1⟩ := row_cell (i := 8 - k) hg (by rw [hdR_len]; omega)
      have zf1 := frozen_of_row wr w.heap.size (8 - k) _ _ hg
      have hg2 := row_set (i := 8 - k) hg (UInt8.ofNat S)
      have hg3 : (wr.setCell ⟨w.heap.size, 8 - k, none⟩ (.int .u8 ((UInt8.ofNat S).toNat : Int))).heap[w.heap.size]? = some (.cells (u8s (hdR s (k + 1))).toArray 5 (0, 0)) := by rw [hdR, ← hS]; exact hg2
      have HX := Lib.hid (And.intro hg3 (And.intro (hb.setCell (p := ⟨w.heap.size, 8 - k, none⟩) (Nat.le_refl _) (.int .u8 ((UInt8.ofNat S).toNat : Int))) (And.intro hx hS1)))
      clear hg hb hg2 hg3 hx hS1 hS
      go_wp2_with go_in
      rw [show (S : Int) % 256 = ((UInt8.ofNat S).toNat : Int) from (mod256 S).symm]
      exact ⟨⟨k + 1, by omega, by simp; omega, by rw [HX.out.2.2.2]; simp, HX.out.1, HX.out.2.1⟩, by simp [intOf]; omega⟩
    · obtain rfl : k = 8 := by omega
      obtain ⟨v9, hv9⟩ := row_cell (i := 9) hg (by rw [hdR_len]; omega)
      have hg9 := row_set (i := 9) hg (UInt8.ofNat (n / 256))
      obtain ⟨v10, hv10⟩ := row_cell (i := 10) hg9 (by rw [List.length_set, hdR_len]; omega)
      have zf9 := frozen_of_row wr w.heap.size 9 _ _ hg
      have zf10 := frozen_of_row _ w.heap.size 10 _ _ hg9
      have hg10 := row_set (i := 10) hg9 (UInt8.ofNat n)
      rw [hdR_end] at hg10
      have hb10 := (hb.setCell (p := ⟨w.heap.size, 9, none⟩) (Nat.le_refl _) (.int .u8 ((UInt8.ofNat (n / 256)).toNat : Int))).setCell (p := ⟨w.heap.size, 10, none⟩) (Nat.le_refl _) (.int .u8 ((UInt8.ofNat n).toNat : Int))
      have m1 : ((UInt8.ofNat (n / 256)).toNat : Int) = (n : Int) / 256 := by rw [mod256]; simp; omega
      have m2 : (n : Int) / 256 % 256 = (n : Int) / 256 := by omega
      rw [mod256 n] at hg10 hb10
      rw [m1] at hg10 hb10 hv10 zf10
      have hst : (convert 45 9 (.slice (some ⟨w.heap.size, 0, none⟩) 64 64)).run Try.prog ((wr.setCell ⟨w.heap.size, 9, none⟩ (.int .u8 ((n : Int) / 256))).setCell ⟨w.heap.size, 10, none⟩ (.int .u8 ((n : Int) % 256))) = .ok (.string ⟨(headL s n).toArray⟩) _ :=
        strAt (B := (wr.setCell ⟨w.heap.size, 9, none⟩ (.int .u8 ((n : Int) / 256))).setCell ⟨w.heap.size, 10, none⟩ (.int .u8 ((n : Int) % 256)) |>.heap.size) (fun _ => ⟨w.heap.size, 0, rfl, (Array.getElem?_eq_some_iff.1 hg10).1, fun j u hu => by rw [cell_of_row _ _ _ _ _ _ hg10]; simpa using hu⟩) (by rw [headL_len])
      have HX := Lib.hid hb10
      clear hg hb hg9 hg10 hb10 m1
      go_wp2_with go_in
      go_ret
      exact ⟨rfl, HX.out⟩
/-- The cells of records of the document. -/
def recS (r : List Rec) : List Value := r.flatMap fun x => [.int .i64 (x.1 : Int), .string ⟨x.2.toArray⟩]
theorem recS_len (r : List Rec) : (recS r).length = r.length * 2 := by
  induction r with
  | nil => rfl
  | cons x r ih => simp only [recS, List.flatMap_cons, List.length_append] at ih ⊢; rw [ih]; simp; omega
theorem recS_two : ∀ (r : List Rec) (i : Nat) (h : i < r.length), (recS r)[i * 2]? = some (.int .i64 (r[i].1 : Int)) ∧ (recS r)[i * 2 + 1]? = some (.string ⟨r[i].2.toArray⟩)
  | [], _, h => by cases h
  | x :: r, 0, _ => ⟨rfl, rfl⟩
  | x :: r, i + 1, h => by
    have ih := recS_two r i (by simpa using h)
    simp only [recS, List.flatMap_cons] at ih ⊢
    rw [show (i + 1) * 2 = i * 2 + 1 + 1 by omega]
    simpa using ih
theorem recS_at {w : World} {B : Nat} {A : Option Addr} {r : List Rec} (h : Rd w B A (recS r)) {k : Nat} (hk : k < r.length) : ∃ ab ao, A = some ⟨ab, ao, none⟩ ∧ ab < B ∧ w.cell? ⟨ab, ao + k * 2, none⟩ = some (.int .i64 (r[k].1 : Int)) ∧ w.cell? ⟨ab, ao + k * 2 + 1, none⟩ = some (.string ⟨r[k].2.toArray⟩) := by
  obtain ⟨ab, ao, rfl, hab, hc⟩ := h (by intro e; have := congrArg List.length e; rw [recS_len] at this; have h9 : r.length * 2 = 0 := this; omega)
  obtain ⟨t1, t2⟩ := recS_two r k hk
  have := hc _ _ t2
  rw [← Nat.add_assoc] at this
  exact ⟨ab, ao, rfl, hab, hc _ _ t1, this⟩
theorem endR_take (a : Nat) (r : List Rec) (k : Nat) (h : k < r.length) : endR a (r.take (k + 1)) = endR a (r.take k) + 1 + secs r[k].2.length := by
  rw [List.take_succ_eq_append_getElem h, endR_append]
  rfl
theorem endR_mono (a : Nat) (r : List Rec) (k : Nat) : endR a (r.take k) ≤ endR a r := by
  have h : endR a r = endR (endR a (r.take k)) (r.drop k) := by rw [← endR_append, List.take_append_drop]
  rw [h]
  have := endR_le (endR a (r.take k)) (r.drop k)
  omega
set_option maxRecDepth 100000 in
set_option maxHeartbeats 1000000 in
theorem rEnd_any (first : Nat) (count next : Int) (r : List Rec) (A : Option Addr) (c B : Nat) (w : World) (hr : Rd w B A (recS r)) (hB : B ≤ w.heap.size) (hd : ∀ x ∈ r, x.2.length ≤ 4000) (he : endR first r ≤ 100000) :
    Calls Try.prog 43 #[.agg #[.int .i64 (first : Int), .int .i64 count, .slice A r.length c, .int .i64 next]] w fun e w' => e = .returned (.int .i64 (endR first r : Int)) ∧ Below w.heap.size w w' := by
  have hb0 : Below w.heap.size w (w.alloc (.cells #[.int .i64 (first : Int), .int .i64 count, .slice A r.length c, .int .i64 next] 42)) := (Below.refl _ _).alloc (Nat.le_refl _) _
  have hg0 := heap_alloc_new w (.cells #[.int .i64 (first : Int), .int .i64 count, .slice A r.length c, .int .i64 next] 42)
  have hr0 := hr.below hb0 hB
  have hl : r.length ≤ 100000 := by have := endR_le first r; omega
  have hlI : (r.length : Int) ≤ 100000 := by omega
  have HH := Lib.hid (And.intro hb0 (And.intro hd he))
  go_enter Try.func43, Try.ntmps43
  go_upto_region 1 with (fail)
  generalize w.alloc (.cells #[.int .i64 (first : Int), .int .i64 count, .slice A r.length c, .int .i64 next] 42) = W0 at hb0 hg0 hr0 HH ⊢
  have c0 := cell_of_row W0 w.heap.size 0 _ _ _ hg0
  have c2 := cell_of_row W0 w.heap.size 2 _ _ _ hg0
  have HR := Lib.hid hr0
  clear hb0 hg0 hr0 hr hd he hl
  go_wp2
  go_loop [3, 4, 10] (fun u _ i => ∃ k : Nat, k ≤ r.length ∧ i = .int .i64 (k : Int) ∧ u = .int .i64 (endR first (r.take k) : Int)) (fun _ _ i => r.length - (intOf i).toNat)
  case atStart => exact ⟨0, by omega, rfl, rfl⟩
  case round =>
    obtain ⟨k, hk, rfl, rfl⟩ := hrel
    by_cases hkl : k < r.length
    · have hkI : (k : Int) < (r.length : Int) := by omega
      obtain ⟨ab, ao, rfl, hab, hc1, hc2⟩ := recS_at HR.out hkl
      have hen := endR_take first r k hkl
      have hem : endR first (r.take (k + 1)) ≤ 100000 := Nat.le_trans (endR_mono first r (k + 1)) HH.out.2.2
      have hdl := HH.out.2.1 r[k] (List.getElem_mem hkl)
      obtain ⟨d, hd⟩ : ∃ d, d = r[k].2 := ⟨_, rfl⟩
      rw [← hd] at hc2 hen hdl
      have hsz : (⟨d.toArray⟩ : ByteArray).size = d.length := by simp [ByteArray.size]
      have hsc := rsecs_any d.length W0 (by omega)
      have hdI : (d.length : Int) ≤ 4000 := by omega
      obtain ⟨E, hE⟩ : ∃ E, E = endR first (r.take k) := ⟨_, rfl⟩
      obtain ⟨D, hD⟩ : ∃ D, D = secs d.length := ⟨_, rfl⟩
      rw [← hE, ← hD] at hen
      rw [← hE]
      rw [← hD] at hsc
      have hEI : (E : Int) + 1 + (D : Int) ≤ 100000 := by omega
      have HSC := Lib.hid hsc
      have HX := Lib.hid hen
      clear hsc hen hem hdl hd hE hD hk hab
      go_wp2_with (go_at_call 47; (with_reducible refine HSC.out.mono ?_); rintro e w1 ⟨rfl, rfl⟩)
      exact ⟨⟨k + 1, hkl, by simp, by rw [HX.out]; simp⟩, by simp [intOf]; omega⟩
    · obtain rfl : k = r.length := by omega
      rw [List.take_length]
      go_wp2
      go_ret
      exact ⟨rfl, HH.out.1⟩
end Go.Proofs.Ytdjcpjfomgfjlaa
