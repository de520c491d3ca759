/- Wherever the power goes within a Save. -/
import Derived.Test.YtnjljalihjkmcaaLogC
import Derived.Test.YtnjljalihjkmcaaImgA
namespace Go.Proofs.Ytnjljalihjkmcaa

section
variable {M : DM} {first count s : Nat} {d : List UInt8} {g : Nat → List UInt8}
/-- The disk behind the first flush of a Save, and behind the second one. -/
def sv1 (M : DM) (o : Nat) : DM := (M.written o zero64).flushed
def sv2 (M : DM) (o : Nat) (d : List UInt8) : DM := (doneOps (wrs (o + 1) (chunks d)) (sv1 M o)).flushed
theorem sv1_facts (hc : Calm M) (o : Nat) : Calm (sv1 M o) ∧ (∀ i, i ≠ o → (sv1 M o).sure i = M.sure i) ∧ (sv1 M o).sure o = zero64 := by
  refine ⟨fun i => rfl, fun i hi => ?_, ?_⟩
  · show ((if i = o then some zero64 else M.wr i)).getD (M.sure i) = _
    rw [if_neg hi, hc i]; rfl
  · show ((if o = o then some zero64 else M.wr o)).getD (M.sure o) = _
    rw [if_pos rfl]; rfl
theorem sv2_facts (hc : Calm M) (o : Nat) (d : List UInt8) : Calm (sv2 M o d) ∧ (∀ i, ¬ (o + 1 ≤ i ∧ i < o + 1 + secs d.length) → (sv2 M o d).sure i = (sv1 M o).sure i) ∧ ∀ i, i < secs d.length → some ((sv2 M o d).sure (o + 1 + i)) = (chunks d)[i]? := by
  obtain ⟨h1, h2⟩ := done_wrs (o + 1) (chunks d) (sv1 M o)
  rw [chunks_len] at h2
  have hc1 := (sv1_facts hc o).1
  refine ⟨fun i => rfl, fun i hi => ?_, fun i hi => ?_⟩
  · show ((doneOps (wrs (o + 1) (chunks d)) (sv1 M o)).wr i).getD ((doneOps (wrs (o + 1) (chunks d)) (sv1 M o)).sure i) = _
    rw [h2, if_neg hi, hc1 i, h1]; rfl
  · show some (((doneOps (wrs (o + 1) (chunks d)) (sv1 M o)).wr _).getD ((doneOps (wrs (o + 1) (chunks d)) (sv1 M o)).sure _)) = _
    rw [h2, if_pos (by omega), h1, show o + 1 + i - (o + 1) = i by omega, chunks_get d i hi]; rfl
/-- The image that is there behind all steps. -/
theorem new_there (h3 : d.length ≤ roomI count) (h4 : d.length < 4294967296) (h1 : 1 ≤ s) (h2 : s ≤ 4611686018427387904) (hs : seqI (imgOf M.sure first count) < s)
    (hC : g (areaC M.sure first count) = M.sure (areaC M.sure first count)) (hO : g (areaO M.sure first count) = headI s d.length) (hd : ∀ i, i < secs d.length → some (g (areaO M.sure first count + 1 + i)) = (chunks d)[i]?) :
    imgOf g first count = some (s, d) := by
  rw [seqI_of] at hs
  obtain ⟨e, _, _⟩ := img_new (g := M.sure) (g' := g) (s := s) (n := d.length) hC (by rw [hO]; exact ahd_head h1 h2 h3 h4) hs
  rw [e, cat_chunks d g _ hd]
/-- Wherever the power goes within a Save: the image that counted, or the new one; behind all steps the new one. -/
theorem save_cut (hc : Calm M) (h2c : 2 ≤ count) (h3 : d.length ≤ roomI count) (h4 : d.length < 4294967296) (h1 : 1 ≤ s) (h2 : s ≤ 4611686018427387904) (hs : seqI (imgOf M.sure first count) < s)
    {behind : Nat} (hb : first + 2 * count ≤ behind) {k : Nat} (hg : Crashes (doneOps ((saveOps (areaO M.sure first count) s d).take k) M) behind g) :
    (imgOf g first count = imgOf M.sure first count ∨ imgOf g first count = some (s, d)) ∧ ((saveOps (areaO M.sure first count) s d).length ≤ k → imgOf g first count = some (s, d)) := by
  have hn : secs d.length < count := secs_room h3 h2c
  obtain ⟨a, ha⟩ : ∃ a, a = areaC M.sure first count := ⟨_, rfl⟩
  obtain ⟨o, ho⟩ : ∃ o, o = areaO M.sure first count := ⟨_, rfl⟩
  have hao : (a = first ∧ o = first + count) ∨ (a = first + count ∧ o = first) := by rw [ha, ho]; exact areas _ _ _
  rw [← ho] at hg ⊢
  have hstay : (∀ i, a ≤ i → i < a + count → g i = M.sure i) → (ahd (roomI count) (g o) = none ∨ g o = M.sure o) → imgOf g first count = imgOf M.sure first count := fun q1 q2 =>
    img_stays h2c (by rw [← ha]; exact q1) (by rw [← ho]; exact q2)
  have hnew : g a = M.sure a → g o = headI s d.length → (∀ i, i < secs d.length → some (g (o + 1 + i)) = (chunks d)[i]?) → imgOf g first count = some (s, d) := fun q1 q2 q3 =>
    new_there h3 h4 h1 h2 hs (by rw [← ha]; exact q1) (by rw [← ho]; exact q2) (by rw [← ho]; exact q3)
  clear ha ho
  obtain ⟨e1, e2, e3⟩ := sv1_facts hc o
  obtain ⟨f1, f2, f3⟩ := sv2_facts hc o d
  by_cases c0 : k = 0
  · subst c0
    have hsame : ∀ i, i < behind → g i = M.sure i := fun i hi => mix_zero (hg i hi) (hc i)
    exact ⟨.inl (hstay (fun i h5 h6 => hsame i (by omega)) (.inr (hsame o (by omega)))), fun hl => by rw [saveOps_len] at hl; omega⟩
  by_cases c1 : k = 1
  · subst c1
    have hg' : Crashes (M.written o zero64) behind g := hg
    have hw : ∀ i, i ≠ o → (M.written o zero64).wr i = none := fun i hi => by
      show (if i = o then some zero64 else M.wr i) = none
      rw [if_neg hi]; exact hc i
    refine ⟨.inl (hstay (fun i h5 h6 => mix_zero (M := M.written o zero64) (hg' i (by omega)) (hw i (by omega))) ?_), fun hl => by rw [saveOps_len] at hl; omega⟩
    rcases hg' o (by omega) with ⟨h5, _⟩ | ⟨l, c, h5, h6⟩
    · exfalso
      change (if o = o then some zero64 else _) = none at h5
      rw [if_pos rfl] at h5; cases h5
    · change (if o = o then some zero64 else _) = some l at h5
      rw [if_pos rfl] at h5
      injection h5 with h5
      by_cases hcz : c = 0
      · right; rw [h6, hcz]; rfl
      · left
        refine ahd_first ?_
        rw [h6, ← h5, List.getElem?_append_left (by simp [zero64]; omega), List.getElem?_take_of_lt (by omega)]
        simp [zero64]
  obtain ⟨j, rfl⟩ : ∃ j, k = 2 + j := ⟨k - 2, by omega⟩
  have hops : doneOps ((saveOps o s d).take (2 + j)) M = doneOps ((wrs (o + 1) (chunks d) ++ (none :: some (o, headI s d.length) :: none :: [])).take j) (sv1 M o) := by
    rw [Nat.add_comm]; rfl
  rw [hops] at hg
  clear hops
  have hz : ahd (roomI count) ((sv1 M o).sure o) = none := by rw [e3]; exact ahd_zero _
  by_cases c2 : j ≤ secs d.length
  · have e : (wrs (o + 1) (chunks d) ++ (none :: some (o, headI s d.length) :: none :: [])).take j = wrs (o + 1) ((chunks d).take j) := by
      rw [List.take_append_of_le_length (by rw [wrs_len, chunks_len]; exact c2), wrs_take]
    rw [e] at hg
    obtain ⟨q1, q2⟩ := done_wrs (o + 1) ((chunks d).take j) (sv1 M o)
    have hout : ∀ i, ¬ (o + 1 ≤ i ∧ i < o + 1 + secs d.length) → i < behind → g i = (sv1 M o).sure i := fun i hi hb2 => by
      rw [mix_zero (hg i hb2) (by rw [q2, if_neg (by rw [List.length_take, chunks_len]; omega)]; exact e1 i), q1]
    refine ⟨.inl (hstay (fun i h5 h6 => ?_) (.inl ?_)), fun hl => by rw [saveOps_len] at hl; omega⟩
    · rw [hout i (by omega) (by omega), e2 i (by omega)]
    · rw [hout o (by omega) (by omega)]; exact hz
  by_cases c3 : j = secs d.length + 1
  · have e : doneOps ((wrs (o + 1) (chunks d) ++ (none :: some (o, headI s d.length) :: none :: [])).take j) (sv1 M o) = sv2 M o d := by
      rw [c3, List.take_append, wrs_len, chunks_len, List.take_of_length_le (by rw [wrs_len, chunks_len]; omega), show secs d.length + 1 - secs d.length = 1 by omega, doneOps_append]
      rfl
    rw [e] at hg
    have hall : ∀ i, i < behind → g i = (sv2 M o d).sure i := fun i hi => mix_zero (hg i hi) (f1 i)
    refine ⟨.inl (hstay (fun i h5 h6 => ?_) (.inl ?_)), fun hl => by rw [saveOps_len] at hl; omega⟩
    · rw [hall i (by omega), f2 i (by omega), e2 i (by omega)]
    · rw [hall o (by omega), f2 o (by omega)]; exact hz
  by_cases c4 : j = secs d.length + 2
  · have e : doneOps ((wrs (o + 1) (chunks d) ++ (none :: some (o, headI s d.length) :: none :: [])).take j) (sv1 M o) = (sv2 M o d).written o (headI s d.length) := by
      rw [c4, List.take_append, wrs_len, chunks_len, List.take_of_length_le (by rw [wrs_len, chunks_len]; omega), show secs d.length + 2 - secs d.length = 2 by omega, doneOps_append]
      rfl
    rw [e] at hg
    have hw : ∀ i, i ≠ o → ((sv2 M o d).written o (headI s d.length)).wr i = none := fun i hi => by
      show (if i = o then some (headI s d.length) else (sv2 M o d).wr i) = none
      rw [if_neg hi]; exact f1 i
    have hoth : ∀ i, i ≠ o → i < behind → g i = (sv2 M o d).sure i := fun i hi hb2 => mix_zero (M := (sv2 M o d).written o (headI s d.length)) (hg i hb2) (hw i hi)
    have hsa : ∀ i, a ≤ i → i < a + count → g i = M.sure i := fun i h5 h6 => by rw [hoth i (by omega) (by omega), f2 i (by omega), e2 i (by omega)]
    refine ⟨?_, fun hl => by rw [saveOps_len] at hl; omega⟩
    rcases hg o (by omega) with ⟨h5, _⟩ | ⟨l, c, h5, h6⟩
    · exfalso
      change (if o = o then some (headI s d.length) else _) = none at h5
      rw [if_pos rfl] at h5; cases h5
    · change (if o = o then some (headI s d.length) else _) = some l at h5
      rw [if_pos rfl] at h5
      injection h5 with h5
      have hzs : ((sv2 M o d).written o (headI s d.length)).sure o = zero64 := by
        show (sv2 M o d).sure o = _
        rw [f2 o (by omega), e3]
      rw [hzs, ← h5] at h6
      by_cases h64 : 64 ≤ c
      · right
        refine hnew (hsa a (Nat.le_refl _) (by omega)) ?_ (fun i hi => ?_)
        · rw [h6, List.take_of_length_le (by rw [headI_len]; exact h64), List.drop_of_length_le (by simpa [zero64] using h64), List.append_nil]
        · rw [hoth _ (by omega) (by omega)]; exact f3 i hi
      · left
        refine hstay hsa (.inl (ahd_last ?_))
        have hcl : ((headI s d.length).take c).length = c := by rw [List.length_take, headI_len]; omega
        rw [h6, List.getElem?_append_right (by omega), hcl, List.getElem?_drop, show c + (63 - c) = 63 by omega]
        simp [zero64]
  · have e : doneOps ((wrs (o + 1) (chunks d) ++ (none :: some (o, headI s d.length) :: none :: [])).take j) (sv1 M o) = ((sv2 M o d).written o (headI s d.length)).flushed := by
      rw [List.take_of_length_le (by simp [wrs_len, chunks_len]; omega), doneOps_append]
      rfl
    rw [e] at hg
    have hsv : ∀ i, ((sv2 M o d).written o (headI s d.length)).flushed.sure i = if i = o then headI s d.length else (sv2 M o d).sure i := by
      intro i
      show ((if i = o then some (headI s d.length) else (sv2 M o d).wr i)).getD ((sv2 M o d).sure i) = _
      by_cases hi : i = o
      · rw [if_pos hi, if_pos hi]; rfl
      · rw [if_neg hi, if_neg hi, f1 i]; rfl
    have hall : ∀ i, i < behind → g i = if i = o then headI s d.length else (sv2 M o d).sure i := fun i hi => by rw [← hsv i]; exact mix_zero (hg i hi) rfl
    have hn2 : imgOf g first count = some (s, d) := by
      refine hnew ?_ ?_ (fun i hi => ?_)
      · rw [hall a (by omega), if_neg (by omega), f2 a (by omega), e2 a (by omega)]
      · rw [hall o (by omega), if_pos rfl]
      · rw [hall _ (by omega), if_neg (by omega)]; exact f3 i hi
    exact ⟨.inr hn2, fun _ => hn2⟩
end
end Go.Proofs.Ytnjljalihjkmcaa
