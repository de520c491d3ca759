/- What the document's Rings wants, plainly: nodes in rings, a sort by swaps, the rings in turn; in. -/
import Derived.Test.YtgjjdmkoamjdpaaSpGC
import Derived.Test.YtgjjdmkoamjdpaaJnF
namespace Go.Proofs.Ytgjjdmkoamjdpaa
open Go.RowKit Go.Maps Go.Sort

def addI (N : List Int) (x : Int) : List Int := if x ∈ N then N else N ++ [x]
def stepI (N : List Int) (p : Pr) : List Int := if p.1 = p.2 then addI N p.1 else N
def loopsU (S : List Pr) : List Int := S.foldl stepI []
theorem addI_mem {N : List Int} {x y : Int} : y ∈ addI N x ↔ y ∈ N ∨ y = x := by
  unfold addI
  split
  · rename_i h
    exact ⟨.inl, fun g => g.elim id fun e => e ▸ h⟩
  · simp
theorem addI_nodup {N : List Int} {x : Int} (h : N.Nodup) : (addI N x).Nodup := by
  unfold addI
  split
  · exact h
  · rename_i hp
    rw [List.nodup_append]
    exact ⟨h, by simp, fun a ha b hb => by rw [List.mem_singleton.1 hb]; rintro rfl; exact hp ha⟩
theorem stepI_mem {N : List Int} {p : Pr} {y : Int} : y ∈ stepI N p ↔ y ∈ N ∨ p = (y, y) := by
  obtain ⟨a, b⟩ := p
  unfold stepI
  by_cases h : a = b
  · rw [if_pos h, addI_mem]
    subst h
    exact or_congr Iff.rfl ⟨fun e => by rw [e], fun e => (Prod.mk.inj e).1.symm⟩
  · rw [if_neg h]
    exact ⟨.inl, fun g => g.elim id fun e => absurd ((Prod.mk.inj e).1.trans (Prod.mk.inj e).2.symm) h⟩
theorem stepI_nodup {N : List Int} {p : Pr} (h : N.Nodup) : (stepI N p).Nodup := by
  unfold stepI
  split
  · exact addI_nodup h
  · exact h
theorem foldI_mem {y : Int} : ∀ {S : List Pr} {N : List Int}, y ∈ S.foldl stepI N ↔ y ∈ N ∨ (y, y) ∈ S
  | [], N => by simp
  | p :: S, N => by
    rw [List.foldl_cons, foldI_mem, stepI_mem, List.mem_cons, or_assoc]
    exact or_congr Iff.rfl (or_congr ⟨Eq.symm, Eq.symm⟩ Iff.rfl)
theorem foldI_nodup : ∀ {S : List Pr} {N : List Int}, N.Nodup → (S.foldl stepI N).Nodup
  | [], _, h => h
  | _ :: S, _, h => foldI_nodup (S := S) (stepI_nodup h)
theorem mem_loopsU {S : List Pr} {y : Int} : y ∈ loopsU S ↔ (y, y) ∈ S := by
  unfold loopsU
  rw [foldI_mem]
  simp
theorem loopsU_nodup (S : List Pr) : (loopsU S).Nodup := foldI_nodup (by simp)
theorem loopsU_take {S : List Pr} {k : Nat} (h : k < S.length) : loopsU (S.take (k + 1)) = stepI (loopsU (S.take k)) S[k] := by
  unfold loopsU
  rw [List.take_succ_eq_append_getElem h, List.foldl_append]
  rfl
theorem loops_few {E S : List Pr} (h : ClosOk E S) {N : List Int} (hn : N.Nodup) (hm : ∀ y ∈ N, (y, y) ∈ S) : N.length ≤ E.length := by
  have h1 : N.length ≤ (E.map Prod.fst).length := nodup_len hn fun y hy => by
    obtain ⟨c, hc⟩ := ((h.mem y y).1 (hm y hy)).first
    exact List.mem_map.2 ⟨(y, c), hc, rfl⟩
  rwa [List.length_map] at h1
/-- A sort by swaps: the first i are in order; of those up to i all but the one at k. -/
structure InsW13 (N L : List Int) (i k : Nat) : Prop where
  perm : L.Perm N
  srt : ∀ p q, p < q → q ≤ i → q ≠ k → q < L.length → L.getD p 0 < L.getD q 0
def SrtTo (L : List Int) (i : Nat) : Prop := ∀ p q, p < q → q < i → q < L.length → L.getD p 0 < L.getD q 0
theorem InsW13.start {N L : List Int} {i : Nat} (hp : L.Perm N) (h : SrtTo L i) : InsW13 N L i i := ⟨hp, fun p q h1 h2 h3 h4 => h p q h1 (by omega) h4⟩
theorem InsW13.swap {N L : List Int} {i k : Nat} (h : InsW13 N L i k) (hk : 0 < k) (hki : k ≤ i) (hkl : k < L.length) (hlt : L.getD k 0 < L.getD (k - 1) 0) : InsW13 N ((L.set k (L.getD (k - 1) 0)).set (k - 1) (L.getD k 0)) i (k - 1) := by
  have e1 : L.getD (k - 1) 0 = L[k - 1] := by rw [List.getD_eq_getElem?_getD, List.getElem?_eq_getElem (by omega)]; rfl
  have e2 : L.getD k 0 = L[k] := by rw [List.getD_eq_getElem?_getD, List.getElem?_eq_getElem hkl]; rfl
  refine ⟨?_, fun p q h1 h2 h3 h4 => ?_⟩
  · rw [e1, e2]
    exact (List.set_set_perm hkl (by omega)).trans h.perm
  · simp only [List.length_set] at h4
    have hat : ∀ m, m < L.length → ((L.set k (L.getD (k - 1) 0)).set (k - 1) (L.getD k 0)).getD m 0 = if m = k - 1 then L.getD k 0 else if m = k then L.getD (k - 1) 0 else L.getD m 0 := fun m hm => by
      rw [List.getD_eq_getElem?_getD, List.getElem?_set, List.getElem?_set]
      by_cases h5 : m = k - 1
      · subst h5
        rw [if_pos rfl, if_pos (by simp; omega), if_pos rfl]
        rfl
      · rw [if_neg (fun e => h5 e.symm), if_neg h5]
        by_cases h6 : m = k
        · subst h6
          rw [if_pos rfl, if_pos hkl, if_pos rfl]
          rfl
        · rw [if_neg (fun e => h6 e.symm), if_neg h6, List.getD_eq_getElem?_getD]
    rw [hat p (by omega), hat q h4, if_neg h3]
    by_cases hq : q = k
    · subst hq
      rw [if_pos rfl]
      by_cases hp : p = q - 1
      · rw [if_pos hp]; exact hlt
      · rw [if_neg hp, if_neg (by omega)]
        exact h.srt p (q - 1) (by omega) (by omega) (by omega) (by omega)
    · rw [if_neg hq]
      by_cases hp : p = k - 1
      · rw [if_pos hp]
        exact h.srt k q (by omega) h2 hq h4
      · rw [if_neg hp]
        by_cases hpk : p = k
        · rw [if_pos hpk]
          exact h.srt (k - 1) q (by omega) h2 hq h4
        · rw [if_neg hpk]
          exact h.srt p q h1 h2 hq h4
theorem InsW13.done {N L : List Int} {i k : Nat} (h : InsW13 N L i k) (hn : N.Nodup) (hki : k ≤ i) (hk : k = 0 ∨ ¬ L.getD k 0 < L.getD (k - 1) 0) : SrtTo L (i + 1) := by
  intro p q h1 h2 h3
  by_cases hq : q = k
  · subst hq
    have h4 : ¬ L.getD q 0 < L.getD (q - 1) 0 := hk.resolve_left (by omega)
    have hne : L.getD q 0 ≠ L.getD (q - 1) 0 := fun e => by
      have hnd := (h.perm.nodup_iff).2 hn
      rw [List.getD_eq_getElem?_getD, List.getElem?_eq_getElem h3, List.getD_eq_getElem?_getD, List.getElem?_eq_getElem (by omega)] at e
      have := (List.getElem_inj hnd).1 (show L[q] = L[q - 1]'(by omega) from e)
      omega
    by_cases hp : p = q - 1
    · subst hp; omega
    · have := h.srt p (q - 1) (by omega) (by omega) (by omega) (by omega)
      omega
  · exact h.srt p q h1 (by omega) hq h3
theorem SrtTo.ris {L : List Int} (h : SrtTo L L.length) : RisI L := by
  unfold RisI
  rw [List.pairwise_iff_getElem]
  intro p q hp hq hpq
  have := h p q hpq hq hq
  rw [List.getD_eq_getElem?_getD, List.getElem?_eq_getElem hp, List.getD_eq_getElem?_getD, List.getElem?_eq_getElem hq] at this
  exact this
theorem srt_loops {S : List Pr} {L : List Int} (hp : L.Perm (loopsU S)) (h : SrtTo L L.length) : L = loopsR S :=
  risI_ext h.ris (ris_onceI _) fun q => (hp.mem_iff).trans (mem_loopsU.trans mem_loopsR.symm)
/-- Who is told already, behind i nodes. -/
def DoneI (S : List Pr) (i : Nat) (D : List Int) : Prop := ∀ x, x ∈ D ↔ ∃ a ∈ (loopsR S).take i, headR S a = true ∧ x ∈ ringOf S a
theorem ringOf_same {E S : List Pr} (h : ClosOk E S) {a b : Int} (hb : b ∈ ringOf S a) : ∀ x, x ∈ ringOf S b ↔ x ∈ ringOf S a := by
  obtain ⟨_, h1, h2⟩ := mem_ringOf.1 hb
  intro x
  rw [mem_ringOf, mem_ringOf]
  exact ⟨fun ⟨g0, g1, g2⟩ => ⟨g0, h.go h1 g1, h.go g2 h2⟩, fun ⟨g0, g1, g2⟩ => ⟨g0, h.go h2 g1, h.go g2 h1⟩⟩
theorem done_iff {E S : List Pr} (h : ClosOk E S) {i : Nat} {D : List Int} (hD : DoneI S i D) (hi : i < (loopsR S).length) : (loopsR S)[i] ∈ D ↔ headR S (loopsR S)[i] = false := by
  have hris : RisI (loopsR S) := ris_onceI _
  have hme : ((loopsR S)[i], (loopsR S)[i]) ∈ S := mem_loopsR.1 (List.getElem_mem hi)
  have hmr : (loopsR S)[i] ∈ ringOf S (loopsR S)[i] := mem_ringOf.2 ⟨hme, hme, hme⟩
  have hlt : ∀ a, a ∈ (loopsR S).take i ↔ a ∈ loopsR S ∧ a < (loopsR S)[i] := fun a => by
    constructor
    · intro ha
      obtain ⟨j, hj, rfl⟩ := List.getElem_of_mem ha
      rw [List.length_take] at hj
      rw [List.getElem_take]
      exact ⟨List.getElem_mem _, (risI_lt hris (by omega) hi).2 (by omega)⟩
    · rintro ⟨ha, hl⟩
      obtain ⟨j, hj, rfl⟩ := List.getElem_of_mem ha
      have := (risI_lt hris hj hi).1 hl
      rw [List.mem_take_iff_getElem]
      exact ⟨j, by omega, rfl⟩
  rw [hD]
  constructor
  · rintro ⟨a, ha, _, hx⟩
    obtain ⟨h1, h2⟩ := (hlt a).1 ha
    obtain ⟨g0, g1, g2⟩ := mem_ringOf.1 hx
    unfold headR
    rw [decide_eq_false_iff_not]
    intro hh
    have := hh a (mem_ringOf.2 ⟨mem_loopsR.1 h1, g2, g1⟩)
    omega
  · intro hh
    unfold headR at hh
    rw [decide_eq_false_iff_not] at hh
    have hne : ringOf S (loopsR S)[i] ≠ [] := fun e => by rw [e] at hmr; simp at hmr
    obtain ⟨b, l, hb⟩ := List.exists_cons_of_ne_nil hne
    have hbm : b ∈ ringOf S (loopsR S)[i] := by rw [hb]; simp
    have hle := (head_least (ris_ringOf S _) hbm).1 (by rw [hb]; rfl)
    have hbl : b < (loopsR S)[i] := by
      rcases Int.lt_or_eq_of_le (hle _ hmr) with h1 | h1
      · exact h1
      · exact absurd (h1 ▸ hle) hh
    refine ⟨b, (hlt b).2 ⟨mem_loopsR.2 (mem_ringOf.1 hbm).1, hbl⟩, ?_, (ringOf_same h hbm _).2 hmr⟩
    unfold headR
    rw [decide_eq_true_iff]
    exact fun x hx => hle x ((ringOf_same h hbm x).1 hx)
theorem DoneI.skip {S : List Pr} {i : Nat} {D : List Int} (hD : DoneI S i D) (hi : i < (loopsR S).length) (hh : headR S (loopsR S)[i] = false) : DoneI S (i + 1) D := fun x => by
  rw [hD, List.take_succ_eq_append_getElem hi]
  constructor
  · rintro ⟨a, ha, h1⟩; exact ⟨a, List.mem_append.2 (.inl ha), h1⟩
  · rintro ⟨a, ha, h1, h2⟩
    rcases List.mem_append.1 ha with h3 | h3
    · exact ⟨a, h3, h1, h2⟩
    · rw [List.mem_singleton.1 h3, hh] at h1
      cases h1
theorem DoneI.more {S : List Pr} {i : Nat} {D : List Int} (hD : DoneI S i D) (hi : i < (loopsR S).length) (hh : headR S (loopsR S)[i] = true) : DoneI S (i + 1) (D ++ ringOf S (loopsR S)[i]) := fun x => by
  rw [List.mem_append, hD, List.take_succ_eq_append_getElem hi]
  constructor
  · rintro (⟨a, ha, h1⟩ | h1)
    · exact ⟨a, List.mem_append.2 (.inl ha), h1⟩
    · exact ⟨_, List.mem_append.2 (.inr (List.mem_singleton.2 rfl)), hh, h1⟩
  · rintro ⟨a, ha, h1, h2⟩
    rcases List.mem_append.1 ha with h3 | h3
    · exact .inl ⟨a, h3, h1, h2⟩
    · rw [List.mem_singleton.1 h3] at h2
      exact .inr h2
def ringsTo (S : List Pr) (i : Nat) : List (List Int) := (((loopsR S).take i).filter (headR S)).map (ringOf S)
theorem ringsTo_succ {S : List Pr} {i : Nat} (hi : i < (loopsR S).length) : ringsTo S (i + 1) = ringsTo S i ++ if headR S (loopsR S)[i] = true then [ringOf S (loopsR S)[i]] else [] := by
  unfold ringsTo
  rw [List.take_succ_eq_append_getElem hi, List.filter_append, List.map_append]
  by_cases h : headR S (loopsR S)[i] = true <;> simp [h]
theorem ringsTo_all (S : List Pr) : ringsTo S (loopsR S).length = ringsR S := by unfold ringsTo ringsR; rw [List.take_length]
set_option maxRecDepth 100000 in
set_option maxHeartbeats 2000000 in
theorem in13_any (t : TV) (x : Int) (w : World) (h : t.Ok w) : Calls Try.prog 15 #[.slice t.A t.l.length t.c, .int .i64 x] w fun e w' => e = .returned (.bool (decide (x ∈ t.l))) ∧ w' = w := by
  obtain ⟨R, hR⟩ : ∃ R, R = decide (x ∈ t.l) := ⟨_, rfl⟩
  rw [← hR]
  have hs := h.sm
  have HA := Lib.hid (And.intro h hR)
  clear h hR
  go_enter Try.func15, Try.ntmps15
  go_wp2_with (fail)
  go_loopw [8] (fun v8 wr => ∃ k : Nat, k ≤ t.l.length ∧ v8 = .int .i64 (k : Int) ∧ Hid (wr = w ∧ x ∉ t.l.take k)) (fun v8 _ => t.l.length - (intOf v8).toNat)
  case atStart => exact ⟨0, by omega, rfl, Lib.hid (by simp)⟩
  case round =>
    obtain ⟨k, hk, rfl, hrel⟩ := hrel
    obtain ⟨rfl, hnm⟩ := hrel.out
    by_cases hlt : k < t.l.length
    · have hlI : (k : Int) < (t.l.length : Int) := by omega
      obtain ⟨b, o, hA, _, c0⟩ := HA.out.1.cell hlt
      have HM := Lib.hid (show x ∈ t.l.take (k + 1) → x ∈ t.l.take k ∨ x = t.l[k] from fun h => by rwa [List.take_succ_eq_append_getElem hlt, List.mem_append, List.mem_singleton] at h)
      have HY := Lib.hid (List.getElem_mem hlt)
      have HNM := Lib.hid hnm
      rw [hA]
      generalize t.l[k] = q at c0 HM HY
      clear hA hnm hrel
      by_cases h1 : q = x
      · have HR := Lib.hid (show R = true from by rw [HA.out.2, decide_eq_true_iff, ← h1]; exact HY.out)
        have g1 := h1.symm
        clear h1 HM HY
        subst g1
        go_wp2_with (fail)
        go_ret
        exact ⟨by rw [HR.out]; rfl, rfl⟩
      · have HN := Lib.hid (show x ∉ t.l.take (k + 1) from fun h => (HM.out h).elim HNM.out fun e => h1 e.symm)
        clear HM HY
        go_wp2_with (fail)
        clear h1
        go_roundw
        case rel => exact ⟨k + 1, by omega, by go_num, Lib.hid ⟨by simp, HN.out⟩⟩
        case measure => simp [intOf]; omega
    · obtain rfl : k = t.l.length := by omega
      have hlI : ¬ (t.l.length : Int) < (t.l.length : Int) := by omega
      have HR := Lib.hid (show R = false from by
        rw [HA.out.2, decide_eq_false_iff_not]
        rwa [List.take_of_length_le (Nat.le_refl _)] at hnm)
      clear hrel hnm
      go_wp2_with (fail)
      go_ret
      exact ⟨by rw [HR.out]; rfl, rfl⟩
end Go.Proofs.Ytgjjdmkoamjdpaa
