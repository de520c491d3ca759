/- The document's Way, plainly: what holds ahead of a layer, and within it. -/
import Derived.Test.YtgjjdmkoamjdpaaSpGH
import Derived.Test.YtgjjdmkoamjdpaaJnF
namespace Go.Proofs.Ytgjjdmkoamjdpaa

theorem mem_candsW {E : List Pr} {seen : List Int} {w c : List Int} : c ∈ candsW E seen w ↔ ∃ n, (endI w, n) ∈ E ∧ n ∉ seen ∧ c = w ++ [n] := by
  have h := @mem_candsL E seen [w] c
  unfold candsL at h
  rw [List.flatMap_singleton] at h
  rw [h]
  simp
/-- The ways that came by, within a layer. -/
def midC (E : List Pr) (seen : List Int) (ways : List (List Int)) (i k : Nat) : List (List Int) := candsL E seen (ways.take i) ++ candsW (E.take k) seen (ways.getD i [])
theorem getD_i {ways : List (List Int)} {i : Nat} (h : i < ways.length) : ways.getD i [] = ways[i] := by rw [List.getD_eq_getElem?_getD, List.getElem?_eq_getElem h]; rfl
theorem midC_zero (E : List Pr) (seen : List Int) (ways : List (List Int)) (i : Nat) : midC E seen ways i 0 = candsL E seen (ways.take i) := by unfold midC candsW; simp
theorem candsW_take {E : List Pr} {seen w : List Int} {k : Nat} (h : k < E.length) : candsW (E.take (k + 1)) seen w = candsW (E.take k) seen w ++ if E[k].1 = endI w ∧ E[k].2 ∉ seen then [w ++ [E[k].2]] else [] := by
  unfold candsW
  rw [List.take_succ_eq_append_getElem h, List.filter_append, List.map_append]
  congr 1
  by_cases h1 : E[k].1 = endI w <;> by_cases h2 : E[k].2 ∈ seen <;> simp [h1, h2]
theorem midC_no {E : List Pr} {seen : List Int} {ways : List (List Int)} {i k : Nat} (hi : i < ways.length) (hk : k < E.length) (h : ¬ (E[k].1 = endI ways[i] ∧ E[k].2 ∉ seen)) : midC E seen ways i (k + 1) = midC E seen ways i k := by
  unfold midC
  rw [candsW_take hk, getD_i hi, if_neg h, List.append_nil]
theorem midC_yes {E : List Pr} {seen : List Int} {ways : List (List Int)} {i k : Nat} (hi : i < ways.length) (hk : k < E.length) (h1 : E[k].1 = endI ways[i]) (h2 : E[k].2 ∉ seen) : midC E seen ways i (k + 1) = midC E seen ways i k ++ [ways[i] ++ [E[k].2]] := by
  unfold midC
  rw [candsW_take hk, getD_i hi, if_pos ⟨h1, h2⟩, List.append_assoc]
theorem midC_all {E : List Pr} {seen : List Int} {ways : List (List Int)} {i : Nat} (hi : i < ways.length) : midC E seen ways i E.length = candsL E seen (ways.take (i + 1)) := by
  unfold midC candsL
  rw [List.take_length, getD_i hi, List.take_succ_eq_append_getElem hi, List.flatMap_append, List.flatMap_singleton]
theorem mem_midC {E : List Pr} {seen : List Int} {ways : List (List Int)} {i k L : Nat} (hi : i < ways.length) (hL : ∀ w ∈ ways, w.length = L) {c : List Int} (hc : c ∈ midC E seen ways i k) : c.length = L + 1 ∧ ∃ x, (x, endI c) ∈ E := by
  unfold midC at hc
  rcases List.mem_append.1 hc with h | h
  · obtain ⟨w, hw, n, h1, _, rfl⟩ := mem_candsL.1 h
    exact ⟨by rw [List.length_append, hL w (List.mem_of_mem_take hw)]; rfl, _, by rw [endI_snoc]; exact h1⟩
  · obtain ⟨n, h1, _, rfl⟩ := mem_candsW.1 h
    rw [getD_i hi]
    exact ⟨by rw [List.length_append, hL _ (List.getElem_mem _)]; rfl, _, by rw [endI_snoc]; exact List.mem_of_mem_take h1⟩
theorem mem_candsL' {E : List Pr} {seen : List Int} {ways : List (List Int)} {L : Nat} (hL : ∀ w ∈ ways, w.length = L) {c : List Int} (hc : c ∈ candsL E seen ways) : c.length = L + 1 ∧ ∃ x, (x, endI c) ∈ E := by
  obtain ⟨w, hw, n, h1, _, rfl⟩ := mem_candsL.1 hc
  exact ⟨by rw [List.length_append, hL w hw]; rfl, _, by rw [endI_snoc]; exact h1⟩
theorem NextOk.few {E : List Pr} {C N : List (List Int)} (h : NextOk C N) (hC : ∀ c ∈ C, ∃ x, (x, endI c) ∈ E) : N.length ≤ E.length := by
  have h1 := nodup_len (m := E.map Prod.snd) h.one fun y hy => by
    obtain ⟨c, hc, rfl⟩ := List.mem_map.1 hy
    obtain ⟨x, hx⟩ := hC c (h.sub c hc)
    exact List.mem_map.2 ⟨_, hx, rfl⟩
  simpa using h1
/-- What holds ahead of a layer. -/
structure LyOk (E : List Pr) (a b : Int) (d : Nat) (ways : List (List Int)) (seen : List Int) : Prop where
  lay : LayOk E a d ways seen
  nd : seen.Nodup
  tg : ∀ n ∈ seen, ∃ x, (x, n) ∈ E
  nb : b ∉ seen
  len : ∀ w ∈ ways, w.length = d + 1
  dp : ways ≠ [] → d ≤ seen.length
  few : ways.length ≤ E.length + 1
theorem LyOk.start (E : List Pr) (a b : Int) : LyOk E a b 0 [[a]] [] := ⟨LayOk.start E a, by simp, by simp, by simp, by simp, by simp, by simp⟩
theorem LyOk.seenLen {E : List Pr} {a b : Int} {d : Nat} {ways : List (List Int)} {seen : List Int} (h : LyOk E a b d ways seen) : seen.length ≤ E.length := by
  have h1 := nodup_len (m := E.map Prod.snd) h.nd fun y hy => by
    obtain ⟨x, hx⟩ := h.tg y hy
    exact List.mem_map.2 ⟨_, hx, rfl⟩
  simpa using h1
theorem LyOk.next {E : List Pr} {a b : Int} {d : Nat} {ways N : List (List Int)} {seen : List Int} (h : LyOk E a b d ways seen) (hn : NextOk (candsL E seen ways) N) (hw : ways ≠ []) (hb : ∀ x ∈ N, endI x ≠ b) : LyOk E a b (d + 1) N (seen ++ N.map endI) := by
  obtain ⟨h1, h2⟩ := h.lay.next hn
  have hC : ∀ c ∈ candsL E seen ways, c.length = d + 1 + 1 ∧ ∃ x, (x, endI c) ∈ E := fun c hc => mem_candsL' h.len hc
  refine ⟨h1, ?_, fun n hm => ?_, fun hm => ?_, fun w hm => (hC w (hn.sub w hm)).1, fun hN => ?_, Nat.le_succ_of_le (hn.few fun c hc => (hC c hc).2)⟩
  · rw [List.nodup_append]
    exact ⟨h.nd, hn.one, fun x hx y hy e => by
      obtain ⟨c, hc, rfl⟩ := List.mem_map.1 hy
      exact h2 c hc (e ▸ hx)⟩
  · rcases List.mem_append.1 hm with g | g
    · exact h.tg n g
    · obtain ⟨c, hc, rfl⟩ := List.mem_map.1 g
      exact (hC c (hn.sub c hc)).2
  · rcases List.mem_append.1 hm with g | g
    · exact h.nb g
    · obtain ⟨c, hc, e⟩ := List.mem_map.1 g
      exact hb c hc e
  · have := h.dp hw
    have : 0 < N.length := List.length_pos_iff.2 hN
    rw [List.length_append, List.length_map]
    omega
theorem LyOk.none {E : List Pr} {a b : Int} {d : Nat} {ways : List (List Int)} {seen : List Int} (h : LyOk E a b d ways seen) (hw : ways = []) : ¬ Lead (InE E) a b := by
  subst hw
  exact h.lay.none h.nb
/-- How many layers are left, at most. -/
def lyM (n : Nat) (ways : List (List Int)) (seen : List Int) : Nat := 2 * (n - seen.length) + if ways = [] then 0 else 1
theorem lyM_next {n : Nat} {ways N : List (List Int)} {seen : List Int} (hw : ways ≠ []) (hs : (seen ++ N.map endI).length ≤ n) : lyM n N (seen ++ N.map endI) + 1 ≤ lyM n ways seen := by
  unfold lyM
  rw [if_neg hw]
  rw [List.length_append, List.length_map] at hs ⊢
  by_cases hN : N = []
  · subst hN
    rw [if_pos rfl, List.length_nil]
    omega
  · rw [if_neg hN]
    have : 0 < N.length := List.length_pos_iff.2 hN
    omega
theorem endI_at {w : List Int} (h : w ≠ []) : endI w = w[w.length - 1]'(by have := List.length_pos_iff.2 h; omega) := by
  unfold endI
  rw [List.getLastD_eq_getLast?, List.getLast?_eq_some_getLast h]
  exact List.getLast_eq_getElem _
theorem InE.same {E F : List Pr} (h : ∀ q, q ∈ E ↔ q ∈ F) : InE E = InE F := by
  funext x y
  exact propext (h (x, y))
end Go.Proofs.Ytgjjdmkoamjdpaa
