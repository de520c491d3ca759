/- Joined: JoE JoF JoG JoH JoI. -/
import Derived.Test.YtgldcahhliokeaaJoD
import Derived.Deep.Cut
import Derived.Deep.CutRange
import Derived.Deep.CutBlock
import Derived.IntWalk
/- Names; lists of names and of atoms in memory; where a name stands, whether an atom has it. -/
namespace Go.Proofs.Ytgldcahhliokeaa
open Go.RowKit Go.Maps

theorem ba_size (l : List UInt8) : (⟨l.toArray⟩ : ByteArray).size = l.length := by show l.toArray.size = _; exact List.size_toArray
def nmB (b : UInt8) : Bool := decide (97 ≤ b.toNat) && decide (b.toNat ≤ 122)
/-- Is it a name? -/
def isNm (l : Nm) : Bool := decide (1 ≤ l.length) && decide (l.length ≤ 16) && l.all nmB
theorem isNm_len {l : Nm} (h : isNm l = true) : 1 ≤ l.length ∧ l.length ≤ 16 := by
  unfold isNm at h
  rw [Bool.and_eq_true, Bool.and_eq_true, decide_eq_true_eq, decide_eq_true_eq] at h
  exact h.1
theorem ba_get (s : ByteArray) (k : Nat) (h : k < s.size) : s[k]'h = s.data.toList[k]'(by rw [Array.length_toList]; exact h) := rfl
theorem is_long (s : ByteArray) (w : World) (h : s.size < 1 ∨ 16 < s.size) : Calls Try.prog 44 #[.string s] w fun e w' => e = .returned (.bool (isNm s.data.toList)) ∧ w = w' := by
  have hf : isNm s.data.toList = false := by
    have hl : s.data.toList.length = s.size := Array.length_toList
    unfold isNm
    rcases h with h | h
    · rw [decide_eq_false (by omega)]; rfl
    · rw [decide_eq_false (show ¬ s.data.toList.length ≤ 16 by omega), Bool.and_false]; rfl
  rw [hf]
  clear hf
  rcases h with h | h
  · have h1 : (s.size : Int) < 1 := by omega
    go_enter Try.func44, Try.ntmps44
    go_wp2
    go_ret
    exact ⟨rfl, rfl⟩
  · have h1 : ¬ (s.size : Int) < 1 := by omega
    have h2 : (16 : Int) < (s.size : Int) := by omega
    go_enter Try.func44, Try.ntmps44
    go_wp2
    go_ret
    exact ⟨rfl, rfl⟩
set_option maxRecDepth 100000 in
theorem is_short (s : ByteArray) (w : World) (h1 : 1 ≤ s.size) (h2 : s.size ≤ 16) : Calls Try.prog 44 #[.string s] w fun e w' => e = .returned (.bool (isNm s.data.toList)) ∧ w = w' := by
  have hl : s.data.toList.length = s.size := Array.length_toList
  have hR : isNm s.data.toList = s.data.toList.all nmB := by
    unfold isNm
    rw [decide_eq_true (by omega), decide_eq_true (show s.data.toList.length ≤ 16 by omega)]
    rfl
  rw [hR]
  obtain ⟨R, hR⟩ : ∃ R, R = s.data.toList.all nmB := ⟨_, rfl⟩
  rw [← hR]
  have HR := Lib.hid (And.intro hl hR)
  have g1 : ¬ (s.size : Int) < 1 := by omega
  have g2 : ¬ (16 : Int) < (s.size : Int) := by omega
  clear hR hl
  go_enter Try.func44, Try.ntmps44
  go_wp2_with (fail)
  go_loop [14] (fun i => ∃ k : Nat, k ≤ s.size ∧ i = .int .i64 (k : Int) ∧ Hid (R = (s.data.toList.drop k).all nmB)) (fun i => s.size - (intOf i).toNat)
  case atStart => exact ⟨0, by omega, rfl, Lib.hid HR.out.2⟩
  case round =>
    obtain ⟨k, hk, rfl, hrel⟩ := hrel
    by_cases hlt : k < s.size
    · have hd := List.drop_eq_getElem_cons (l := s.data.toList) (i := k) (by rw [HR.out.1]; exact hlt)
      have hrk := hrel.out
      rw [hd, List.all_cons, ← ba_get s k hlt] at hrk
      have hlI : (k : Int) < (s.size : Int) := by omega
      clear hd hrel
      by_cases ha : (s[k]'hlt).toNat < 97
      · have hf : R = false := by rw [hrk]; unfold nmB; rw [decide_eq_false (by omega)]; rfl
        have HF := Lib.hid hf
        clear hf hrk
        have haI : ((s[k]'hlt).toNat : Int) < 97 := by omega
        go_wp2_with (fail)
        go_ret
        exact ⟨by rw [HF.out]; rfl, rfl⟩
      · by_cases hz : 122 < (s[k]'hlt).toNat
        · have hf : R = false := by rw [hrk]; unfold nmB; rw [decide_eq_false (show ¬ (s[k]'hlt).toNat ≤ 122 by omega), Bool.and_false]; rfl
          have HF := Lib.hid hf
          clear hf hrk
          have haI : ¬ ((s[k]'hlt).toNat : Int) < 97 := by omega
          have hzI : (122 : Int) < ((s[k]'hlt).toNat : Int) := by omega
          go_wp2_with (fail)
          go_ret
          exact ⟨by rw [HF.out]; rfl, rfl⟩
        · have hf : Hid (R = (s.data.toList.drop (k + 1)).all nmB) := Lib.hid (by rw [hrk]; unfold nmB; rw [decide_eq_true (show 97 ≤ (s[k]'hlt).toNat by omega), decide_eq_true (show (s[k]'hlt).toNat ≤ 122 by omega)]; rfl)
          clear hrk
          have haI : ¬ ((s[k]'hlt).toNat : Int) < 97 := by omega
          have hzI : ¬ (122 : Int) < ((s[k]'hlt).toNat : Int) := by omega
          go_wp2_with (fail)
          go_round
          case rel => exact ⟨k + 1, by omega, by go_num, hf⟩
          case measure => simp [intOf]; omega
    · have g0 : ¬ (k : Int) < (s.size : Int) := by omega
      have hrk := hrel.out
      rw [List.drop_of_length_le (by rw [HR.out.1]; omega), List.all_nil] at hrk
      have HK := Lib.hid hrk
      clear hrk hrel
      go_wp2_with (fail)
      go_ret
      exact ⟨by rw [HK.out]; rfl, rfl⟩
/-- names.Is. -/
theorem is_any (l : Nm) (w : World) : Calls Try.prog 44 #[.string ⟨l.toArray⟩] w fun e w' => e = .returned (.bool (isNm l)) ∧ w = w' := by
  have hs := ba_size l
  by_cases h : l.length < 1 ∨ 16 < l.length
  · exact is_long ⟨l.toArray⟩ w (by rw [hs]; exact h)
  · exact is_short ⟨l.toArray⟩ w (by rw [hs]; omega) (by rw [hs]; omega)

/-- Names in memory. -/
def strs (l : List Nm) : List Value := l.map fun s => .string ⟨s.toArray⟩
theorem strs_len (l : List Nm) : (strs l).length = l.length := List.length_map _
theorem strs_app (a b : List Nm) : strs (a ++ b) = strs a ++ strs b := List.map_append
theorem strs_take (a : List Nm) (k : Nat) : strs (a.take k) = (strs a).take k := List.map_take
theorem strs_one (l : List Nm) : ∀ u ∈ strs l, u.oneCell' = true := by
  intro u hu
  obtain ⟨b, _, rfl⟩ := List.mem_map.1 hu
  rfl
/-- A list of names. -/
structure Sts (w : World) (A : Option Addr) (c : Nat) (l : List Nm) : Prop where
  rd : Rd w w.heap.size A (strs l)
  cap : l.length ≤ c
  sm : l.length ≤ 100
theorem Sts.below {w w' : World} {A : Option Addr} {c : Nat} {l : List Nm} (h : Sts w A c l) (hb : Below w.heap.size w w') : Sts w' A c l :=
  ⟨(h.rd.below hb (Nat.le_refl _)).more hb.size, h.cap, h.sm⟩
theorem Sts.take {w : World} {A : Option Addr} {c : Nat} {l : List Nm} (h : Sts w A c l) (k : Nat) : Sts w A c (l.take k) :=
  ⟨by rw [strs_take]; exact h.rd.take k, by rw [List.length_take]; have := h.cap; omega, by rw [List.length_take]; have := h.sm; omega⟩
theorem Sts.cell {w : World} {A : Option Addr} {c : Nat} {l : List Nm} (h : Sts w A c l) {k : Nat} (hk : k < l.length) : ∃ b o, A = some ⟨b, o, none⟩ ∧ b < w.heap.size ∧ w.cell? ⟨b, o + k, none⟩ = some (.string ⟨l[k].toArray⟩) := by
  obtain ⟨b, o, e, hb, hc⟩ := h.rd.get (k := k) (by rw [strs_len]; exact hk)
  refine ⟨b, o, e, hb, hc.trans ?_⟩
  simp [strs]
/-- Atoms in memory. -/
def atC (a : Atm) : List Value := [.string ⟨a.fr.toArray⟩, .string ⟨a.lab.toArray⟩, .string ⟨a.to.toArray⟩]
def atsC (l : List Atm) : List Value := l.flatMap atC
theorem atsC_len (l : List Atm) : (atsC l).length = l.length * 3 := by
  induction l with
  | nil => rfl
  | cons a l ih =>
    show (atC a ++ atsC l).length = _
    rw [List.length_append, ih, List.length_cons]
    show 3 + _ = _
    omega
theorem flat3_at {α : Type} (f : α → List Value) (hf : ∀ a, (f a).length = 3) : ∀ (l : List α) (k j : Nat) (hk : k < l.length), j < 3 → (l.flatMap f)[k * 3 + j]? = (f l[k])[j]?
  | [], k, _, hk, _ => absurd hk (by simp)
  | a :: l, 0, j, _, hj => by
    rw [List.flatMap_cons, Nat.zero_mul, Nat.zero_add, List.getElem?_append_left (by rw [hf]; exact hj)]
    rfl
  | a :: l, k + 1, j, hk, hj => by
    rw [List.flatMap_cons, List.getElem?_append_right (by rw [hf]; omega), hf]
    have e : (k + 1) * 3 + j - 3 = k * 3 + j := by omega
    rw [e, flat3_at f hf l k j (by simpa using hk) hj]
    rfl
structure Ats (w : World) (A : Option Addr) (c : Nat) (l : List Atm) : Prop where
  rd : Rd w w.heap.size A (atsC l)
  cap : l.length ≤ c
  sm : l.length ≤ 100
theorem Ats.below {w w' : World} {A : Option Addr} {c : Nat} {l : List Atm} (h : Ats w A c l) (hb : Below w.heap.size w w') : Ats w' A c l :=
  ⟨(h.rd.below hb (Nat.le_refl _)).more hb.size, h.cap, h.sm⟩
theorem Ats.cell {w : World} {A : Option Addr} {c : Nat} {l : List Atm} (h : Ats w A c l) {k : Nat} (hk : k < l.length) : ∃ b o, A = some ⟨b, o, none⟩ ∧ b < w.heap.size ∧ w.cell? ⟨b, o + k * 3, none⟩ = some (.string ⟨l[k].fr.toArray⟩) ∧ w.cell? ⟨b, o + k * 3 + 1, none⟩ = some (.string ⟨l[k].lab.toArray⟩) ∧ w.cell? ⟨b, o + k * 3 + 2, none⟩ = some (.string ⟨l[k].to.toArray⟩) := by
  have hne : atsC l ≠ [] := fun e => by have := atsC_len l; rw [e] at this; simp at this; omega
  obtain ⟨b, o, e, hb, hc⟩ := h.rd hne
  have hat := fun j hj => flat3_at atC (fun _ => rfl) l k j hk hj
  refine ⟨b, o, e, hb, hc (k * 3) _ (hat 0 (by omega)), ?_, ?_⟩
  · rw [Nat.add_assoc]; exact hc (k * 3 + 1) _ (hat 1 (by omega))
  · rw [Nat.add_assoc]; exact hc (k * 3 + 2) _ (hat 2 (by omega))
/-- Where a name stands, or -1. -/
def indexL (l : List Nm) (s : Nm) : Int := if s ∈ l then (l.idxOf s : Int) else -1
theorem idxOf_at {l : List Nm} {s : Nm} {k : Nat} (hk : k < l.length) (he : l[k] = s) (hn : ∀ j, (hj : j < l.length) → j < k → l[j] ≠ s) : l.idxOf s = k := by
  have hm : s ∈ l := he ▸ List.getElem_mem hk
  have h1 := List.getElem_idxOf (List.idxOf_lt_length_iff.2 hm)
  have hlt := List.idxOf_lt_length_iff.2 hm
  rcases Nat.lt_trichotomy (l.idxOf s) k with h | h | h
  · exact absurd h1 (hn _ hlt h)
  · exact h
  · have h3 := List.not_of_lt_findIdx (p := (· == s)) (xs := l) (i := k) h
    rw [he] at h3
    simp at h3
set_option maxRecDepth 100000 in
set_option maxHeartbeats 1000000 in
/-- slices.Index, of names. -/
theorem index_any (A : Option Addr) (c : Nat) (l : List Nm) (s : Nm) (w : World) (h : Sts w A c l) : Calls Try.prog 64 #[.slice A l.length c, .string ⟨s.toArray⟩] w fun e w' => e = .returned (.int .i64 (indexL l s)) ∧ w = w' := by
  obtain ⟨R, hR⟩ : ∃ R, R = indexL l s := ⟨_, rfl⟩
  rw [← hR]
  have hs := h.sm
  have HA := Lib.hid (And.intro h hR)
  clear h hR
  go_enter Try.func64, Try.ntmps64
  go_wp2_with (fail)
  go_loop [8] (fun i => ∃ k : Nat, k ≤ l.length ∧ i = .int .i64 (k : Int) ∧ Hid (∀ j, (hj : j < l.length) → j < k → l[j] ≠ s)) (fun i => l.length - (intOf i).toNat)
  case atStart => exact ⟨0, by omega, rfl, Lib.hid fun j _ h => absurd h (Nat.not_lt_zero _)⟩
  case round =>
    obtain ⟨k, hk, rfl, hrel⟩ := hrel
    by_cases hlt : k < l.length
    · obtain ⟨b, o, rfl, _, c0⟩ := HA.out.1.cell hlt
      have hlI : (k : Int) < (l.length : Int) := by omega
      by_cases he : l[k] = s
      · have hf : R = (k : Int) := by
          rw [HA.out.2]
          unfold indexL
          rw [if_pos (he ▸ List.getElem_mem hlt), idxOf_at hlt he hrel.out]
        have HF := Lib.hid hf
        clear hf hrel
        rw [he] at c0
        clear he
        go_wp2_with (fail)
        go_ret
        exact ⟨by rw [HF.out]; rfl, rfl⟩
      · have hb : (s == l[k]) = false := beq_eq_false_iff_ne.2 fun e => he e.symm
        have hn : Hid (∀ j, (hj : j < l.length) → j < k + 1 → l[j] ≠ s) := Lib.hid fun j hj hjk => by
          by_cases e : j = k
          · subst e; exact he
          · exact hrel.out j hj (by omega)
        clear hrel he
        generalize l[k] = x at c0 hb
        go_wp2_with (fail)
        go_round
        case rel => exact ⟨k + 1, by omega, by go_num, hn⟩
        case measure => simp [intOf]; omega
    · have g0 : ¬ (k : Int) < (l.length : Int) := by omega
      have hf : R = -1 := by
        rw [HA.out.2]
        unfold indexL
        rw [if_neg]
        intro hm
        obtain ⟨j, hj, e⟩ := List.getElem_of_mem hm
        exact hrel.out j hj (by omega) e
      have HF := Lib.hid hf
      clear hf hrel
      go_wp2_with (fail)
      go_ret
      exact ⟨by rw [HF.out]; rfl, rfl⟩
/-- slices.Contains, of names. -/
theorem contains_any (A : Option Addr) (c : Nat) (l : List Nm) (s : Nm) (w : World) (h : Sts w A c l) : Calls Try.prog 114 #[.slice A l.length c, .string ⟨s.toArray⟩] w fun e w' => e = .returned (.bool (decide (s ∈ l))) ∧ w = w' := by
  have hc := index_any A c l s w h
  have hm : s ∈ l ↔ 0 ≤ indexL l s := by
    unfold indexL
    by_cases hx : s ∈ l
    · rw [if_pos hx]
      exact ⟨fun _ => by omega, fun _ => hx⟩
    · rw [if_neg hx]
      exact ⟨fun h => absurd h hx, fun h => by omega⟩
  have hd : decide (s ∈ l) = decide (0 ≤ indexL l s) := decide_eq_decide.2 hm
  rw [hd]
  generalize indexL l s = R at *
  clear h hm hd
  go_enter Try.func114, Try.ntmps114
  go_wp2_with ((with_reducible refine hc.mono ?_); rintro e w' ⟨rfl, rfl⟩)
  go_ret
  exact ⟨rfl, rfl⟩
end Go.Proofs.Ytgldcahhliokeaa
/- Definitions: what query.Check asks for. -/
namespace Go.Proofs.Ytgldcahhliokeaa
open Go.RowKit Go.Maps

def atOk (a : Atm) : Bool := isNm a.fr && isNm a.lab && isNm a.to
def atsOk (l : List Atm) : Bool := decide (1 ≤ l.length) && decide (l.length ≤ 8) && l.all atOk
def boundB (l : List Atm) (s : Nm) : Bool := l.any fun a => a.fr == s || a.to == s
theorem boundB_iff {l : List Atm} {s : Nm} : boundB l s = true ↔ s ∈ varsL l := by
  unfold boundB
  rw [List.any_eq_true, varsL_mem]
  constructor
  · rintro ⟨a, ha, h⟩
    rw [Bool.or_eq_true, beq_iff_eq, beq_iff_eq] at h
    exact ⟨a, ha, h.imp Eq.symm Eq.symm⟩
  · rintro ⟨a, ha, h⟩
    exact ⟨a, ha, by rw [Bool.or_eq_true, beq_iff_eq, beq_iff_eq]; exact h.imp Eq.symm Eq.symm⟩
def outsGo (ats : List Atm) : List Nm → List Nm → Bool
  | _, [] => true
  | pre, o :: r => !decide (o ∈ pre) && boundB ats o && outsGo ats (pre ++ [o]) r
def outsOk (out : List Nm) (ats : List Atm) : Bool := decide (1 ≤ out.length) && decide (out.length ≤ 6) && outsGo ats [] out
def patOk (v : Vw) : Bool := decide (v.kind = 1) && decide (v.label = []) && atsOk v.atoms && outsOk v.out v.atoms
def reachOk (v : Vw) : Bool := decide (v.kind = 2) && isNm v.label && decide (v.out.length = 0) && decide (v.atoms.length = 0)
/-- Is it a pattern? -/
def goodP (v : Vw) : Bool := isNm v.name && patOk v
set_option maxRecDepth 100000 in
set_option maxHeartbeats 1000000 in
theorem isBound_any (A : Option Addr) (c : Nat) (l : List Atm) (s : Nm) (w : World) (h : Ats w A c l) : Calls Try.prog 115 #[.string ⟨s.toArray⟩, .slice A l.length c] w fun e w' => e = .returned (.bool (boundB l s)) ∧ Below w.heap.size w w' := by
  obtain ⟨R, hR⟩ : ∃ R, R = boundB l s := ⟨_, rfl⟩
  rw [← hR]
  have hs := h.sm
  have HA := Lib.hid (And.intro h hR)
  clear h hR
  go_enter Try.func115, Try.ntmps115
  go_wp2_with (fail)
  go_loopw [9] (fun i wr => ∃ k : Nat, k ≤ l.length ∧ i = .int .i64 (k : Int) ∧ Hid (R = boundB (l.drop k) s ∧ Below w.heap.size w wr)) (fun i _ => l.length - (intOf i).toNat)
  case atStart => exact ⟨0, by omega, rfl, Lib.hid ⟨HA.out.2, Below.refl _ _⟩⟩
  case round =>
    obtain ⟨k, hk, rfl, hrel⟩ := hrel
    by_cases hlt : k < l.length
    · obtain ⟨b, o, rfl, _, c0, c1, c2⟩ := (HA.out.1.below hrel.out.2).cell hlt
      have hd : l.drop k = l[k] :: l.drop (k + 1) := List.drop_eq_getElem_cons hlt
      have hrk := hrel.out.1
      rw [hd] at hrk
      unfold boundB at hrk
      rw [List.any_cons] at hrk
      have hlI : (k : Int) < (l.length : Int) := by omega
      have hB := Lib.hid hrel.out.2
      have hBn := Lib.hid (hrel.out.2.alloc hrel.out.2.size (.cells #[.string ⟨l[k].fr.toArray⟩, .string ⟨l[k].lab.toArray⟩, .string ⟨l[k].to.toArray⟩] 69))
      clear hrel hd
      generalize l[k] = x at c0 c1 c2 hrk hBn
      cases h1 : x.fr == s with
      | true =>
        rw [h1] at hrk
        have HF := Lib.hid hrk
        clear hrk
        go_wp2_with (fail)
        go_ret
        exact ⟨by rw [HF.out]; rfl, hBn.out⟩
      | false =>
        cases h2 : x.to == s with
        | true =>
          rw [h1, h2] at hrk
          have HF := Lib.hid hrk
          clear hrk
          go_wp2_with (fail)
          go_ret
          exact ⟨by rw [HF.out]; rfl, hBn.out⟩
        | false =>
          rw [h1, h2] at hrk
          have HF : Hid (R = boundB (l.drop (k + 1)) s) := Lib.hid hrk
          clear hrk
          go_wp2_with (fail)
          go_roundw
          case rel => exact ⟨k + 1, by omega, by go_num, Lib.hid ⟨HF.out, hBn.out⟩⟩
          case measure => simp [intOf]; omega
    · have g0 : ¬ (k : Int) < (l.length : Int) := by omega
      have hrk := hrel.out.1
      rw [List.drop_of_length_le (by omega)] at hrk
      have HK := Lib.hid (And.intro hrk hrel.out.2)
      clear hrk hrel
      go_wp2_with (fail)
      go_ret
      exact ⟨by rw [HK.out.1]; rfl, HK.out.2⟩
end Go.Proofs.Ytgldcahhliokeaa
/- Definitions: the atoms, the outputs, query.Check, join.isPattern. -/
namespace Go.Proofs.Ytgldcahhliokeaa
open Go.RowKit Go.Maps

theorem atsOk_bad {l : List Atm} (h : l.length < 1 ∨ 8 < l.length) : atsOk l = false := by
  unfold atsOk
  rcases h with h | h
  · rw [decide_eq_false (by omega)]; rfl
  · rw [decide_eq_false (show ¬ l.length ≤ 8 by omega), Bool.and_false]; rfl
theorem atsOk_all {l : List Atm} (h : ¬ (l.length < 1 ∨ 8 < l.length)) : atsOk l = l.all atOk := by
  unfold atsOk
  rw [decide_eq_true (show 1 ≤ l.length by omega), decide_eq_true (show l.length ≤ 8 by omega)]
  rfl
set_option maxRecDepth 100000 in
set_option maxHeartbeats 2000000 in
theorem areAtoms_any (A : Option Addr) (c : Nat) (l : List Atm) (w : World) (h : Ats w A c l) : Calls Try.prog 93 #[.slice A l.length c] w fun e w' => e = .returned (.bool (atsOk l)) ∧ Below w.heap.size w w' := by
  by_cases hn : l.length < 1 ∨ 8 < l.length
  · rw [atsOk_bad hn]
    clear h
    rcases hn with hn | hn
    · have g1 : (l.length : Int) < 1 := by omega
      go_enter Try.func93, Try.ntmps93
      go_wp2_with (fail)
      go_ret
      exact ⟨rfl, Below.refl _ _⟩
    · have g1 : ¬ (l.length : Int) < 1 := by omega
      have g2 : (8 : Int) < (l.length : Int) := by omega
      go_enter Try.func93, Try.ntmps93
      go_wp2_with (fail)
      go_ret
      exact ⟨rfl, Below.refl _ _⟩
  · rw [atsOk_all hn]
    obtain ⟨R, hR⟩ : ∃ R, R = l.all atOk := ⟨_, rfl⟩
    rw [← hR]
    have HA := Lib.hid (And.intro h hR)
    have g1 : ¬ (l.length : Int) < 1 := by omega
    have g2 : ¬ (8 : Int) < (l.length : Int) := by omega
    clear h hR hn
    go_enter Try.func93, Try.ntmps93
    go_wp2_with (fail)
    go_loopw [15] (fun i wr => ∃ k : Nat, k ≤ l.length ∧ i = .int .i64 (k : Int) ∧ Hid (R = (l.drop k).all atOk ∧ Below w.heap.size w wr)) (fun i _ => l.length - (intOf i).toNat)
    case atStart => exact ⟨0, by omega, rfl, Lib.hid ⟨HA.out.2, Below.refl _ _⟩⟩
    case round =>
      obtain ⟨k, hk, rfl, hrel⟩ := hrel
      by_cases hlt : k < l.length
      · obtain ⟨b, o, rfl, _, c0, c1, c2⟩ := (HA.out.1.below hrel.out.2).cell hlt
        have hd : l.drop k = l[k] :: l.drop (k + 1) := List.drop_eq_getElem_cons hlt
        have hrk := hrel.out.1
        rw [hd, List.all_cons] at hrk
        have hlI : (k : Int) < (l.length : Int) := by omega
        have hBn := Lib.hid (hrel.out.2.alloc hrel.out.2.size (.cells #[.string ⟨l[k].fr.toArray⟩, .string ⟨l[k].lab.toArray⟩, .string ⟨l[k].to.toArray⟩] 69))
        clear hrel hd
        generalize l[k] = x at c0 c1 c2 hrk hBn
        have k1 := fun W => is_any x.fr W
        have k2 := fun W => is_any x.lab W
        have k3 := fun W => is_any x.to W
        have hat : atOk x = (isNm x.fr && isNm x.lab && isNm x.to) := rfl
        rw [hat] at hrk
        clear hat
        cases h1 : isNm x.fr with
        | false =>
          simp only [h1] at k1 hrk
          have K1 := Lib.hid k1
          have HF : Hid (R = false) := Lib.hid hrk
          clear hrk k1 k2 k3
          go_wp2_with (go_at_call 44; (with_reducible refine (K1.out _).mono ?_); rintro e w' ⟨rfl, rfl⟩)
          go_ret
          exact ⟨by rw [HF.out]; rfl, hBn.out⟩
        | true =>
          simp only [h1] at k1 hrk
          have K1 := Lib.hid k1
          cases h2 : isNm x.lab with
          | false =>
            simp only [h2] at k2 hrk
            have K2 := Lib.hid k2
            have HF : Hid (R = false) := Lib.hid hrk
            clear hrk k1 k2 k3
            go_wp2_with (first
              | (go_at_call 44; (with_reducible refine (K1.out _).mono ?_); rintro e w' ⟨rfl, rfl⟩)
              | (go_at_call 44; (with_reducible refine (K2.out _).mono ?_); rintro e w' ⟨rfl, rfl⟩))
            go_ret
            exact ⟨by rw [HF.out]; rfl, hBn.out⟩
          | true =>
            simp only [h2] at k2 hrk
            have K2 := Lib.hid k2
            cases h3 : isNm x.to with
            | false =>
              simp only [h3] at k3 hrk
              have K3 := Lib.hid k3
              have HF : Hid (R = false) := Lib.hid hrk
              clear hrk k1 k2 k3
              go_wp2_with (first
                | (go_at_call 44; (with_reducible refine (K1.out _).mono ?_); rintro e w' ⟨rfl, rfl⟩)
                | (go_at_call 44; (with_reducible refine (K2.out _).mono ?_); rintro e w' ⟨rfl, rfl⟩)
                | (go_at_call 44; (with_reducible refine (K3.out _).mono ?_); rintro e w' ⟨rfl, rfl⟩))
              go_ret
              exact ⟨by rw [HF.out]; rfl, hBn.out⟩
            | true =>
              simp only [h3] at k3 hrk
              have K3 := Lib.hid k3
              have HF : Hid (R = (l.drop (k + 1)).all atOk) := Lib.hid (by simpa using hrk)
              clear hrk k1 k2 k3
              go_wp2_with (first
                | (go_at_call 44; (with_reducible refine (K1.out _).mono ?_); rintro e w' ⟨rfl, rfl⟩)
                | (go_at_call 44; (with_reducible refine (K2.out _).mono ?_); rintro e w' ⟨rfl, rfl⟩)
                | (go_at_call 44; (with_reducible refine (K3.out _).mono ?_); rintro e w' ⟨rfl, rfl⟩))
              go_roundw
              case rel => exact ⟨k + 1, by omega, by go_num, Lib.hid ⟨HF.out, hBn.out⟩⟩
              case measure => simp [intOf]; omega
      · have g0 : ¬ (k : Int) < (l.length : Int) := by omega
        have hrk := hrel.out.1
        rw [List.drop_of_length_le (by omega)] at hrk
        have HK := Lib.hid (And.intro hrk hrel.out.2)
        clear hrk hrel
        go_wp2_with (fail)
        go_ret
        exact ⟨by rw [HK.out.1]; rfl, HK.out.2⟩
theorem outsOk_bad {l : List Nm} {ats : List Atm} (h : l.length < 1 ∨ 6 < l.length) : outsOk l ats = false := by
  unfold outsOk
  rcases h with h | h
  · rw [decide_eq_false (by omega)]; rfl
  · rw [decide_eq_false (show ¬ l.length ≤ 6 by omega), Bool.and_false]; rfl
theorem outsOk_all {l : List Nm} {ats : List Atm} (h : ¬ (l.length < 1 ∨ 6 < l.length)) : outsOk l ats = outsGo ats [] l := by
  unfold outsOk
  rw [decide_eq_true (show 1 ≤ l.length by omega), decide_eq_true (show l.length ≤ 6 by omega)]
  rfl
set_option maxRecDepth 100000 in
set_option maxHeartbeats 2000000 in
theorem areOutputs_any (A : Option Addr) (c : Nat) (l : List Nm) (A' : Option Addr) (c' : Nat) (ats : List Atm) (w : World) (h : Sts w A c l) (h' : Ats w A' c' ats) : Calls Try.prog 94 #[.slice A l.length c, .slice A' ats.length c'] w fun e w' => e = .returned (.bool (outsOk l ats)) ∧ Below w.heap.size w w' := by
  by_cases hn : l.length < 1 ∨ 6 < l.length
  · rw [outsOk_bad hn]
    clear h h'
    rcases hn with hn | hn
    · have g1 : (l.length : Int) < 1 := by omega
      go_enter Try.func94, Try.ntmps94
      go_wp2_with (fail)
      go_ret
      exact ⟨rfl, Below.refl _ _⟩
    · have g1 : ¬ (l.length : Int) < 1 := by omega
      have g2 : (6 : Int) < (l.length : Int) := by omega
      go_enter Try.func94, Try.ntmps94
      go_wp2_with (fail)
      go_ret
      exact ⟨rfl, Below.refl _ _⟩
  · rw [outsOk_all hn]
    obtain ⟨R, hR⟩ : ∃ R, R = outsGo ats [] l := ⟨_, rfl⟩
    rw [← hR]
    have HA := Lib.hid (And.intro h (And.intro h' hR))
    have g1 : ¬ (l.length : Int) < 1 := by omega
    have g2 : ¬ (6 : Int) < (l.length : Int) := by omega
    have hcap : (l.length : Int) ≤ (c : Int) := by have := h.cap; omega
    clear h h' hR hn
    go_enter Try.func94, Try.ntmps94
    go_wp2_with (fail)
    go_loopw [17] (fun i wr => ∃ k : Nat, k ≤ l.length ∧ i = .int .i64 (k : Int) ∧ Hid (R = outsGo ats (l.take k) (l.drop k) ∧ Below w.heap.size w wr)) (fun i _ => l.length - (intOf i).toNat)
    case atStart => exact ⟨0, by omega, rfl, Lib.hid ⟨HA.out.2.2, Below.refl _ _⟩⟩
    case round =>
      obtain ⟨k, hk, rfl, hrel⟩ := hrel
      by_cases hlt : k < l.length
      · have hS := HA.out.1.below hrel.out.2
        obtain ⟨b, o, rfl, _, c0⟩ := hS.cell hlt
        have hd : l.drop k = l[k] :: l.drop (k + 1) := List.drop_eq_getElem_cons hlt
        have ht : l.take (k + 1) = l.take k ++ [l[k]] := List.take_succ_eq_append_getElem hlt
        have hrk := hrel.out.1
        have htl : (l.take k).length = k := by rw [List.length_take]; omega
        rw [hd] at hrk
        unfold outsGo at hrk
        have hlI : (k : Int) < (l.length : Int) := by omega
        have hkc : (k : Int) ≤ (c : Int) := by omega
        have hB := Lib.hid hrel.out.2
        have k1 := contains_any (some ⟨b, o, none⟩) c (l.take k) l[k] wr (hS.take k)
        have k2 := isBound_any A' c' ats l[k] wr (HA.out.2.1.below hrel.out.2)
        rw [htl] at k1
        clear hrel hd hS htl
        generalize l[k] = x at c0 hrk k1 k2 ht
        cases h1 : decide (x ∈ l.take k) with
        | true =>
          rw [h1] at k1 hrk
          have K1 := Lib.hid k1
          have HF : Hid (R = false) := Lib.hid hrk
          clear hrk k1 k2 ht
          go_wp2_with (go_at_call 114; (with_reducible refine K1.out.mono ?_); rintro e w' ⟨rfl, rfl⟩)
          go_ret
          exact ⟨by rw [HF.out]; rfl, hB.out⟩
        | false =>
          rw [h1] at k1 hrk
          have K1 := Lib.hid k1
          cases h2 : boundB ats x with
          | false =>
            rw [h2] at k2 hrk
            have K2 := Lib.hid k2
            have HF : Hid (R = false) := Lib.hid hrk
            clear hrk k1 k2 ht
            go_wp2_with (first
              | (go_at_call 114; (with_reducible refine K1.out.mono ?_); rintro e w' ⟨rfl, rfl⟩)
              | (go_at_call 115; (with_reducible refine K2.out.mono ?_); rintro e w' ⟨rfl, hb2⟩))
            go_ret
            exact ⟨by rw [HF.out]; rfl, hB.out.trans (lower' hb2 hB.out.size)⟩
          | true =>
            rw [h2] at k2 hrk
            have K2 := Lib.hid k2
            have HF : Hid (R = outsGo ats (l.take (k + 1)) (l.drop (k + 1))) := Lib.hid (by rw [ht]; exact hrk)
            clear hrk k1 k2 ht
            go_wp2_with (first
              | (go_at_call 114; (with_reducible refine K1.out.mono ?_); rintro e w' ⟨rfl, rfl⟩)
              | (go_at_call 115; (with_reducible refine K2.out.mono ?_); rintro e w' ⟨rfl, hb2⟩))
            go_roundw
            case rel => exact ⟨k + 1, by omega, by go_num, Lib.hid ⟨HF.out, hB.out.trans (lower' hb2 hB.out.size)⟩⟩
            case measure => simp [intOf]; omega
      · have g0 : ¬ (k : Int) < (l.length : Int) := by omega
        have hrk := hrel.out.1
        rw [List.drop_of_length_le (by omega)] at hrk
        have HK := Lib.hid (And.intro hrk hrel.out.2)
        clear hrk hrel
        go_wp2_with (fail)
        go_ret
        exact ⟨by rw [HK.out.1]; rfl, HK.out.2⟩
end Go.Proofs.Ytgldcahhliokeaa
/- Definitions: query.Check, join.isPattern. -/
namespace Go.Proofs.Ytgldcahhliokeaa
open Go.RowKit Go.Maps

/-- A view's value, with what it reads as. -/
structure VW where
  oA : Option Addr
  oc : Nat
  aA : Option Addr
  ac : Nat
  v : Vw
abbrev vwA (x : VW) : Array Value := #[.string ⟨x.v.name.toArray⟩, .int .i64 x.v.kind, .slice x.oA x.v.out.length x.oc, .slice x.aA x.v.atoms.length x.ac, .string ⟨x.v.label.toArray⟩]
structure VW.Ok (w : World) (x : VW) : Prop where
  out : Sts w x.oA x.oc x.v.out
  ats : Ats w x.aA x.ac x.v.atoms
theorem VW.Ok.below {w w' : World} {x : VW} (h : x.Ok w) (hb : Below w.heap.size w w') : x.Ok w' := ⟨h.out.below hb, h.ats.below hb⟩
theorem VW.Ok.drewN {w : World} {x : VW} (h : x.Ok w) (n : Nat) : x.Ok (w.drewN n) := ⟨⟨h.out.rd, h.out.cap, h.out.sm⟩, ⟨h.ats.rd, h.ats.cap, h.ats.sm⟩⟩
theorem ba_nil {l : Nm} : (l == []) = decide (l = []) := by cases l <;> rfl
set_option maxRecDepth 100000 in
set_option maxHeartbeats 2000000 in
theorem qIsPattern_any (x : VW) (w : World) (h : x.Ok w) : Calls Try.prog 76 #[.agg (vwA x)] w fun e w' => e = .returned (.bool (patOk x.v)) ∧ Below w.heap.size w w' := by
  have hb1 : Below w.heap.size w (w.alloc (.cells (vwA x) 25)) := (Below.refl _ _).alloc (Nat.le_refl _) _
  have k1 := fun W (hW : Below w.heap.size w W) => areAtoms_any x.aA x.ac x.v.atoms W (h.ats.below hW)
  have k2 := fun W (hW : Below w.heap.size w W) => areOutputs_any x.oA x.oc x.v.out x.aA x.ac x.v.atoms W (h.out.below hW) (h.ats.below hW)
  obtain ⟨R, hR⟩ : ∃ R, R = patOk x.v := ⟨_, rfl⟩
  rw [← hR]
  unfold patOk at hR
  unfold vwA at hb1 ⊢
  clear h
  by_cases h1 : x.v.kind = 1
  · rw [decide_eq_true h1] at hR
    by_cases h2 : x.v.label = []
    · rw [decide_eq_true h2] at hR
      rw [h1, h2] at hb1 ⊢
      have HB := Lib.hid hb1
      clear hb1
      cases h3 : atsOk x.v.atoms with
      | false =>
        simp only [h3] at hR k1
        have HR : Hid (R = false) := Lib.hid hR
        have K1 := Lib.hid k1
        clear hR k1 k2 h1 h2 h3
        go_enter Try.func76, Try.ntmps76
        go_wp2_with (go_at_call 93; (with_reducible refine (K1.out _ HB.out).mono ?_); rintro e w' ⟨rfl, hb⟩)
        go_ret
        exact ⟨by rw [HR.out]; rfl, HB.out.trans (lower' hb HB.out.size)⟩
      | true =>
        simp only [h3] at hR k1
        have HR : Hid (R = outsOk x.v.out x.v.atoms) := Lib.hid (by simpa using hR)
        have K1 := Lib.hid k1
        have K2 := Lib.hid k2
        clear hR k1 k2 h1 h2 h3
        go_enter Try.func76, Try.ntmps76
        go_wp2_with (first
          | (go_at_call 93; (with_reducible refine (K1.out _ HB.out).mono ?_); rintro e w' ⟨rfl, hb⟩; have HB2 := Lib.hid (HB.out.trans (lower' hb HB.out.size)); have g0 := (hb.block w.heap.size (by simp)).trans (heap_alloc_new w _); have g2 := cell_of_row w' w.heap.size 2 _ _ _ g0; have g3 := cell_of_row w' w.heap.size 3 _ _ _ g0; clear g0 hb)
          | (go_at_call 94; (with_reducible refine (K2.out _ HB2.out).mono ?_); rintro e w3 ⟨rfl, hb3⟩))
        go_ret
        exact ⟨by rw [HR.out]; rfl, HB2.out.trans (lower' hb3 HB2.out.size)⟩
    · rw [decide_eq_false h2] at hR
      have HR : Hid (R = false) := Lib.hid hR
      have hl : (x.v.label == []) = false := by rw [ba_nil]; exact decide_eq_false h2
      rw [h1] at hb1 ⊢
      have HB := Lib.hid hb1
      clear hR k1 k2 h1 h2 hb1
      go_enter Try.func76, Try.ntmps76
      go_wp2_with (fail)
      go_ret
      exact ⟨by rw [HR.out]; rfl, HB.out⟩
  · rw [decide_eq_false h1] at hR
    have HR : Hid (R = false) := Lib.hid hR
    have hl : (x.v.kind == 1) = false := beq_eq_false_iff_ne.2 h1
    have HB := Lib.hid hb1
    clear hR k1 k2 h1 hb1
    go_enter Try.func76, Try.ntmps76
    go_wp2_with (fail)
    go_ret
    exact ⟨by rw [HR.out]; rfl, HB.out⟩
set_option maxRecDepth 100000 in
set_option maxHeartbeats 2000000 in
theorem qIsReach_any (x : VW) (w : World) (hs : x.v.out.length ≤ 100) (hs' : x.v.atoms.length ≤ 100) : Calls Try.prog 77 #[.agg (vwA x)] w fun e w' => e = .returned (.bool (reachOk x.v)) ∧ Below w.heap.size w w' := by
  have hb1 : Below w.heap.size w (w.alloc (.cells (vwA x) 25)) := (Below.refl _ _).alloc (Nat.le_refl _) _
  have k1 := fun W => is_any x.v.label W
  obtain ⟨R, hR⟩ : ∃ R, R = reachOk x.v := ⟨_, rfl⟩
  rw [← hR]
  unfold reachOk at hR
  unfold vwA at hb1 ⊢
  by_cases h1 : x.v.kind = 2
  · rw [decide_eq_true h1] at hR
    rw [h1] at hb1 ⊢
    have HB0 := hb1
    clear hb1
    cases h2 : isNm x.v.label with
    | false =>
      simp only [h2] at hR k1
      have HR : Hid (R = false) := Lib.hid hR
      have K1 := Lib.hid k1
      have HB := Lib.hid HB0
      clear hR k1 h1 h2 HB0
      go_enter Try.func77, Try.ntmps77
      go_wp2_with (go_at_call 44; (with_reducible refine (K1.out _).mono ?_); rintro e w' ⟨rfl, rfl⟩)
      go_ret
      exact ⟨by rw [HR.out]; rfl, HB.out⟩
    | true =>
      simp only [h2] at hR k1
      have K1 := Lib.hid k1
      clear k1 h1 h2
      generalize hon : x.v.out.length = on at *
      generalize han : x.v.atoms.length = an at *
      have HB := Lib.hid HB0
      clear HB0
      by_cases h3 : on = 0
      · have hl : ((on : Int) == 0) = true := by subst h3; rfl
        by_cases h4 : an = 0
        · have hl2 : ((an : Int) == 0) = true := by subst h4; rfl
          have HR : Hid (R = true) := Lib.hid (by rw [hR, h3, h4]; rfl)
          clear hR h3 h4 hon han
          go_enter Try.func77, Try.ntmps77
          go_wp2_with (go_at_call 44; (with_reducible refine (K1.out _).mono ?_); rintro e w' ⟨rfl, rfl⟩)
          go_ret
          exact ⟨by rw [HR.out]; rfl, HB.out⟩
        · have hl2 : ((an : Int) == 0) = false := by rw [beq_eq_false_iff_ne]; omega
          have HR : Hid (R = false) := Lib.hid (by rw [hR, decide_eq_false h4, Bool.and_false])
          clear hR h3 h4 hon han
          go_enter Try.func77, Try.ntmps77
          go_wp2_with (go_at_call 44; (with_reducible refine (K1.out _).mono ?_); rintro e w' ⟨rfl, rfl⟩)
          go_ret
          exact ⟨by rw [HR.out]; rfl, HB.out⟩
      · have hl : ((on : Int) == 0) = false := by rw [beq_eq_false_iff_ne]; omega
        have HR : Hid (R = false) := Lib.hid (by rw [hR, decide_eq_false h3, Bool.and_false]; rfl)
        clear hR h3 hon han
        go_enter Try.func77, Try.ntmps77
        go_wp2_with (go_at_call 44; (with_reducible refine (K1.out _).mono ?_); rintro e w' ⟨rfl, rfl⟩)
        go_ret
        exact ⟨by rw [HR.out]; rfl, HB.out⟩
  · rw [decide_eq_false h1] at hR
    have HR : Hid (R = false) := Lib.hid hR
    have hl : (x.v.kind == 2) = false := beq_eq_false_iff_ne.2 h1
    have HB := Lib.hid hb1
    clear hR k1 h1 hb1
    go_enter Try.func77, Try.ntmps77
    go_wp2_with (fail)
    go_ret
    exact ⟨by rw [HR.out]; rfl, HB.out⟩
end Go.Proofs.Ytgldcahhliokeaa
/- Definitions: query.Check, join.isPattern, as one answer: is it a pattern? -/
namespace Go.Proofs.Ytgldcahhliokeaa
open Go.RowKit Go.Maps

def checkB (v : Vw) : Bool := isNm v.name && (patOk v || reachOk v)
theorem goodP_check (v : Vw) : (checkB v && decide (v.kind = 1)) = goodP v := by
  unfold checkB goodP patOk reachOk
  by_cases h : v.kind = 1
  · rw [decide_eq_true h, decide_eq_false (show ¬ v.kind = 2 by omega)]
    simp
  · rw [decide_eq_false h]
    simp
set_option maxRecDepth 100000 in
set_option maxHeartbeats 2000000 in
theorem check_any (x : VW) (w : World) (h : x.Ok w) : Calls Try.prog 55 #[.agg (vwA x)] w fun e w' => e = .returned (.int .i64 (if checkB x.v = true then 0 else 1)) ∧ Below w.heap.size w w' := by
  have hb1 : Below w.heap.size w (w.alloc (.cells (vwA x) 25)) := (Below.refl _ _).alloc (Nat.le_refl _) _
  have k0 := fun W => is_any x.v.name W
  have k1 := fun W (hW : Below w.heap.size w W) => qIsPattern_any x W (h.below hW)
  have k2 := fun W => qIsReach_any x W h.out.sm h.ats.sm
  have hg := heap_alloc_new w (.cells (vwA x) 25)
  obtain ⟨R, hR⟩ : ∃ R, R = checkB x.v := ⟨_, rfl⟩
  rw [← hR]
  unfold checkB at hR
  unfold vwA at hb1 hg k1 k2 ⊢
  have HB := Lib.hid hb1
  have HG := Lib.hid hg
  clear h hb1 hg
  cases h0 : isNm x.v.name with
  | false =>
    simp only [h0] at hR k0
    have hR : R = false := hR
    rw [hR]
    have K0 := Lib.hid k0
    clear hR k0 k1 k2 h0
    go_enter Try.func55, Try.ntmps55
    go_wp2_with (go_at_call 44; (with_reducible refine (K0.out _).mono ?_); rintro e w' ⟨rfl, rfl⟩)
    go_ret
    exact ⟨rfl, HB.out⟩
  | true =>
    simp only [h0] at hR k0
    have K0 := Lib.hid k0
    cases h1 : patOk x.v with
    | true =>
      simp only [h1] at hR k1
      have hR : R = true := hR
      rw [hR]
      have K1 := Lib.hid k1
      clear hR k0 k1 k2 h0 h1
      go_enter Try.func55, Try.ntmps55
      go_wp2_with (first
        | (go_at_call 44; (with_reducible refine (K0.out _).mono ?_); rintro e w' ⟨rfl, rfl⟩)
        | (go_at_call 76; (with_reducible refine (K1.out _ HB.out).mono ?_); rintro e w2 ⟨rfl, hb2⟩))
      go_ret
      exact ⟨rfl, HB.out.trans (lower' hb2 HB.out.size)⟩
    | false =>
      simp only [h1] at hR k1
      have K1 := Lib.hid k1
      cases h2 : reachOk x.v with
      | false =>
        simp only [h2] at hR k2
        have hR : R = false := hR
        rw [hR]
        have K2 := Lib.hid k2
        clear hR k0 k1 k2 h0 h1 h2
        go_enter Try.func55, Try.ntmps55
        go_wp2_with (first
          | (go_at_call 44; (with_reducible refine (K0.out _).mono ?_); rintro e w' ⟨rfl, rfl⟩)
          | (go_at_call 76; (with_reducible refine (K1.out _ HB.out).mono ?_); rintro e w2 ⟨rfl, hb2⟩; have HB2 := Lib.hid (HB.out.trans (lower' hb2 HB.out.size)); have g0 := (hb2.block w.heap.size (by simp)).trans HG.out; have q0 := cell_of_row w2 w.heap.size 0 _ _ _ g0; have q1 := cell_of_row w2 w.heap.size 1 _ _ _ g0; have q2 := cell_of_row w2 w.heap.size 2 _ _ _ g0; have q3 := cell_of_row w2 w.heap.size 3 _ _ _ g0; have q4 := cell_of_row w2 w.heap.size 4 _ _ _ g0; clear g0 hb2)
          | (go_at_call 77; (with_reducible refine (K2.out _).mono ?_); rintro e w3 ⟨rfl, hb3⟩))
        go_ret
        exact ⟨rfl, HB2.out.trans (lower' hb3 HB2.out.size)⟩
      | true =>
        simp only [h2] at hR k2
        have hR : R = true := hR
        rw [hR]
        have K2 := Lib.hid k2
        clear hR k0 k1 k2 h0 h1 h2
        go_enter Try.func55, Try.ntmps55
        go_wp2_with (first
          | (go_at_call 44; (with_reducible refine (K0.out _).mono ?_); rintro e w' ⟨rfl, rfl⟩)
          | (go_at_call 76; (with_reducible refine (K1.out _ HB.out).mono ?_); rintro e w2 ⟨rfl, hb2⟩; have HB2 := Lib.hid (HB.out.trans (lower' hb2 HB.out.size)); have g0 := (hb2.block w.heap.size (by simp)).trans HG.out; have q0 := cell_of_row w2 w.heap.size 0 _ _ _ g0; have q1 := cell_of_row w2 w.heap.size 1 _ _ _ g0; have q2 := cell_of_row w2 w.heap.size 2 _ _ _ g0; have q3 := cell_of_row w2 w.heap.size 3 _ _ _ g0; have q4 := cell_of_row w2 w.heap.size 4 _ _ _ g0; clear g0 hb2)
          | (go_at_call 77; (with_reducible refine (K2.out _).mono ?_); rintro e w3 ⟨rfl, hb3⟩))
        go_ret
        exact ⟨rfl, HB2.out.trans (lower' hb3 HB2.out.size)⟩
set_option maxRecDepth 100000 in
set_option maxHeartbeats 2000000 in
/-- join.isPattern. -/
theorem isPat_any (x : VW) (w : World) (h : x.Ok w) : Calls Try.prog 31 #[.agg (vwA x)] w fun e w' => e = .returned (.bool (goodP x.v)) ∧ Below w.heap.size w w' := by
  have hb1 : Below w.heap.size w (w.alloc (.cells (vwA x) 25)) := (Below.refl _ _).alloc (Nat.le_refl _) _
  have k1 := fun W (hW : Below w.heap.size w W) => check_any x W (h.below hW)
  have hg := heap_alloc_new w (.cells (vwA x) 25)
  rw [← goodP_check]
  unfold vwA at hb1 hg k1 ⊢
  have HB := Lib.hid hb1
  have HG := Lib.hid hg
  clear h hb1 hg
  cases h1 : checkB x.v with
  | false =>
    simp only [h1, Bool.false_eq_true, if_false] at k1
    have K1 := Lib.hid k1
    clear k1 h1
    go_enter Try.func31, Try.ntmps31
    go_wp2_with (go_at_call 55; (with_reducible refine (K1.out _ HB.out).mono ?_); rintro e w2 ⟨rfl, hb2⟩)
    go_ret
    exact ⟨rfl, HB.out.trans (lower' hb2 HB.out.size)⟩
  | true =>
    simp only [h1, if_true] at k1
    have K1 := Lib.hid k1
    have hd : (x.v.kind == 1) = decide (x.v.kind = 1) := rfl
    clear k1 h1
    go_enter Try.func31, Try.ntmps31
    go_wp2_with (go_at_call 55; (with_reducible refine (K1.out _ HB.out).mono ?_); rintro e w2 ⟨rfl, hb2⟩; have HB2 := Lib.hid (HB.out.trans (lower' hb2 HB.out.size)); have g0 := (hb2.block w.heap.size (by simp)).trans HG.out; have q1 := cell_of_row w2 w.heap.size 1 _ _ _ g0; clear g0 hb2)
    go_ret
    exact ⟨by simp [hd], HB2.out⟩
end Go.Proofs.Ytgldcahhliokeaa
