/- Joined: JoD JoE JoF JoG JoH JoI JoJ. -/
import Derived.Test.YtgjjdmkoamjdpaaJnA
import Derived.Test.YtgjjdmkoamjdpaaFr
import Derived.Maps.Own
import Derived.Maps.OwnSet
import Derived.Maps.OwnOps
import Derived.Maps.Keyed
import Derived.DeepKeys4
import Derived.Deep.Cut
import Derived.Deep.CutRange
import Derived.Deep.CutBlock
import Derived.IntWalk
/- JoD, what this seat can fill of it. -/
namespace Go.Proofs.Ytgjjdmkoamjdpaa
/- Maps in memory whose elements are told as they lie: what a key has; strings, edges and ends as keys. -/
open Go.RowKit Go.Maps

/-- An element as it lies. -/
def rawR (v : Value) : Option (DataW Value × List MemPlace) := some (.held v, [])
/-- Block b is a map of at most n entries; g tells what each key has. -/
def MapV (w : World) (k : TypeId) (b n : Nat) (g : Value → Option Value) : Prop :=
  ∃ D : DataW Value, w.ownsMap Try.prog k rawR b n D ∧ ∀ key kl, keyOf Try.prog k key = some kl → Maps.has D kl = (g key).isSome ∧ ∀ z, D.atKey kl (.held z) = .held ((g key).getD z)
theorem MapV.made (w : World) (k : TypeId) : MapV (w.alloc (.map #[] 0)) k w.heap.size 0 fun _ => none :=
  ⟨_, World.ownsMap_made w Try.prog k rawR, fun _ _ _ => ⟨rfl, fun _ => rfl⟩⟩
theorem MapV.lt {w : World} {k : TypeId} {b n : Nat} {g : Value → Option Value} (h : MapV w k b n g) : b < w.heap.size := by
  obtain ⟨D, h, _⟩ := h
  exact h.lt
theorem MapV.fr {w w' : World} {k : TypeId} {b n : Nat} {g : Value → Option Value} {S : List Nat} (h : MapV w k b n g) (hf : Fr w w' S) (hS : b ∉ S) : MapV w' k b n g := by
  obtain ⟨D, h, hg⟩ := h
  obtain ⟨es, clock, hb, r⟩ := h
  exact ⟨D, ⟨es, clock, (hf.block b (heap_lt hb) hS).trans hb, r⟩, hg⟩
theorem MapV.below {w w' : World} {k : TypeId} {b n : Nat} {g : Value → Option Value} (h : MapV w k b n g) (hb : Below w.heap.size w w') : MapV w' k b n g := h.fr (Fr.of_below hb []) (by simp)
theorem MapV.alloc {w : World} {k : TypeId} {b n : Nat} {g : Value → Option Value} (h : MapV w k b n g) (o : Obj) : MapV (w.alloc o) k b n g := h.below ((Below.refl _ _).alloc (Nat.le_refl _) _)
theorem MapV.drew {w : World} {k : TypeId} {b n : Nat} {g : Value → Option Value} (h : MapV w k b n g) : MapV w.drew k b n g := h
theorem MapV.drewN {w : World} {k : TypeId} {b n : Nat} {g : Value → Option Value} (h : MapV w k b n g) (q : Nat) : MapV (w.drewN q) k b n g := h
section
variable {w : World} {k e t : TypeId} {b n : Nat} {g : Value → Option Value} {key z : Value} {kl : Lit}
/-- v, ok := m[key]. -/
theorem MapV.look (h : MapV w k b n g) (K : Keyed Try.prog k) (ht : Try.prog.underlying t = some (.map k e)) (hz : (zeroValue e).run Try.prog w = .ok z w) (hk : keyOf Try.prog k key = some kl) :
    (Instr.lookup t (.map (some b)) key true).run Try.prog w = .ok (.tuple #[(g key).getD z, .bool (g key).isSome]) w := by
  obtain ⟨D, hD, hg⟩ := h
  obtain ⟨h1, h2⟩ := hg key kl hk
  obtain ⟨v, ps, hrun, hv⟩ := hD.look_ok K ht hz (zd := .held z) (zp := []) rfl hk
  rw [h2 z] at hv
  have hv := DataW.held.inj (Prod.mk.inj (Option.some.inj hv)).1
  rw [hrun, h1, hv]
/-- m[key]. -/
theorem MapV.at (h : MapV w k b n g) (K : Keyed Try.prog k) (ht : Try.prog.underlying t = some (.map k e)) (hz : (zeroValue e).run Try.prog w = .ok z w) (hk : keyOf Try.prog k key = some kl) :
    (Instr.lookup t (.map (some b)) key false).run Try.prog w = .ok ((g key).getD z) w := by
  obtain ⟨D, hD, hg⟩ := h
  obtain ⟨h1, h2⟩ := hg key kl hk
  obtain ⟨v, ps, hrun, hv⟩ := hD.lookup K ht hz (zd := .held z) (zp := []) rfl hk
  rw [h2 z] at hv
  have hv := DataW.held.inj (Prod.mk.inj (Option.some.inj hv)).1
  rw [hrun, hv]
/-- m[key] = v. -/
theorem MapV.store (h : MapV w k b n g) (K : Keyed Try.prog k) (ht : Try.prog.underlying t = some (.map k e)) (hn : n < maxLen) (hk : keyOf Try.prog k key = some kl) (v : Value) (g' : Value → Option Value) (h1 : g' key = some v) (h2 : ∀ q, q ≠ key → g' q = g q) :
    ∃ w', (Instr.mapUpdate t (.map (some b)) key v).run Try.prog w = .ok () w' ∧ MapV w' k b (n + 1) g' ∧ Fr w w' [b] := by
  obtain ⟨D, hD, hg⟩ := h
  obtain ⟨w', hrun, hD', hturn⟩ := hD.store K ht hn (val := v) (d := .held v) (ps := []) hk rfl
  refine ⟨w', hrun, ⟨_, hD', fun q ql hq => ?_⟩, Fr.of_grown hturn.grown⟩
  by_cases e : q = key
  · subst e
    rw [hk] at hq
    injection hq with hq
    subst hq
    rw [h1]
    exact ⟨Maps.has_put_same hD.isMap (K.key hk) _, fun z => Maps.atKey_put_same hD.isMap (K.key hk) _ _⟩
  · have hne : ql ≠ kl := fun e' => e (K.inj (e' ▸ hq) hk)
    rw [Maps.has_put_other hne, h2 q e]
    refine ⟨(hg q ql hq).1, fun z => ?_⟩
    rw [Maps.atKey_put_other hne]
    exact (hg q ql hq).2 z
end
theorem laidO : laidOutB Try.prog = true := by kernel_rfl
theorem kStr : Keyed Try.prog 9 := string_keyed Try.underlying9
theorem rowEdge : (34 : TypeId) < Try.prog.types.size := of_decide_eq_true (by kernel_rfl)
theorem wideEdge : (match Try.prog.underlying 34 with | some (.array _ _) | some (.struct _) => true | _ => false) = true := by kernel_rfl
set_option maxRecDepth 100000 in
theorem kEdge : Keyed Try.prog 34 := Keyed.of_law (deep_law_laid laidO (m := 2) (by omega) rowEdge (by kernel_rfl) wideEdge)
/-- An int's range. -/
def I64 (x : Int) : Prop := -9223372036854775808 ≤ x ∧ x ≤ 9223372036854775807
theorem I64.wf {x : Int} (h : I64 x) : (Lit.int .i64 x).wf = true := by
  unfold I64 at h
  simp [Lit.wf, IntKind.min, IntKind.max, IntKind.signed, IntKind.bits]
  omega
def edV (e : Ed) : Value := .agg #[.int .i64 e.f, .string ⟨e.lab.toArray⟩, .int .i64 e.t]
def enV (e : Int × Int) : Value := .agg #[.int .i64 e.1, .int .i64 e.2]
structure Ed.Ok (e : Ed) : Prop where
  f : I64 e.f
  t : I64 e.t
  lab : e.lab.length ≤ maxLen
theorem keyStr {l : Nm} (h : l.length ≤ maxLen) : ∃ kl, keyOf Try.prog 9 (.string ⟨l.toArray⟩) = some kl := by
  have hm : (⟨l.toArray⟩ : ByteArray).size ≤ maxLen := by show l.toArray.size ≤ _; rw [List.size_toArray]; omega
  exact ⟨.string l, by simp [keyOf, mapKey, Try.underlying9, hm]⟩
theorem keyEdge {e : Ed} (h : e.Ok) : ∃ kl, keyOf Try.prog 34 (edV e) = some kl := by
  obtain ⟨d, hd⟩ : ∃ d, Try.prog.types.size + 1 = d + 2 := ⟨_, rfl⟩
  have ht : Try.prog.keyType 34 = true := by kernel_rfl
  have hc : Try.prog.cellsOf 34 = 3 := by kernel_rfl
  have hi : Try.prog.cellsOf 3 = 1 := by kernel_rfl
  have hs : Try.prog.cellsOf 9 = 1 := by kernel_rfl
  have hm : (⟨e.lab.toArray⟩ : ByteArray).size ≤ maxLen := by show e.lab.toArray.size ≤ _; have := h.lab; rw [List.size_toArray]; omega
  have hk : Try.prog.keyLits (d + 2) 34 [.int .i64 e.f, .string ⟨e.lab.toArray⟩, .int .i64 e.t] = some [.int .i64 e.f, .string e.lab, .int .i64 e.t] := by
    simp [Program.keyLits, Try.underlying34, Try.underlying3, Try.underlying9, hc, hi, hs, h.f.wf, h.t.wf, hm]
  refine ⟨.string (keyBytes [.int .i64 e.f, .string e.lab, .int .i64 e.t]), ?_⟩
  unfold keyOf edV
  rw [hd]
  simp [Try.underlying34, ht, Value.formed, hc, Value.cells, hk]
theorem edV_inj {a b : Ed} (h : edV a = edV b) : a = b := by
  unfold edV at h
  injection h with h
  have h0 := congrArg (fun x : Array Value => x[0]?) h
  have h1 := congrArg (fun x : Array Value => x[1]?) h
  have h2 := congrArg (fun x : Array Value => x[2]?) h
  simp at h0 h1 h2
  obtain ⟨af, al, at'⟩ := a
  obtain ⟨bf, bl, bt⟩ := b
  simp only at h0 h1 h2
  subst h0 h1 h2
  rfl
theorem enV_inj {a b : Int × Int} (h : enV a = enV b) : a = b := by
  unfold enV at h
  injection h with h
  have h0 := congrArg (fun x : Array Value => x[0]?) h
  have h1 := congrArg (fun x : Array Value => x[1]?) h
  simp at h0 h1
  exact Prod.ext h0 h1
end Go.Proofs.Ytgjjdmkoamjdpaa
/- JoE, what this seat can fill of it. -/
namespace Go.Proofs.Ytgjjdmkoamjdpaa
/- Names; lists of names and of atoms in memory; where a name stands, whether an atom has it. -/
open Go.RowKit Go.Maps

theorem ba_size (l : List UInt8) : (⟨l.toArray⟩ : ByteArray).size = l.length := by show l.toArray.size = _; exact List.size_toArray
def nmB (b : UInt8) : Bool := decide (97 ≤ b.toNat) && decide (b.toNat ≤ 122)
/-- Is it a name? -/
def isNm (l : Nm) : Bool := decide (1 ≤ l.length) && decide (l.length ≤ 16) && l.all nmB
theorem isNm_len {l : Nm} (h : isNm l = true) : 1 ≤ l.length ∧ l.length ≤ 16 := by
  unfold isNm at h
  rw [Bool.and_eq_true, Bool.and_eq_true, decide_eq_true_eq, decide_eq_true_eq] at h
  exact h.1
theorem ba_get (s : ByteArray) (k : Nat) (h : k < s.size) : s[k]'h = s.data.toList[k]'(by rw [Array.length_toList]; exact h) := rfl
theorem is_long (s : ByteArray) (w : World) (h : s.size < 1 ∨ 16 < s.size) : Calls Try.prog 10 #[.string s] w fun e w' => e = .returned (.bool (isNm s.data.toList)) ∧ w = w' := by
  have hf : isNm s.data.toList = false := by
    have hl : s.data.toList.length = s.size := Array.length_toList
    unfold isNm
    rcases h with h | h
    · rw [decide_eq_false (by omega)]; rfl
    · rw [decide_eq_false (show ¬ s.data.toList.length ≤ 16 by omega), Bool.and_false]; rfl
  rw [hf]
  clear hf
  rcases h with h | h
  · have h1 : (s.size : Int) < 1 := by omega
    go_enter Try.func10, Try.ntmps10
    go_wp2
    go_ret
    exact ⟨rfl, rfl⟩
  · have h1 : ¬ (s.size : Int) < 1 := by omega
    have h2 : (16 : Int) < (s.size : Int) := by omega
    go_enter Try.func10, Try.ntmps10
    go_wp2
    go_ret
    exact ⟨rfl, rfl⟩
set_option maxRecDepth 100000 in
theorem is_short (s : ByteArray) (w : World) (h1 : 1 ≤ s.size) (h2 : s.size ≤ 16) : Calls Try.prog 10 #[.string s] w fun e w' => e = .returned (.bool (isNm s.data.toList)) ∧ w = w' := by
  have hl : s.data.toList.length = s.size := Array.length_toList
  have hR : isNm s.data.toList = s.data.toList.all nmB := by
    unfold isNm
    rw [decide_eq_true (by omega), decide_eq_true (show s.data.toList.length ≤ 16 by omega)]
    rfl
  rw [hR]
  obtain ⟨R, hR⟩ : ∃ R, R = s.data.toList.all nmB := ⟨_, rfl⟩
  rw [← hR]
  have HR := Lib.hid (And.intro hl hR)
  have g1 : ¬ (s.size : Int) < 1 := by omega
  have g2 : ¬ (16 : Int) < (s.size : Int) := by omega
  clear hR hl
  go_enter Try.func10, Try.ntmps10
  go_wp2_with (fail)
  go_loop [14] (fun i => ∃ k : Nat, k ≤ s.size ∧ i = .int .i64 (k : Int) ∧ Hid (R = (s.data.toList.drop k).all nmB)) (fun i => s.size - (intOf i).toNat)
  case atStart => exact ⟨0, by omega, rfl, Lib.hid HR.out.2⟩
  case round =>
    obtain ⟨k, hk, rfl, hrel⟩ := hrel
    by_cases hlt : k < s.size
    · have hd := List.drop_eq_getElem_cons (l := s.data.toList) (i := k) (by rw [HR.out.1]; exact hlt)
      have hrk := hrel.out
      rw [hd, List.all_cons, ← ba_get s k hlt] at hrk
      have hlI : (k : Int) < (s.size : Int) := by omega
      clear hd hrel
      by_cases ha : (s[k]'hlt).toNat < 97
      · have hf : R = false := by rw [hrk]; unfold nmB; rw [decide_eq_false (by omega)]; rfl
        have HF := Lib.hid hf
        clear hf hrk
        have haI : ((s[k]'hlt).toNat : Int) < 97 := by omega
        go_wp2_with (fail)
        go_ret
        exact ⟨by rw [HF.out]; rfl, rfl⟩
      · by_cases hz : 122 < (s[k]'hlt).toNat
        · have hf : R = false := by rw [hrk]; unfold nmB; rw [decide_eq_false (show ¬ (s[k]'hlt).toNat ≤ 122 by omega), Bool.and_false]; rfl
          have HF := Lib.hid hf
          clear hf hrk
          have haI : ¬ ((s[k]'hlt).toNat : Int) < 97 := by omega
          have hzI : (122 : Int) < ((s[k]'hlt).toNat : Int) := by omega
          go_wp2_with (fail)
          go_ret
          exact ⟨by rw [HF.out]; rfl, rfl⟩
        · have hf : Hid (R = (s.data.toList.drop (k + 1)).all nmB) := Lib.hid (by rw [hrk]; unfold nmB; rw [decide_eq_true (show 97 ≤ (s[k]'hlt).toNat by omega), decide_eq_true (show (s[k]'hlt).toNat ≤ 122 by omega)]; rfl)
          clear hrk
          have haI : ¬ ((s[k]'hlt).toNat : Int) < 97 := by omega
          have hzI : ¬ (122 : Int) < ((s[k]'hlt).toNat : Int) := by omega
          go_wp2_with (fail)
          go_round
          case rel => exact ⟨k + 1, by omega, by go_num, hf⟩
          case measure => simp [intOf]; omega
    · have g0 : ¬ (k : Int) < (s.size : Int) := by omega
      have hrk := hrel.out
      rw [List.drop_of_length_le (by rw [HR.out.1]; omega), List.all_nil] at hrk
      have HK := Lib.hid hrk
      clear hrk hrel
      go_wp2_with (fail)
      go_ret
      exact ⟨by rw [HK.out]; rfl, rfl⟩
/-- names.Is. -/
theorem is_any (l : Nm) (w : World) : Calls Try.prog 10 #[.string ⟨l.toArray⟩] w fun e w' => e = .returned (.bool (isNm l)) ∧ w = w' := by
  have hs := ba_size l
  by_cases h : l.length < 1 ∨ 16 < l.length
  · exact is_long ⟨l.toArray⟩ w (by rw [hs]; exact h)
  · exact is_short ⟨l.toArray⟩ w (by rw [hs]; omega) (by rw [hs]; omega)

/-- Names in memory. -/
def strs (l : List Nm) : List Value := l.map fun s => .string ⟨s.toArray⟩
theorem strs_len (l : List Nm) : (strs l).length = l.length := List.length_map _
theorem strs_app (a b : List Nm) : strs (a ++ b) = strs a ++ strs b := List.map_append
theorem strs_take (a : List Nm) (k : Nat) : strs (a.take k) = (strs a).take k := List.map_take
theorem strs_one (l : List Nm) : ∀ u ∈ strs l, u.oneCell' = true := by
  intro u hu
  obtain ⟨b, _, rfl⟩ := List.mem_map.1 hu
  rfl
/-- A list of names. -/
structure Sts (w : World) (A : Option Addr) (c : Nat) (l : List Nm) : Prop where
  rd : Rd w w.heap.size A (strs l)
  cap : l.length ≤ c
  sm : l.length ≤ 100
theorem Sts.below {w w' : World} {A : Option Addr} {c : Nat} {l : List Nm} (h : Sts w A c l) (hb : Below w.heap.size w w') : Sts w' A c l :=
  ⟨(h.rd.below hb (Nat.le_refl _)).more hb.size, h.cap, h.sm⟩
theorem Sts.take {w : World} {A : Option Addr} {c : Nat} {l : List Nm} (h : Sts w A c l) (k : Nat) : Sts w A c (l.take k) :=
  ⟨by rw [strs_take]; exact h.rd.take k, by rw [List.length_take]; have := h.cap; omega, by rw [List.length_take]; have := h.sm; omega⟩
theorem Sts.cell {w : World} {A : Option Addr} {c : Nat} {l : List Nm} (h : Sts w A c l) {k : Nat} (hk : k < l.length) : ∃ b o, A = some ⟨b, o, none⟩ ∧ b < w.heap.size ∧ w.cell? ⟨b, o + k, none⟩ = some (.string ⟨l[k].toArray⟩) := by
  obtain ⟨b, o, e, hb, hc⟩ := h.rd.get (k := k) (by rw [strs_len]; exact hk)
  refine ⟨b, o, e, hb, hc.trans ?_⟩
  simp [strs]
/-- Atoms in memory. -/
def atC (a : Atm) : List Value := [.string ⟨a.fr.toArray⟩, .string ⟨a.lab.toArray⟩, .string ⟨a.to.toArray⟩]
def atsC (l : List Atm) : List Value := l.flatMap atC
theorem atsC_len (l : List Atm) : (atsC l).length = l.length * 3 := by
  induction l with
  | nil => rfl
  | cons a l ih =>
    show (atC a ++ atsC l).length = _
    rw [List.length_append, ih, List.length_cons]
    show 3 + _ = _
    omega
theorem flat3_at {α : Type} (f : α → List Value) (hf : ∀ a, (f a).length = 3) : ∀ (l : List α) (k j : Nat) (hk : k < l.length), j < 3 → (l.flatMap f)[k * 3 + j]? = (f l[k])[j]?
  | [], k, _, hk, _ => absurd hk (by simp)
  | a :: l, 0, j, _, hj => by
    rw [List.flatMap_cons, Nat.zero_mul, Nat.zero_add, List.getElem?_append_left (by rw [hf]; exact hj)]
    rfl
  | a :: l, k + 1, j, hk, hj => by
    rw [List.flatMap_cons, List.getElem?_append_right (by rw [hf]; omega), hf]
    have e : (k + 1) * 3 + j - 3 = k * 3 + j := by omega
    rw [e, flat3_at f hf l k j (by simpa using hk) hj]
    rfl
structure Ats (w : World) (A : Option Addr) (c : Nat) (l : List Atm) : Prop where
  rd : Rd w w.heap.size A (atsC l)
  cap : l.length ≤ c
  sm : l.length ≤ 100
theorem Ats.below {w w' : World} {A : Option Addr} {c : Nat} {l : List Atm} (h : Ats w A c l) (hb : Below w.heap.size w w') : Ats w' A c l :=
  ⟨(h.rd.below hb (Nat.le_refl _)).more hb.size, h.cap, h.sm⟩
theorem Ats.cell {w : World} {A : Option Addr} {c : Nat} {l : List Atm} (h : Ats w A c l) {k : Nat} (hk : k < l.length) : ∃ b o, A = some ⟨b, o, none⟩ ∧ b < w.heap.size ∧ w.cell? ⟨b, o + k * 3, none⟩ = some (.string ⟨l[k].fr.toArray⟩) ∧ w.cell? ⟨b, o + k * 3 + 1, none⟩ = some (.string ⟨l[k].lab.toArray⟩) ∧ w.cell? ⟨b, o + k * 3 + 2, none⟩ = some (.string ⟨l[k].to.toArray⟩) := by
  have hne : atsC l ≠ [] := fun e => by have := atsC_len l; rw [e] at this; simp at this; omega
  obtain ⟨b, o, e, hb, hc⟩ := h.rd hne
  have hat := fun j hj => flat3_at atC (fun _ => rfl) l k j hk hj
  refine ⟨b, o, e, hb, hc (k * 3) _ (hat 0 (by omega)), ?_, ?_⟩
  · rw [Nat.add_assoc]; exact hc (k * 3 + 1) _ (hat 1 (by omega))
  · rw [Nat.add_assoc]; exact hc (k * 3 + 2) _ (hat 2 (by omega))
/-- Where a name stands, or -1. -/
def indexL (l : List Nm) (s : Nm) : Int := if s ∈ l then (l.idxOf s : Int) else -1
theorem idxOf_at {l : List Nm} {s : Nm} {k : Nat} (hk : k < l.length) (he : l[k] = s) (hn : ∀ j, (hj : j < l.length) → j < k → l[j] ≠ s) : l.idxOf s = k := by
  have hm : s ∈ l := he ▸ List.getElem_mem hk
  have h1 := List.getElem_idxOf (List.idxOf_lt_length_iff.2 hm)
  have hlt := List.idxOf_lt_length_iff.2 hm
  rcases Nat.lt_trichotomy (l.idxOf s) k with h | h | h
  · exact absurd h1 (hn _ hlt h)
  · exact h
  · have h3 := List.not_of_lt_findIdx (p := (· == s)) (xs := l) (i := k) h
    rw [he] at h3
    simp at h3
end Go.Proofs.Ytgjjdmkoamjdpaa
/- JoF, what this seat can fill of it. -/
namespace Go.Proofs.Ytgjjdmkoamjdpaa
/- Definitions: what query.Check asks for. -/
open Go.RowKit Go.Maps

def atOk (a : Atm) : Bool := isNm a.fr && isNm a.lab && isNm a.to
def atsOk (l : List Atm) : Bool := decide (1 ≤ l.length) && decide (l.length ≤ 8) && l.all atOk
def boundB (l : List Atm) (s : Nm) : Bool := l.any fun a => a.fr == s || a.to == s
theorem boundB_iff {l : List Atm} {s : Nm} : boundB l s = true ↔ s ∈ varsL l := by
  unfold boundB
  rw [List.any_eq_true, varsL_mem]
  constructor
  · rintro ⟨a, ha, h⟩
    rw [Bool.or_eq_true, beq_iff_eq, beq_iff_eq] at h
    exact ⟨a, ha, h.imp Eq.symm Eq.symm⟩
  · rintro ⟨a, ha, h⟩
    exact ⟨a, ha, by rw [Bool.or_eq_true, beq_iff_eq, beq_iff_eq]; exact h.imp Eq.symm Eq.symm⟩
def outsGo (ats : List Atm) : List Nm → List Nm → Bool
  | _, [] => true
  | pre, o :: r => !decide (o ∈ pre) && boundB ats o && outsGo ats (pre ++ [o]) r
def outsOk (out : List Nm) (ats : List Atm) : Bool := decide (1 ≤ out.length) && decide (out.length ≤ 6) && outsGo ats [] out
def patOk (v : Vw) : Bool := decide (v.kind = 1) && decide (v.label = []) && atsOk v.atoms && outsOk v.out v.atoms
def reachOk (v : Vw) : Bool := decide (v.kind = 2) && isNm v.label && decide (v.out.length = 0) && decide (v.atoms.length = 0)
/-- Is it a pattern? -/
def goodP (v : Vw) : Bool := isNm v.name && patOk v
end Go.Proofs.Ytgjjdmkoamjdpaa
/- JoG, what this seat can fill of it. -/
namespace Go.Proofs.Ytgjjdmkoamjdpaa
/- Definitions: the atoms, the outputs, query.Check, join.isPattern. -/
open Go.RowKit Go.Maps

theorem atsOk_bad {l : List Atm} (h : l.length < 1 ∨ 8 < l.length) : atsOk l = false := by
  unfold atsOk
  rcases h with h | h
  · rw [decide_eq_false (by omega)]; rfl
  · rw [decide_eq_false (show ¬ l.length ≤ 8 by omega), Bool.and_false]; rfl
theorem atsOk_all {l : List Atm} (h : ¬ (l.length < 1 ∨ 8 < l.length)) : atsOk l = l.all atOk := by
  unfold atsOk
  rw [decide_eq_true (show 1 ≤ l.length by omega), decide_eq_true (show l.length ≤ 8 by omega)]
  rfl
theorem outsOk_bad {l : List Nm} {ats : List Atm} (h : l.length < 1 ∨ 6 < l.length) : outsOk l ats = false := by
  unfold outsOk
  rcases h with h | h
  · rw [decide_eq_false (by omega)]; rfl
  · rw [decide_eq_false (show ¬ l.length ≤ 6 by omega), Bool.and_false]; rfl
theorem outsOk_all {l : List Nm} {ats : List Atm} (h : ¬ (l.length < 1 ∨ 6 < l.length)) : outsOk l ats = outsGo ats [] l := by
  unfold outsOk
  rw [decide_eq_true (show 1 ≤ l.length by omega), decide_eq_true (show l.length ≤ 6 by omega)]
  rfl
end Go.Proofs.Ytgjjdmkoamjdpaa
/- JoH, what this seat can fill of it. -/
namespace Go.Proofs.Ytgjjdmkoamjdpaa
/- Definitions: query.Check, join.isPattern. -/
open Go.RowKit Go.Maps

/-- A view's value, with what it reads as. -/
structure VW where
  oA : Option Addr
  oc : Nat
  aA : Option Addr
  ac : Nat
  v : Vw
abbrev vwA (x : VW) : Array Value := #[.string ⟨x.v.name.toArray⟩, .int .i64 x.v.kind, .slice x.oA x.v.out.length x.oc, .slice x.aA x.v.atoms.length x.ac, .string ⟨x.v.label.toArray⟩]
structure VW.Ok (w : World) (x : VW) : Prop where
  out : Sts w x.oA x.oc x.v.out
  ats : Ats w x.aA x.ac x.v.atoms
theorem VW.Ok.below {w w' : World} {x : VW} (h : x.Ok w) (hb : Below w.heap.size w w') : x.Ok w' := ⟨h.out.below hb, h.ats.below hb⟩
theorem VW.Ok.drewN {w : World} {x : VW} (h : x.Ok w) (n : Nat) : x.Ok (w.drewN n) := ⟨⟨h.out.rd, h.out.cap, h.out.sm⟩, ⟨h.ats.rd, h.ats.cap, h.ats.sm⟩⟩
theorem ba_nil {l : Nm} : (l == []) = decide (l = []) := by cases l <;> rfl
end Go.Proofs.Ytgjjdmkoamjdpaa
/- JoI, what this seat can fill of it. -/
namespace Go.Proofs.Ytgjjdmkoamjdpaa
/- Definitions: query.Check, join.isPattern, as one answer: is it a pattern? -/
open Go.RowKit Go.Maps

def checkB (v : Vw) : Bool := isNm v.name && (patOk v || reachOk v)
theorem goodP_check (v : Vw) : (checkB v && decide (v.kind = 1)) = goodP v := by
  unfold checkB goodP patOk reachOk
  by_cases h : v.kind = 1
  · rw [decide_eq_true h, decide_eq_false (show ¬ v.kind = 2 by omega)]
    simp
  · rw [decide_eq_false h]
    simp
end Go.Proofs.Ytgjjdmkoamjdpaa
/- JoJ, what this seat can fill of it. -/
namespace Go.Proofs.Ytgjjdmkoamjdpaa
/- The variables of a pattern: query.Vars. -/
open Go.RowKit Go.Maps

/-- A set of names in a map. -/
def SeenS (w : World) (b : Nat) (vs : List Nm) : Prop := ∃ g, MapV w 9 b vs.length g ∧ ∀ s : Nm, g (.string ⟨s.toArray⟩) = if s ∈ vs then some (.agg #[]) else none
theorem strV_inj {a b : Nm} (h : Value.string ⟨a.toArray⟩ = Value.string ⟨b.toArray⟩) : a = b := by
  injection h with h
  injection h with h
  simpa using h
theorem SeenS.made (w : World) : SeenS (w.alloc (.map #[] 0)) w.heap.size [] := ⟨_, MapV.made w _, fun _ => rfl⟩
theorem SeenS.fr {w w' : World} {b : Nat} {vs : List Nm} {S : List Nat} (h : SeenS w b vs) (hf : Fr w w' S) (hS : b ∉ S) : SeenS w' b vs := by
  obtain ⟨g, h, hg⟩ := h
  exact ⟨g, h.fr hf hS, hg⟩
theorem SeenS.below {w w' : World} {b : Nat} {vs : List Nm} (h : SeenS w b vs) (hb : Below w.heap.size w w') : SeenS w' b vs := h.fr (Fr.of_below hb []) (by simp)
theorem SeenS.lt {w : World} {b : Nat} {vs : List Nm} (h : SeenS w b vs) : b < w.heap.size := by
  obtain ⟨g, h, _⟩ := h
  exact h.lt
theorem MapV.apart {w : World} {k : TypeId} {b n : Nat} {g : Value → Option Value} (h : MapV w k b n g) {base size m : Nat} {e : TypeId} {v : Value} {xs : List Value} (ho : w.ownsRow base e size v m xs) : b ∉ v.ownBlock.toList := by
  intro hm
  obtain ⟨D, ⟨es, clock, hb, _⟩, _⟩ := h
  rcases ho.2 with ⟨hv, _⟩ | ⟨q, cap, cur, hv, _, hq, _⟩
  · rw [hv] at hm; simp [Value.ownBlock] at hm
  · rw [hv] at hm
    simp [Value.ownBlock] at hm
    subst hm
    rw [hb] at hq
    cases hq
/-- Where Vars is. -/
structure VarsAt (w wr : World) (b : Nat) (v : Value) (vs : List Nm) : Prop where
  row : wr.ownsRow w.heap.size 9 1 v vs.length (strs vs)
  seen : SeenS wr b vs
  lo : w.heap.size ≤ b
  below : Below w.heap.size w wr
  len : vs.length ≤ 200
theorem VarsAt.kept {w wr w' : World} {b : Nat} {v : Value} {vs : List Nm} (h : VarsAt w wr b v vs) (hb : Below wr.heap.size wr w') : VarsAt w w' b v vs :=
  ⟨own_below h.row hb (Nat.le_refl _), h.seen.below hb, h.lo, h.below.trans (lower' hb h.below.size), h.len⟩
theorem VarsAt.alloc {w wr : World} {b : Nat} {v : Value} {vs : List Nm} (h : VarsAt w wr b v vs) (o : Obj) : VarsAt w (wr.alloc o) b v vs := h.kept ((Below.refl _ _).alloc (Nat.le_refl _) _)
end Go.Proofs.Ytgjjdmkoamjdpaa
