/- Maps in memory whose elements are told as they lie: what a key has; strings, edges and ends as keys. -/
import Derived.Test.YtgldcahhliokeaaJoC
import Derived.Test.YtgldcahhliokeaaFr
import Derived.Maps.Own
import Derived.Maps.OwnSet
import Derived.Maps.OwnOps
import Derived.Maps.Keyed
import Derived.DeepKeys4
namespace Go.Proofs.Ytgldcahhliokeaa
open Go.RowKit Go.Maps

/-- An element as it lies. -/
def rawR (v : Value) : Option (DataW Value × List MemPlace) := some (.held v, [])
/-- Block b is a map of at most n entries; g tells what each key has. -/
def MapV (w : World) (k : TypeId) (b n : Nat) (g : Value → Option Value) : Prop :=
  ∃ D : DataW Value, w.ownsMap Try.prog k rawR b n D ∧ ∀ key kl, keyOf Try.prog k key = some kl → Maps.has D kl = (g key).isSome ∧ ∀ z, D.atKey kl (.held z) = .held ((g key).getD z)
theorem MapV.made (w : World) (k : TypeId) : MapV (w.alloc (.map #[] 0)) k w.heap.size 0 fun _ => none :=
  ⟨_, World.ownsMap_made w Try.prog k rawR, fun _ _ _ => ⟨rfl, fun _ => rfl⟩⟩
theorem MapV.lt {w : World} {k : TypeId} {b n : Nat} {g : Value → Option Value} (h : MapV w k b n g) : b < w.heap.size := by
  obtain ⟨D, h, _⟩ := h
  exact h.lt
theorem MapV.fr {w w' : World} {k : TypeId} {b n : Nat} {g : Value → Option Value} {S : List Nat} (h : MapV w k b n g) (hf : Fr w w' S) (hS : b ∉ S) : MapV w' k b n g := by
  obtain ⟨D, h, hg⟩ := h
  obtain ⟨es, clock, hb, r⟩ := h
  exact ⟨D, ⟨es, clock, (hf.block b (heap_lt hb) hS).trans hb, r⟩, hg⟩
theorem MapV.below {w w' : World} {k : TypeId} {b n : Nat} {g : Value → Option Value} (h : MapV w k b n g) (hb : Below w.heap.size w w') : MapV w' k b n g := h.fr (Fr.of_below hb []) (by simp)
theorem MapV.alloc {w : World} {k : TypeId} {b n : Nat} {g : Value → Option Value} (h : MapV w k b n g) (o : Obj) : MapV (w.alloc o) k b n g := h.below ((Below.refl _ _).alloc (Nat.le_refl _) _)
theorem MapV.drew {w : World} {k : TypeId} {b n : Nat} {g : Value → Option Value} (h : MapV w k b n g) : MapV w.drew k b n g := h
theorem MapV.drewN {w : World} {k : TypeId} {b n : Nat} {g : Value → Option Value} (h : MapV w k b n g) (q : Nat) : MapV (w.drewN q) k b n g := h
section
variable {w : World} {k e t : TypeId} {b n : Nat} {g : Value → Option Value} {key z : Value} {kl : Lit}
/-- v, ok := m[key]. -/
theorem MapV.look (h : MapV w k b n g) (K : Keyed Try.prog k) (ht : Try.prog.underlying t = some (.map k e)) (hz : (zeroValue e).run Try.prog w = .ok z w) (hk : keyOf Try.prog k key = some kl) :
    (Instr.lookup t (.map (some b)) key true).run Try.prog w = .ok (.tuple #[(g key).getD z, .bool (g key).isSome]) w := by
  obtain ⟨D, hD, hg⟩ := h
  obtain ⟨h1, h2⟩ := hg key kl hk
  obtain ⟨v, ps, hrun, hv⟩ := hD.look_ok K ht hz (zd := .held z) (zp := []) rfl hk
  rw [h2 z] at hv
  have hv := DataW.held.inj (Prod.mk.inj (Option.some.inj hv)).1
  rw [hrun, h1, hv]
/-- m[key]. -/
theorem MapV.at (h : MapV w k b n g) (K : Keyed Try.prog k) (ht : Try.prog.underlying t = some (.map k e)) (hz : (zeroValue e).run Try.prog w = .ok z w) (hk : keyOf Try.prog k key = some kl) :
    (Instr.lookup t (.map (some b)) key false).run Try.prog w = .ok ((g key).getD z) w := by
  obtain ⟨D, hD, hg⟩ := h
  obtain ⟨h1, h2⟩ := hg key kl hk
  obtain ⟨v, ps, hrun, hv⟩ := hD.lookup K ht hz (zd := .held z) (zp := []) rfl hk
  rw [h2 z] at hv
  have hv := DataW.held.inj (Prod.mk.inj (Option.some.inj hv)).1
  rw [hrun, hv]
/-- m[key] = v. -/
theorem MapV.store (h : MapV w k b n g) (K : Keyed Try.prog k) (ht : Try.prog.underlying t = some (.map k e)) (hn : n < maxLen) (hk : keyOf Try.prog k key = some kl) (v : Value) (g' : Value → Option Value) (h1 : g' key = some v) (h2 : ∀ q, q ≠ key → g' q = g q) :
    ∃ w', (Instr.mapUpdate t (.map (some b)) key v).run Try.prog w = .ok () w' ∧ MapV w' k b (n + 1) g' ∧ Fr w w' [b] := by
  obtain ⟨D, hD, hg⟩ := h
  obtain ⟨w', hrun, hD', hturn⟩ := hD.store K ht hn (val := v) (d := .held v) (ps := []) hk rfl
  refine ⟨w', hrun, ⟨_, hD', fun q ql hq => ?_⟩, Fr.of_grown hturn.grown⟩
  by_cases e : q = key
  · subst e
    rw [hk] at hq
    injection hq with hq
    subst hq
    rw [h1]
    exact ⟨Maps.has_put_same hD.isMap (K.key hk) _, fun z => Maps.atKey_put_same hD.isMap (K.key hk) _ _⟩
  · have hne : ql ≠ kl := fun e' => e (K.inj (e' ▸ hq) hk)
    rw [Maps.has_put_other hne, h2 q e]
    refine ⟨(hg q ql hq).1, fun z => ?_⟩
    rw [Maps.atKey_put_other hne]
    exact (hg q ql hq).2 z
end
theorem laidO : laidOutB Try.prog = true := by kernel_rfl
theorem kStr : Keyed Try.prog 9 := string_keyed Try.underlying9
theorem rowEdge : (61 : TypeId) < Try.prog.types.size := of_decide_eq_true (by kernel_rfl)
theorem rowEnds : (120 : TypeId) < Try.prog.types.size := of_decide_eq_true (by kernel_rfl)
theorem wideEdge : (match Try.prog.underlying 61 with | some (.array _ _) | some (.struct _) => true | _ => false) = true := by kernel_rfl
theorem wideEnds : (match Try.prog.underlying 120 with | some (.array _ _) | some (.struct _) => true | _ => false) = true := by kernel_rfl
set_option maxRecDepth 100000 in
theorem kEdge : Keyed Try.prog 61 := Keyed.of_law (deep_law_laid laidO (m := 2) (by omega) rowEdge (by kernel_rfl) wideEdge)
set_option maxRecDepth 100000 in
theorem kEnds : Keyed Try.prog 120 := Keyed.of_law (deep_law_laid laidO (m := 2) (by omega) rowEnds (by kernel_rfl) wideEnds)
/-- An int's range. -/
def I64 (x : Int) : Prop := -9223372036854775808 ≤ x ∧ x ≤ 9223372036854775807
theorem I64.wf {x : Int} (h : I64 x) : (Lit.int .i64 x).wf = true := by
  unfold I64 at h
  simp [Lit.wf, IntKind.min, IntKind.max, IntKind.signed, IntKind.bits]
  omega
def edV (e : Ed) : Value := .agg #[.int .i64 e.f, .string ⟨e.lab.toArray⟩, .int .i64 e.t]
def enV (e : Int × Int) : Value := .agg #[.int .i64 e.1, .int .i64 e.2]
structure Ed.Ok (e : Ed) : Prop where
  f : I64 e.f
  t : I64 e.t
  lab : e.lab.length ≤ maxLen
theorem keyStr {l : Nm} (h : l.length ≤ maxLen) : ∃ kl, keyOf Try.prog 9 (.string ⟨l.toArray⟩) = some kl := by
  have hm : (⟨l.toArray⟩ : ByteArray).size ≤ maxLen := by show l.toArray.size ≤ _; rw [List.size_toArray]; omega
  exact ⟨.string l, by simp [keyOf, mapKey, Try.underlying9, hm]⟩
theorem keyEdge {e : Ed} (h : e.Ok) : ∃ kl, keyOf Try.prog 61 (edV e) = some kl := by
  obtain ⟨d, hd⟩ : ∃ d, Try.prog.types.size + 1 = d + 2 := ⟨_, rfl⟩
  have ht : Try.prog.keyType 61 = true := by kernel_rfl
  have hc : Try.prog.cellsOf 61 = 3 := by kernel_rfl
  have hi : Try.prog.cellsOf 3 = 1 := by kernel_rfl
  have hs : Try.prog.cellsOf 9 = 1 := by kernel_rfl
  have hm : (⟨e.lab.toArray⟩ : ByteArray).size ≤ maxLen := by show e.lab.toArray.size ≤ _; have := h.lab; rw [List.size_toArray]; omega
  have hk : Try.prog.keyLits (d + 2) 61 [.int .i64 e.f, .string ⟨e.lab.toArray⟩, .int .i64 e.t] = some [.int .i64 e.f, .string e.lab, .int .i64 e.t] := by
    simp [Program.keyLits, Try.underlying61, Try.underlying3, Try.underlying9, hc, hi, hs, h.f.wf, h.t.wf, hm]
  refine ⟨.string (keyBytes [.int .i64 e.f, .string e.lab, .int .i64 e.t]), ?_⟩
  unfold keyOf edV
  rw [hd]
  simp [Try.underlying61, ht, Value.formed, hc, Value.cells, hk]
theorem keyEnds {e : Int × Int} (h1 : I64 e.1) (h2 : I64 e.2) : ∃ kl, keyOf Try.prog 120 (enV e) = some kl := by
  obtain ⟨d, hd⟩ : ∃ d, Try.prog.types.size + 1 = d + 2 := ⟨_, rfl⟩
  have ht : Try.prog.keyType 120 = true := by kernel_rfl
  have hc : Try.prog.cellsOf 120 = 2 := by kernel_rfl
  have hi : Try.prog.cellsOf 3 = 1 := by kernel_rfl
  have hk : Try.prog.keyLits (d + 2) 120 [.int .i64 e.1, .int .i64 e.2] = some [.int .i64 e.1, .int .i64 e.2] := by
    simp [Program.keyLits, Try.underlying120, Try.underlying3, hc, hi, h1.wf, h2.wf]
  refine ⟨.string (keyBytes [.int .i64 e.1, .int .i64 e.2]), ?_⟩
  unfold keyOf enV
  rw [hd]
  simp [Try.underlying120, ht, Value.formed, hc, Value.cells, hk]
theorem edV_inj {a b : Ed} (h : edV a = edV b) : a = b := by
  unfold edV at h
  injection h with h
  have h0 := congrArg (fun x : Array Value => x[0]?) h
  have h1 := congrArg (fun x : Array Value => x[1]?) h
  have h2 := congrArg (fun x : Array Value => x[2]?) h
  simp at h0 h1 h2
  obtain ⟨af, al, at'⟩ := a
  obtain ⟨bf, bl, bt⟩ := b
  simp only at h0 h1 h2
  subst h0 h1 h2
  rfl
theorem enV_inj {a b : Int × Int} (h : enV a = enV b) : a = b := by
  unfold enV at h
  injection h with h
  have h0 := congrArg (fun x : Array Value => x[0]?) h
  have h1 := congrArg (fun x : Array Value => x[1]?) h
  simp at h0 h1
  exact Prod.ext h0 h1
end Go.Proofs.Ytgldcahhliokeaa
