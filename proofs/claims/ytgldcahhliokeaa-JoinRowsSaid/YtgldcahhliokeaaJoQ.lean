/- An entry of a map, taken and stored: m[k] = append(m[k], ..); groups of ends in a map. -/
import Derived.Test.YtgldcahhliokeaaJoP
import Derived.WideKeyEntry
namespace Go.Proofs.Ytgldcahhliokeaa
open Go.RowKit Go.Maps Go.WideElems
open Go.ChangeMaps (heap_setBlock_same)

set_option maxRecDepth 100000 in
theorem lawEnds : WideMaps.KeyLaw Try.prog 120 := deep_law_laid laidO (m := 2) (by omega) rowEnds (by kernel_rfl) wideEnds
theorem MapV.move {w w' : World} {k : TypeId} {b n : Nat} {g : Value → Option Value} (h : MapV w k b n g) (e : w'.heap[b]? = w.heap[b]?) : MapV w' k b n g := by
  obtain ⟨D, ⟨es, clock, hb, r⟩, hg⟩ := h
  exact ⟨D, ⟨es, clock, e.trans hb, r⟩, hg⟩
set_option maxRecDepth 100000 in
/-- m[key] as an entry: what it holds; and what is stored there later. -/
theorem MapV.entry {w : World} {k e t : TypeId} {b n : Nat} {g : Value → Option Value} {key z : Value} {kl : Lit} (h : MapV w k b n g) (K : WideMaps.KeyLaw Try.prog k) (ht : Try.prog.underlying t = some (.map k e)) (hz : ∀ u : World, (zeroValue e).run Try.prog u = .ok z u) (hk : keyOf Try.prog k key = some kl) (hn : n < maxLen) :
    ∃ (st : Nat) (w1 : World), (Instr.mapEntry t (.map (some b)) key).run Try.prog w = .ok (.tuple #[(g key).getD z, .int .i64 (st : Int)]) w1 ∧ Fr w w1 [b] ∧ b < w1.heap.size ∧
      ∀ (val : Value) (w2 : World) (g' : Value → Option Value), w2.heap[b]? = w1.heap[b]? → g' key = some val → (∀ q, q ≠ key → g' q = g q) → ∃ w3, (Instr.entryStore t (.map (some b)) (.int .i64 (st : Int)) val).run Try.prog w2 = .ok () w3 ∧ MapV w3 k b (n + 1) g' ∧ Fr w2 w3 [b] := by
  have hV := h
  obtain ⟨D, ⟨es, clock, hb, F, hs, hD⟩, hg⟩ := h
  obtain ⟨v0, st, es1, clock1, h1, h2, h3⟩ := entry_then_store K ht hz hb F hk
  have hv0 : v0 = (g key).getD z := by
    have hat := Go.WideShapes.atKey_sorted (es.toList.map (rg Try.prog k rawR)) (Maps.fit_rising (Keyed.of_law K) F) kl ((Keyed.of_law K).key hk)
    have hgk := (hg key kl hk).2 z
    rw [hD] at hgk
    rcases h2 with ⟨e0, hm0, hk0, rfl⟩ | ⟨hno, rfl⟩
    · obtain ⟨y0, hy0⟩ := F.reads e0 hm0
      obtain ⟨zv, hzv, hd⟩ := rd_val hy0
      have m0 := rd_key hy0
      rw [hk0, hk] at m0
      have := hat.2 (rg Try.prog k rawR e0) (List.mem_map.2 ⟨e0, hm0, rfl⟩) (by rw [rg_of hy0]; exact (Option.some.inj m0).symm) (.held z)
      rw [this, rg_of hy0, hd] at hgk
      unfold rawR at hzv
      rw [← Option.some.inj hzv] at hgk
      exact DataW.held.inj hgk
    · have := hat.1 (fun p hp e1 => by
        obtain ⟨x, hx, rfl⟩ := List.mem_map.1 hp
        obtain ⟨y, hy⟩ := F.reads x hx
        have m1 := rd_key hy
        rw [rg_of hy] at e1
        rw [e1] at m1
        exact hno x hx (K.inj m1 hk)) (.held v0)
      rw [this] at hgk
      exact DataW.held.inj hgk
  rw [← hv0]
  refine ⟨st, _, h1, Fr.of_grown (World.mapTurned.grown ⟨es, clock, es1, clock1, hb, rfl⟩), heap_lt (heap_setBlock_same hb _), fun val w2 g' hw2 hg1 hg2 => ?_⟩
  rw [heap_setBlock_same hb] at hw2
  obtain ⟨es', clock', k1, k2⟩ := h3 w2 val hw2
  obtain ⟨w', m1, m2, _⟩ := hV.store (Keyed.of_law K) ht hn hk val g' hg1 hg2
  rw [k2] at m1
  injection m1 with _ m1
  subst m1
  exact ⟨_, k1, m2.move ((heap_setBlock_same hw2 _).trans (heap_setBlock_same hb _).symm), Fr.of_grown (World.mapTurned.grown ⟨_, _, es', clock', hw2, rfl⟩)⟩
end Go.Proofs.Ytgldcahhliokeaa
