/- Edges in memory; join.once. -/
import Derived.Test.YtgldcahhliokeaaJoL
namespace Go.Proofs.Ytgldcahhliokeaa
open Go.RowKit Go.Maps

def edC (e : Ed) : List Value := [.int .i64 e.f, .string ⟨e.lab.toArray⟩, .int .i64 e.t]
def edsC (l : List Ed) : List Value := l.flatMap edC
theorem edsC_app (a b : List Ed) : edsC (a ++ b) = edsC a ++ edsC b := List.flatMap_append
theorem edsC_len (l : List Ed) : (edsC l).length = l.length * 3 := by
  induction l with
  | nil => rfl
  | cons a l ih =>
    show (edC a ++ edsC l).length = _
    rw [List.length_append, ih, List.length_cons]
    show 3 + _ = _
    omega
theorem edsC_one (l : List Ed) : ∀ u ∈ edsC l, u.oneCell' = true := by
  intro u hu
  obtain ⟨s, _, hs⟩ := List.mem_flatMap.1 hu
  simp [edC] at hs
  rcases hs with rfl | rfl | rfl <;> rfl
/-- A list of edges in memory. -/
structure Eds (w : World) (A : Option Addr) (c : Nat) (l : List Ed) : Prop where
  rd : Rd w w.heap.size A (edsC l)
  cap : l.length ≤ c
  ok : ∀ e ∈ l, e.Ok
  sm : l.length ≤ 200
theorem Eds.below {w w' : World} {A : Option Addr} {c : Nat} {l : List Ed} (h : Eds w A c l) (hb : Below w.heap.size w w') : Eds w' A c l :=
  ⟨(h.rd.below hb (Nat.le_refl _)).more hb.size, h.cap, h.ok, h.sm⟩
theorem Eds.drewN {w : World} {A : Option Addr} {c : Nat} {l : List Ed} (h : Eds w A c l) (n : Nat) : Eds (w.drewN n) A c l := ⟨h.rd, h.cap, h.ok, h.sm⟩
theorem Eds.cell {w : World} {A : Option Addr} {c : Nat} {l : List Ed} (h : Eds w A c l) {k : Nat} (hk : k < l.length) : ∃ b o, A = some ⟨b, o, none⟩ ∧ b < w.heap.size ∧ w.cell? ⟨b, o + k * 3, none⟩ = some (.int .i64 l[k].f) ∧ w.cell? ⟨b, o + k * 3 + 1, none⟩ = some (.string ⟨l[k].lab.toArray⟩) ∧ w.cell? ⟨b, o + k * 3 + 2, none⟩ = some (.int .i64 l[k].t) := by
  have hne : edsC l ≠ [] := fun e => by have := edsC_len l; rw [e] at this; simp at this; omega
  obtain ⟨b, o, e, hb, hc⟩ := h.rd hne
  have hat := fun j hj => flat3_at edC (fun _ => rfl) l k j hk hj
  refine ⟨b, o, e, hb, hc (k * 3) _ (hat 0 (by omega)), ?_, ?_⟩
  · rw [Nat.add_assoc]; exact hc (k * 3 + 1) _ (hat 1 (by omega))
  · rw [Nat.add_assoc]; exact hc (k * 3 + 2) _ (hat 2 (by omega))
theorem infoEdge : (Try.prog.info? 61).map (fun i => (i.zero, i.size, i.bytes)) = some (some (.agg #[.int .i64 0, .string .empty, .int .i64 0]), 3, 32) := by kernel_rfl
/-- A set of edges in a map. -/
def SeenE (w : World) (b : Nat) (l : List Ed) : Prop := ∃ g, MapV w 61 b l.length g ∧ ∀ e : Ed, g (edV e) = if e ∈ l then some (.agg #[]) else none
theorem SeenE.made (w : World) : SeenE (w.alloc (.map #[] 0)) w.heap.size [] := ⟨_, MapV.made w _, fun _ => rfl⟩
theorem SeenE.fr {w w' : World} {b : Nat} {l : List Ed} {S : List Nat} (h : SeenE w b l) (hf : Fr w w' S) (hS : b ∉ S) : SeenE w' b l := by
  obtain ⟨g, h, hg⟩ := h
  exact ⟨g, h.fr hf hS, hg⟩
theorem SeenE.below {w w' : World} {b : Nat} {l : List Ed} (h : SeenE w b l) (hb : Below w.heap.size w w') : SeenE w' b l := h.fr (Fr.of_below hb []) (by simp)
theorem SeenE.look {w : World} {b : Nat} {l : List Ed} (h : SeenE w b l) {e : Ed} (he : e.Ok) :
    (Instr.lookup 112 (.map (some b)) (edV e) true).run Try.prog w = .ok (.tuple #[.agg #[], .bool (decide (e ∈ l))]) w := by
  obtain ⟨g, h, hg⟩ := h
  obtain ⟨kl, hk⟩ := keyEdge he
  rw [h.look kEdge Try.underlying112 (zeroUnit w) hk, hg]
  by_cases hm : e ∈ l
  · rw [if_pos hm, decide_eq_true hm]; rfl
  · rw [if_neg hm, decide_eq_false hm]; rfl
theorem SeenE.put {w : World} {b : Nat} {l : List Ed} (h : SeenE w b l) {e : Ed} (he : e.Ok) (hn : l.length ≤ 1000) :
    ∃ w', (Instr.mapUpdate 112 (.map (some b)) (edV e) (.agg #[])).run Try.prog w = .ok () w' ∧ SeenE w' b (l ++ [e]) ∧ Fr w w' [b] := by
  obtain ⟨g, h, hg⟩ := h
  obtain ⟨kl, hk⟩ := keyEdge he
  obtain ⟨w', h1, h2, h3⟩ := h.store kEdge Try.underlying112 (by simp only [maxLen]; omega) hk (.agg #[]) (fun v => open Classical in if v = edV e then some (.agg #[]) else g v) (if_pos rfl) (fun q hq => if_neg hq)
  refine ⟨w', h1, ⟨_, by rw [List.length_append]; exact h2, fun q => ?_⟩, h3⟩
  by_cases e' : q = e
  · subst e'
    rw [if_pos rfl, if_pos (by simp)]
  · rw [if_neg (fun h => e' (edV_inj h)), hg]
    by_cases hm : q ∈ l
    · rw [if_pos hm, if_pos (by simp [hm])]
    · rw [if_neg hm, if_neg (by simp [hm, e'])]
theorem SeenE.ne {w : World} {b : Nat} {l : List Ed} (h : SeenE w b l) {q : Nat} {cs : Array Value} {t : TypeId} {fr : Nat × Nat} (hq : w.heap[q]? = some (.cells cs t fr)) : b ≠ q := by
  rintro rfl
  obtain ⟨g, ⟨D, ⟨es, clock, hb, _⟩, _⟩, _⟩ := h
  rw [hb] at hq
  cases hq
/-- Where once is. -/
structure OnceAt (w wr : World) (b : Nat) (v : Value) (l : List Ed) : Prop where
  row : wr.ownsRow w.heap.size 61 3 v l.length (edsC l)
  seen : SeenE wr b l
  lo : w.heap.size ≤ b
  below : Below w.heap.size w wr
theorem OnceAt.kept {w wr w' : World} {b : Nat} {v : Value} {l : List Ed} (h : OnceAt w wr b v l) (hb : Below wr.heap.size wr w') : OnceAt w w' b v l :=
  ⟨own_below h.row hb (Nat.le_refl _), h.seen.below hb, h.lo, h.below.trans (lower' hb h.below.size)⟩
theorem OnceAt.alloc {w wr : World} {b : Nat} {v : Value} {l : List Ed} (h : OnceAt w wr b v l) (o : Obj) : OnceAt w (wr.alloc o) b v l := h.kept ((Below.refl _ _).alloc (Nat.le_refl _) _)
/-- An edge more is seen. -/
theorem OnceAt.put {w wr : World} {b : Nat} {v : Value} {l : List Ed} (h : OnceAt w wr b v l) {e : Ed} (he : e.Ok) (hl : l.length ≤ 300) :
    ∃ w2, (Instr.mapUpdate 112 (.map (some b)) (edV e) (.agg #[])).run Try.prog wr = .ok () w2 ∧ (∀ q, q ≠ b → q < wr.heap.size → w2.heap[q]? = wr.heap[q]?) ∧
      ∃ v5 w5, (Builtin.append_ #[26, 26] 26 #[v, .slice (some ⟨w2.heap.size, 0, none⟩) 1 1]).run Try.prog (w2.alloc (.cells (edC e).toArray 61)) = .ok v5 w5 ∧ OnceAt w w5 b v5 (l ++ [e]) := by
  obtain ⟨w2, h1, h2, h3⟩ := h.seen.put he (by omega)
  have hb2 : Below w.heap.size wr w2 := h3.below h.below.size (by have := h.lo; simp; omega)
  refine ⟨w2, h1, fun q hq hlt => h3.block q hlt (by simpa using hq), ?_⟩
  obtain ⟨g, hg, _⟩ := h.seen
  have hr2 := rowFrS h.row h3 (fun x hx hm => hg.apart h.row (by rw [List.mem_singleton.1 hm] at hx; exact hx))
  have hb4 : Below w2.heap.size w2 (w2.alloc (.cells (edC e).toArray 61)) := (Below.refl _ _).alloc (Nat.le_refl _) _
  have hr4 := own_below hr2 hb4 (Nat.le_refl _)
  have hs4 := h2.below hb4
  have hz : w.heap.size ≤ (w2.alloc (.cells (edC e).toArray 61)).heap.size := Nat.le_trans h.below.size (Nat.le_trans hb2.size hb4.size)
  obtain ⟨i, hi, hz0, hz1, hz2⟩ := info_parts infoEdge
  have hrd : Rd (w2.alloc (.cells (edC e).toArray 61)) (w2.heap.size + 1) (some ⟨w2.heap.size, 0, none⟩) (edsC [e]) := by
    have := Rd.new w2 (edC e).toArray 61 (0, 0)
    exact this
  obtain ⟨v5, w5, hrun, g1, g2, g3⟩ := run_appR (P := Try.prog) _ w.heap.size 26 26 61 i _ 3 32 Try.underlying26 hi hz0 hz1 hz2 rfl (by omega) v l.length (edsC l) hr4 (w2.heap.size + 1) (some ⟨w2.heap.size, 0, none⟩) 1 1 (edsC [e]) (by rw [edsC_len]; rfl) hrd (edsC_one _) (by omega) (by omega) hz
  have hb5 : Below w.heap.size (w2.alloc (.cells (edC e).toArray 61)) w5 := (Below.refl w.heap.size _).grown g2 hz (fun k hk => (World.ownsRow.lt hr4 k hk).1)
  refine ⟨v5, w5, hrun, ?_, ?_, h.lo, (h.below.trans hb2).trans ((lower' hb4 (Nat.le_trans h.below.size hb2.size)).trans hb5)⟩
  · rw [edsC_app, List.length_append]
    exact g1
  · have hs5 := hs4
    obtain ⟨gg, hgg, _⟩ := hs5
    exact hs4.fr (fr_grown g2) (hgg.apart hr4)
/-- What once answers. -/
def OnPost (w : World) (l : List Ed) (e : Ending) (w' : World) : Prop := ∃ A c, e = .returned (.slice A l.length c) ∧ Eds w' A c l ∧ Below w.heap.size w w'
set_option maxRecDepth 100000 in
set_option maxHeartbeats 4000000 in
theorem once_any (A : Option Addr) (c : Nat) (es : List Ed) (w : World) (h : Eds w A c es) : Calls Try.prog 56 #[.slice A es.length c] w (OnPost w (onceL es)) := by
  have hs := h.sm
  have HA := Lib.hid h
  clear h
  have hmm := @run_makeMap Try.prog
  go_enter Try.func56, Try.ntmps56
  go_wp2_with (fail)
  clear hmm
  go_loopw [3, 12] (fun out i wr => ∃ k : Nat, k ≤ es.length ∧ i = .int .i64 (k : Int) ∧ Hid (OnceAt w wr w.heap.size out (onceL (es.take k)))) (fun _ i _ => es.length - (intOf i).toNat)
  case atStart => exact ⟨0, by omega, rfl, Lib.hid ⟨World.ownsRow_nil _ _ _ _, SeenE.made w, Nat.le_refl _, (Below.refl _ _).alloc (Nat.le_refl _) _⟩⟩
  case round =>
    obtain ⟨k, hk, rfl, hrel⟩ := hrel
    by_cases hlt : k < es.length
    · obtain ⟨b, o, hA, _, c0, c1, c2⟩ := (HA.out.below hrel.out.below).cell hlt
      have hlI : (k : Int) < (es.length : Int) := by omega
      have hok := HA.out.ok _ (List.getElem_mem hlt)
      have hot := onceL_take hlt
      have hol : (onceL (es.take k)).length ≤ 200 := by
        have h1 := onceL_len (es.take k)
        rw [List.length_take] at h1
        omega
      rw [hA]
      generalize es[k] = y at c0 c1 c2 hok hot
      generalize onceL (es.take k) = L at hrel hot hol
      have h1 := hrel.out.alloc (.cells #[.int .i64 y.f, .string ⟨y.lab.toArray⟩, .int .i64 y.t] 61)
      have hg1 := heap_alloc_new wr (.cells #[.int .i64 y.f, .string ⟨y.lab.toArray⟩, .int .i64 y.t] 61)
      have hlook := h1.seen.look hok
      unfold edV at hlook
      have h2 := h1.alloc (.cells #[] 113)
      have hg2 := (Below.heap_alloc _ (.cells #[] 113) _ (heap_lt hg1)).trans hg1
      cases hd : decide (y ∈ L) with
      | true =>
        rw [hd] at hlook
        have hadd : addE L y = L := by unfold addE; rw [if_pos (of_decide_eq_true hd)]
        have HN := Lib.hid (And.intro hadd (And.intro h2 hot))
        clear hd hadd h1 h2 hg1 hg2 hot hok hol hrel
        go_wp2_with (fail)
        go_roundw
        case rel => exact ⟨k + 1, by omega, by go_num, Lib.hid (by rw [HN.out.2.2, HN.out.1]; exact HN.out.2.1)⟩
        case measure => simp [intOf]; omega
      | false =>
        rw [hd] at hlook
        have hadd : addE L y = L ++ [y] := by unfold addE; rw [if_neg (of_decide_eq_false hd)]
        obtain ⟨w2, hput, hk2, v5, w5, hrun5, h5⟩ := h2.put hok (by omega)
        have hg3 := (hk2 _ (by have := h1.seen; intro e; exact SeenE.ne this hg1 e.symm) (heap_lt hg2)).trans hg2
        have e0 := cell_of_row _ _ 0 _ _ _ hg3; have e1 := cell_of_row _ _ 1 _ _ _ hg3; have e2 := cell_of_row _ _ 2 _ _ _ hg3
        unfold edV at hput
        have HN := Lib.hid (And.intro hadd (And.intro h5 hot))
        clear hd hadd h1 h2 hg1 hg2 hg3 hot hok hol hrel hk2 h5
        go_wp2_with (at_builtin; refine wpL_appK _ rfl (.tmp 27) (.tmp 29) 26 rfl rfl _ _ _ _ rfl rfl hrun5 ?_)
        go_roundw
        case rel => exact ⟨k + 1, by omega, by go_num, Lib.hid (by rw [HN.out.2.2, HN.out.1]; exact HN.out.2.1)⟩
        case measure => simp [intOf]; omega
    · have g0 : ¬ (k : Int) < (es.length : Int) := by omega
      have ht : es.take k = es := List.take_of_length_le (by omega)
      have ho := hrel.out.row
      rw [ht] at ho
      obtain ⟨A', c', e, hcap, _, hrd⟩ := own_shape ho
      rw [e]
      have HF := Lib.hid (And.intro hrd (And.intro hcap hrel.out.below))
      clear e hcap hrd ho hrel ht
      go_wp2_with (fail)
      go_ret
      exact ⟨A', c', rfl, ⟨HF.out.1, HF.out.2.1, fun e he => HA.out.ok e (onceL_mem.1 he), by have := onceL_len es; omega⟩, HF.out.2.2⟩
end Go.Proofs.Ytgldcahhliokeaa
