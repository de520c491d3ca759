/- A disk's Read. -/
import Derived.Test.YtnjljalihjkmcaaDskD
import Derived.Deep.WholeRow
namespace Go.Proofs.Ytnjljalihjkmcaa
open Go.RowKit Go.Maps

def zlit : DataW Unit := .lit (.string zero64)
/-- What stands at sector i. -/
def DK.get (D : DK) (i : Int) : DataW Unit := if Maps.has D.wr (kz i) then D.wr.atKey (kz i) zlit else D.sure.atKey (kz i) zlit
theorem zero_sec (w : World) : (zeroValue 109).run Try.prog w = .ok (.agg (u8s zero64).toArray) w := (zero_of_info info_sec).1 w
theorem zero64_len : zero64.length = 64 := by simp [zero64]
theorem one_u8s (l : List UInt8) : (u8s l).toArray.all (·.oneCell') = true := by
  refine all_oneCell_toArray fun v hv => ?_
  induction l with
  | nil => cases hv
  | cons x l ih =>
    rw [u8s_cons] at hv
    rcases List.mem_cons.1 hv with rfl | h
    · rfl
    · exact ih h
theorem size_u8s (l : List UInt8) (h : l.length = 64) : (Try.prog.info? 109).map (·.size) = some (u8s l).toArray.size := by
  rw [List.size_toArray, u8s_len, h]; exact size_sec
/-- A sector into the sector that was made last. -/
theorem store_sec (w : World) (l l' : List UInt8) (h : l.length = 64) (h' : l'.length = 64) :
    (Instr.storeAt 109 (.pointer (some ⟨w.heap.size, 0, none⟩)) (.agg (u8s l').toArray)).run Try.prog (w.alloc (.cells (u8s l).toArray 109)) = .ok () (w.alloc (.cells (u8s l').toArray 109)) :=
  run_storeAt_new w _ _ _ (size_u8s l' h') (by simp [u8s_len, h, h']) (one_u8s l')
theorem store_cells (w : World) (l l' : List UInt8) (h : l.length = 64) (h' : l'.length = 64) :
    (storeCells ⟨w.heap.size, 0, none⟩ (u8s l') 0).run Try.prog (w.alloc (.cells (u8s l).toArray 109)) = .ok () (w.alloc (.cells (u8s l').toArray 109)) := by
  have := run_storeCells_new (P := Try.prog) w 109 (u8s l).toArray (u8s l').toArray (size_u8s l' h') (by simp [u8s_len, h, h']) (one_u8s l')
  exact this
/-- A lookup with ok, as an equation. -/
theorem look_sec {w : World} {b n : Nat} {D : DataW Unit} (h : w.ownsMap Try.prog 3 secR b n D) (i : Int) (h0 : -9223372036854775808 ≤ i) (h1 : i ≤ 9223372036854775807) :
    ∃ l : List UInt8, l.length = 64 ∧ (Instr.lookup 88 (.map (some b)) (.int .i64 i) true).run Try.prog w = .ok (.tuple #[.agg (u8s l).toArray, .bool (Maps.has D (kz i))]) w ∧ D.atKey (kz i) zlit = .lit (.string l) := by
  obtain ⟨v, ps, hr, hv⟩ := h.look_ok keyZ Try.underlying88 (zero_sec w) (secR_mk zero64 zero64_len) (kz_of i h0 h1)
  obtain ⟨l, hl, rfl, hd, _⟩ := secR_inv hv
  exact ⟨l, hl, hr, hd⟩
theorem lookup_sec {w : World} {b n : Nat} {D : DataW Unit} (h : w.ownsMap Try.prog 3 secR b n D) (i : Int) (h0 : -9223372036854775808 ≤ i) (h1 : i ≤ 9223372036854775807) :
    ∃ l : List UInt8, l.length = 64 ∧ (∀ w' : World, w'.ownsMap Try.prog 3 secR b n D → True) ∧ (Instr.lookup 88 (.map (some b)) (.int .i64 i) false).run Try.prog w = .ok (.agg (u8s l).toArray) w ∧ D.atKey (kz i) zlit = .lit (.string l) := by
  obtain ⟨v, ps, hr, hv⟩ := h.lookup keyZ Try.underlying88 (zero_sec w) (secR_mk zero64 zero64_len) (kz_of i h0 h1)
  obtain ⟨l, hl, rfl, hd, _⟩ := secR_inv hv
  exact ⟨l, hl, fun _ _ => trivial, hr, hd⟩

set_option maxRecDepth 100000 in
set_option maxHeartbeats 1000000 in
theorem read_bad (p bs bw T : Nat) (D : DK) (i : Int) (w : World) (h : DiskAt w p bs bw D T) (hbad : ¬ (0 ≤ i ∧ i < D.size)) :
    Calls Try.prog 40 #[.pointer (some ⟨p, 0, none⟩), .int .i64 i] w fun e w' => e = .returned (.tuple #[.slice none 0 0, .int .i64 1]) ∧ w = w' := by
  have hh := has_any p bs bw T D i w h
  rw [decide_eq_false hbad] at hh
  have HH := Lib.hid hh
  clear hh h hbad
  go_enter Try.func40, Try.ntmps40
  go_wp2_with (go_at_call 58; (with_reducible refine HH.out.mono ?_); rintro e w' ⟨rfl, rfl⟩)
  go_ret2
  exact ⟨rfl, rfl⟩
set_option maxRecDepth 100000 in
set_option maxHeartbeats 1000000 in
theorem read_any (p bs bw T : Nat) (D : DK) (i : Int) (w : World) (h : DiskAt w p bs bw D T) (hi : 0 ≤ i ∧ i < D.size) (hz : D.size ≤ 4096) :
    Calls Try.prog 40 #[.pointer (some ⟨p, 0, none⟩), .int .i64 i] w fun e w' => ∃ l : List UInt8, l.length = 64 ∧ D.get i = .lit (.string l) ∧ e = .returned (.tuple #[.slice (some ⟨w.heap.size, 0, none⟩) 64 64, .int .i64 0]) ∧ w' = w.alloc (.cells (u8s l).toArray 109) := by
  have hh := has_any p bs bw T D i w h
  rw [decide_eq_true hi] at hh
  obtain ⟨hg, hne, ns, nw, h2, h3, h4⟩ := h
  unfold DK.cells at hg
  have a1 := cell_of_row w p 1 _ _ _ hg
  have a2 := cell_of_row w p 2 _ _ _ hg
  obtain ⟨l1, hl1, e1, d1⟩ := look_sec h3 i (by omega) (by omega)
  have hp := (Array.getElem?_eq_some_iff.1 hg).1
  have a1' := cell_of_row (w.alloc (.cells (u8s l1).toArray 109)) p 1 _ _ _ ((Below.heap_alloc w _ p hp).trans hg)
  obtain ⟨l2, hl2, _, e2, d2⟩ := lookup_sec (h2.alloc (.cells (u8s l1).toArray 109)) i (by omega) (by omega)
  have s1 := store_cells w zero64 l1 zero64_len hl1
  have s2 := store_cells w l1 l2 hl1 hl2
  have n1 : (u8s l1).length = 64 := by rw [u8s_len, hl1]
  have n2 : (u8s l2).length = 64 := by rw [u8s_len, hl2]
  have hze := zero_sec
  have hu : ∀ w : World, (underlying 109).run Try.prog w = _ := run_underlying Try.underlying109
  have hget : D.get i = if Maps.has D.wr (kz i) then .lit (.string l1) else .lit (.string l2) := by unfold DK.get; rw [d1, d2]
  obtain ⟨b, hb⟩ : ∃ b, b = Maps.has D.wr (kz i) := ⟨_, rfl⟩
  rw [← hb] at e1 hget
  have HH := Lib.hid hh
  clear hh hb h2 h3 h4 hg d1 d2
  cases b with
  | true =>
    have HF := Lib.hid (And.intro hl1 hget)
    clear hl1 hget hl2 e2 s2 n2 a1 a1'
    go_enter Try.func40, Try.ntmps40
    go_wp2_with (go_at_call 58; (with_reducible refine HH.out.mono ?_); rintro e w' ⟨rfl, rfl⟩)
    go_ret2
    exact ⟨l1, HF.out.1, HF.out.2, rfl, rfl⟩
  | false =>
    have HF := Lib.hid (And.intro hl2 hget)
    clear hl1 hget hl2 a1
    go_enter Try.func40, Try.ntmps40
    go_wp2_with (go_at_call 58; (with_reducible refine HH.out.mono ?_); rintro e w' ⟨rfl, rfl⟩)
    go_ret2
    exact ⟨l2, HF.out.1, HF.out.2, rfl, rfl⟩
end Go.Proofs.Ytnjljalihjkmcaa
