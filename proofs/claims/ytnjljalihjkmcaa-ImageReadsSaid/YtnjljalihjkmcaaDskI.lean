/- tear: the first bytes of a sector over another. -/
import Derived.Test.YtnjljalihjkmcaaDskH
import Derived.Laws.CopyOwn
namespace Go.Proofs.Ytnjljalihjkmcaa
open Go.RowKit Go.Maps

/-- So many bytes are written. -/
def cutN (c : Int) : Nat := (min (max c 0) 64).toNat
def tearL (ls lw : List UInt8) (c : Int) : List UInt8 := lw.take (cutN c) ++ ls.drop (cutN c)
theorem cutN_le (c : Int) : cutN c ≤ 64 := by unfold cutN; omega
theorem tearL_len (ls lw : List UInt8) (c : Int) (h1 : ls.length = 64) (h2 : lw.length = 64) : (tearL ls lw c).length = 64 := by
  have := cutN_le c
  simp [tearL, h1, h2]; omega
theorem tear_cells (ls lw : List UInt8) (c : Int) (h2 : lw.length = 64) :
    ((u8s ls).toArray.toList.take 0 ++ ((u8s (lw.take (cutN c))) ++ (u8s ls).toArray.toList.drop (0 + (u8s (lw.take (cutN c))).length))) = u8s (tearL ls lw c) := by
  have h := cutN_le c
  have e : (u8s (lw.take (cutN c))).length = cutN c := by rw [u8s_len]; simp [h2]; omega
  rw [e]
  simp [tearL, u8s_append, u8s_drop]

/-- The first cells of a sector. -/
theorem slice_sec (b n : Nat) (hn : n ≤ 64) (w : World) :
    (Instr.sliceAt 109 (.pointer (some ⟨b, 0, none⟩)) none (some (.int .i64 (n : Int))) none).run Try.prog w = .ok (.slice (some ⟨b, 0, none⟩) n 64) w := by
  have hu := run_underlying Try.underlying109 w
  have h2 : ((n : Int)).toNat = n := by omega
  unfold Instr.sliceAt
  rw [Sem.run_bind, hu]
  simp [go_sem, h2]
  intro h
  omega
/-- A cut in a region that draws, by its run. -/
theorem wpStill_slice {P : Program} {ops : Array Oper} {w : World} {Q : Act → Prop} {a : Act} {o : Oper} {rest : List Oper} (ty : TypeId) (x y : Operand) (ho : o.op = .slice ty x none (some y) none) (pv yv v : Value) (hx : a.eval x = pv) (hy : a.eval y = yv) (hr : (Instr.sliceAt ty pv none (some yv) none).run P w = .ok v w) (hw : Region.wanted o (yielded ops a.tmps) = true) (h : wpStill P ops w Q rest (a.put o.dst v)) : wpStill P ops w Q (o :: rest) a := by
  refine wpStill_step fun K hK => ?_
  rw [if_pos hw]
  unfold Oper.still execOp
  simp only [ho, hx, hy, Option.map_some, Option.map_none, Sem.run_bind, hr, Result.andThen_ok, Sem.run_pure, Oper.stillUpon_value]
  exact hK _ h

theorem resTear {w : World} {b : Nat} {l : List UInt8} (hl : l.length = 64) (h : w.rangeAt b 0 (u8s l)) (tmps : Array Value) (h2 : tmps.getD 6 undef = .pointer (some ⟨b, 0, none⟩)) :
    (results Try.f63 tmps).run Try.prog w = .ok (.agg (u8s l).toArray) w := by
  have h2' := h2
  simp only [Array.getD_eq_getD_getElem?] at h2'
  have hld := run_loadVar_mid w b 0 109 (u8s l) _ h Try.underlying109 rfl (by rw [u8s_len, hl]; exact size_sec)
  simp [results, Try.results63, asAddr, h2', hld]

theorem three_blocks (w : World) (A B C : Obj) : (((w.alloc A).alloc B).alloc C).heap[w.heap.size]? = some A ∧ (((w.alloc A).alloc B).alloc C).heap[w.heap.size + 1]? = some B ∧ (((w.alloc A).alloc B).alloc C).heap[w.heap.size + 2]? = some C ∧ Below w.heap.size w (((w.alloc A).alloc B).alloc C) := by
  refine ⟨?_, ?_, ?_, (((Below.refl _ w).alloc (Nat.le_refl _) _).alloc (by simp) _).alloc (by simp; omega) _⟩
  · rw [Below.heap_alloc _ _ _ (by simp; omega), Below.heap_alloc _ _ _ (by simp)]
    exact heap_alloc_last w A
  · rw [Below.heap_alloc _ _ _ (by simp)]
    have := heap_alloc_last (w.alloc A) B
    simpa using this
  · have := heap_alloc_last ((w.alloc A).alloc B) C
    simpa using this
theorem Below.setCells {B : Nat} {a : World} (b : Nat) (hb : B ≤ b) : ∀ (vs : List Value) (o : Nat) (v : World), Below B a v → Below B a (v.setCells b o vs)
  | [], _, _, h => h
  | v :: vs, o, _, h => Below.setCells b hb vs (o + 1) _ (h.setCell (p := ⟨b, o, none⟩) hb v)
theorem there_of_row {w : World} {b n : Nat} {cs : Array Value} {t : TypeId} (h : w.heap[b]? = some (.cells cs t (0, 0))) (hn : n ≤ cs.size) : w.there b 0 n := fun j hj => by
  refine ⟨?_, frozen_of_row _ _ _ _ _ h⟩
  rw [cell_of_row _ _ (0 + j) _ _ _ h]
  simp
  omega
theorem range_of_row {w : World} {b : Nat} {cs : List Value} {t : TypeId} {fr : Nat × Nat} (h : w.heap[b]? = some (.cells cs.toArray t fr)) : w.rangeAt b 0 cs := fun j v hv => by
  rw [cell_of_row _ _ (0 + j) _ _ _ h]
  simpa using hv

/-- The world behind a tear. -/
def tearW (w : World) (ls lw : List UInt8) (c : Int) : World :=
  ((((w.alloc (.cells (u8s ls).toArray 109)).alloc (.cells (u8s lw).toArray 109)).alloc (.cells (u8s zero64).toArray 109)).drew.setRow w.heap.size (u8s (tearL ls lw c)).toArray).setCells (w.heap.size + 2) 0 (u8s (tearL ls lw c)).toArray.toList
theorem tearW_below (w : World) (ls lw : List UInt8) (c : Int) : Below w.heap.size w (tearW w ls lw c) :=
  Below.setCells _ (by omega) _ 0 _ (below_setRow (three_blocks w _ _ _).2.2.2.drew (Nat.le_refl _) _)

set_option maxRecDepth 100000 in
set_option maxHeartbeats 1000000 in
theorem tear_any (ls lw : List UInt8) (c : Int) (w : World) (h1 : ls.length = 64) (h2 : lw.length = 64) :
    Calls Try.prog 63 #[.agg (u8s ls).toArray, .agg (u8s lw).toArray, .int .i64 c] w fun e w' => e = .returned (.agg (u8s (tearL ls lw c)).toArray) ∧ w' = tearW w ls lw c := by
  have hze := zero_sec
  have hu : ∀ w : World, (underlying 109).run Try.prog w = _ := run_underlying Try.underlying109
  have hze := zero_sec
  go_enter Try.func63, Try.ntmps63
  go_wp2
  have hn : min (max c 0) 64 = ((cutN c : Nat) : Int) := by unfold cutN; omega
  rw [hn]
  have hle := cutN_le c
  have H1 := Lib.hid h1
  have H2 := Lib.hid h2
  clear hn h1 h2
  generalize hW : (((w.alloc (Obj.cells (u8s ls).toArray 109)).alloc (Obj.cells (u8s lw).toArray 109)).alloc (Obj.cells (u8s zero64).toArray 109)) = W
  have HW := Lib.hid hW
  clear hW
  go_still_tail 4, (by kernel_rfl)
  refine wpStill_slice _ _ _ rfl _ _ _ rfl rfl (slice_sec w.heap.size (cutN c) hle _) (by kernel_rfl) ?_
  still_step
  refine wpStill_slice _ _ _ rfl _ _ _ rfl rfl (slice_sec (w.heap.size + 1) (cutN c) hle _) (by kernel_rfl) ?_
  refine wpStill_nil ?_
  change wpList _ _ _ _ _ W.drew
  obtain ⟨b0, b1, b2, hB⟩ := three_blocks w (.cells (u8s ls).toArray 109) (.cells (u8s lw).toArray 109) (.cells (u8s zero64).toArray 109)
  rw [HW.out] at b0 b1 b2 hB
  have hg0 : W.drew.heap[w.heap.size]? = some (.cells (u8s ls).toArray 109 (0, 0)) := b0
  have hg1 : W.drew.heap[w.heap.size + 1]? = some (.cells (u8s lw).toArray 109 (0, 0)) := b1
  have hg2 : W.drew.heap[w.heap.size + 2]? = some (.cells (u8s zero64).toArray 109 (0, 0)) := b2
  have h2 := H2.out
  have hcs : (u8s (lw.take (cutN c))).length = cutN c := by rw [u8s_len]; simp [h2]; omega
  refine wpList_copy_own rfl _ _ _ _ rfl 5 Try.underlying45 (by kernel_rfl) w.heap.size 0 _ _ ⟨w.heap.size + 1, 0, none⟩ _ _ rfl rfl (u8s ls).toArray _ hg0 (u8s (lw.take (cutN c))) (by rw [hcs]; simp) (fun j v hv => ?_) (by rw [hcs]; simp [u8s_len, H1.out]; exact hle) (u8s_one _) ?_
  · rw [Addr.add_mid, cell_of_row _ _ _ _ _ _ hg1]
    rw [u8s_take, List.getElem?_take] at hv
    split at hv
    · simpa using hv
    · cases hv
  rw [tear_cells ls lw c h2]
  have hT := tearL_len ls lw c H1.out h2
  have e0 := setRow_heap W.drew w.heap.size _ (u8s (tearL ls lw c)).toArray _ _ hg0
  have e2 := (setRow_other W.drew w.heap.size (w.heap.size + 2) (u8s (tearL ls lw c)).toArray (by omega)).trans hg2
  generalize hW2 : W.drew.setRow w.heap.size (u8s (tearL ls lw c)).toArray = W2 at e0 e2 ⊢
  have r0 := range_of_row e0
  have t2 := there_of_row (n := (u8s (tearL ls lw c)).toArray.size) e2 (by simp [u8s_len, hT, zero64_len])
  have t2' : W2.there (w.heap.size + 2) 0 (u8s (tearL ls lw c)).toArray.toList.length := t2
  have hrs := World.rangeAt_setCells_same W2 (w.heap.size + 2) 0 _ t2'
  have hB3 : W2.setCells (w.heap.size + 2) 0 (u8s (tearL ls lw c)).toArray.toList = tearW w ls lw c := by unfold tearW; rw [HW.out, hW2]
  have hsz : (Try.prog.info? 109).map (·.size) = some (u8s (tearL ls lw c)).length := by rw [u8s_len, hT]; exact size_sec
  have HE := Lib.hid (And.intro hT (And.intro hrs hB3))
  clear hrs hB3 hW2 e0 e2 hT h2 hcs b0 b1 b2 hB hg0 hg1 hg2 hle hze hu
  go_wp2_with (first
    | (refine wpList_load_mid rfl 109 (.tmp 3) rfl w.heap.size 0 rfl (u8s (tearL ls lw c)) _ r0 Try.underlying109 rfl hsz ?_)
    | (refine wpList_store_mid rfl 109 (.tmp 6) (.tmp 15) rfl (w.heap.size + 2) 0 (u8s (tearL ls lw c)).toArray rfl rfl t2 hsz (one_u8s _) ?_)
    | go_in)
  exact bodyPost_ret (resTear HE.out.1 HE.out.2.1 _ rfl) rfl ⟨rfl, HE.out.2.2⟩
end Go.Proofs.Ytnjljalihjkmcaa
