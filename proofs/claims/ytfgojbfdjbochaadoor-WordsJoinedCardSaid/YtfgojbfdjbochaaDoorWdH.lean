/- words.Split. -/
import Derived.Test.YtfgojbfdjbochaaDoorWdG
namespace Go.Proofs.YtfgojbfdjbochaaDoor
open Go.RowKit Go.Maps

theorem Kp.below {lo p : Nat} {a b : World} (h : Kp lo p a b) {B : Nat} (h1 : B ≤ p) (h2 : B ≤ lo) : Below B a b := ⟨h.os, h.tape, h.output, h.size, fun k hk => h.block k (by omega) (by omega)⟩
theorem resSplit (w : World) (tmps : Array Value) : (results Tryd.f9 tmps).run Tryd.prog w = .ok (.tuple #[tmps.getD 2 undef, tmps.getD 3 undef, tmps.getD 4 undef, tmps.getD 5 undef]) w := by
  simp [results, Tryd.results9, go_sem]
/-- What Split answers. -/
def SplitPost (w : World) (x : List Wd × Nat × Nat × Nat) (e : Ending) (w' : World) : Prop :=
  ∃ A c, e = .returned (.tuple #[.slice A x.1.length c, .int .i64 (x.2.1 : Int), .int .i64 (x.2.2.1 : Int), .int .i64 (x.2.2.2 : Int)]) ∧ w'.ownsRow w.heap.size 46 4 (.slice A x.1.length c) x.1.length (wdsV x.1) ∧ Below w.heap.size w w'
theorem splitNone (w w' : World) (a b c : Nat) (h : Below w.heap.size w w') : SplitPost w ([], a, b, c) (.returned (.tuple #[.slice none 0 0, .int .i64 (a : Int), .int .i64 (b : Int), .int .i64 (c : Int)])) w' :=
  ⟨none, 0, rfl, World.ownsRow_nil _ _ _ _, h⟩

set_option maxRecDepth 100000 in
set_option maxHeartbeats 4000000 in
theorem split_bad (s : ByteArray) (w : World) (hs : s.size ≤ 140737488355328) (hT : Tabs w) (h : 1024 < s.size ∨ Lib.validD s.data.toList = false) :
    Calls Tryd.prog 9 #[.string s] w fun e w' => SplitPost w (splitW s.data.toList) e w' := by
  have hl : s.data.toList.length = s.size := Array.length_toList
  by_cases h1 : 1024 < s.size
  · have hX : splitW s.data.toList = ([], 0, 0, 3) := if_pos (by omega)
    rw [hX]
    have hI : (1024 : Int) < (s.size : Int) := by omega
    clear h hX h1 hl
    go_enter Tryd.func9, Tryd.ntmps9
    go_wp2_with (fail)
    refine bodyPost_ret (resSplit _ _) rfl (splitNone w w 0 0 3 (Below.refl _ _))
  · have hv : Lib.validD s.data.toList = false := h.resolve_left h1
    have hX : splitW s.data.toList = ([], (plc (1, 1) (rns s.data.toList)).1, (plc (1, 1) (rns s.data.toList)).2, 7) := (if_neg (by omega)).trans (if_pos hv)
    rw [hX]
    have hI : ¬ (1024 : Int) < (s.size : Int) := by omega
    have hvs := validString_any s w (by omega) hT
    rw [hv] at hvs
    have HV := Lib.hid hvs
    have HE := Lib.hid (fun W h => end_any s W hs (hT.below h))
    clear h hX h1 hl hv hvs hT
    obtain ⟨X, hXX⟩ : ∃ X, X = plc (1, 1) (rns s.data.toList) := ⟨_, rfl⟩
    rw [← hXX] at HE ⊢
    clear hXX
    go_enter Tryd.func9, Tryd.ntmps9
    go_wp2_with (first
      | (go_at_call 16; (with_reducible refine HV.out.mono ?_); rintro e w1 ⟨rfl, hb1⟩)
      | (go_at_call 13; (with_reducible refine (HE.out _ (by assumption)).mono ?_); rintro e w2 ⟨rfl, hb2⟩))
    refine bodyPost_ret (resSplit _ _) rfl (splitNone w w2 X.1 X.2 7 (hb1.trans (hb2.mono hb1.size)))

set_option maxRecDepth 100000 in
set_option maxHeartbeats 4000000 in
theorem split_ok (s : ByteArray) (w : World) (hT : Tabs w) (h1 : s.size ≤ 1024) (hv : Lib.validD s.data.toList = true) :
    Calls Tryd.prog 9 #[.string s] w fun e w' => SplitPost w (splitW s.data.toList) e w' := by
  have hl : s.data.toList.length = s.size := Array.length_toList
  have hX : splitW s.data.toList = endW (mach spl0 (rns s.data.toList)) := (if_neg (by omega)).trans (if_neg (by rw [hv]; simp))
  rw [hX]
  obtain ⟨X, hXX⟩ : ∃ X, X = mach spl0 (rns s.data.toList) := ⟨_, rfl⟩
  rw [← hXX]
  have HX := Lib.hid (And.intro hXX hv)
  have hI : ¬ (1024 : Int) < (s.size : Int) := by omega
  have hvs := validString_any s w (by omega) hT
  rw [hv] at hvs
  have HV := Lib.hid hvs
  clear hX hl hv hvs hT hXX
  go_enter Tryd.func9, Tryd.ntmps9
  go_upto_region 6 with (go_at_call 16; (with_reducible refine HV.out.mono ?_); rintro e w0 ⟨rfl, hb0⟩)
  have HBG := Lib.hid (beginning_any w0)
  go_upto_region 7 with (go_at_call 17; (with_reducible refine HBG.out.mono ?_); rintro e w1 ⟨rfl, hb1⟩)
  clear HBG HV
  have hb1' := hb0.trans (hb1.mono hb0.size)
  have hs1 := hb1'.size
  have h2 := heap_alloc_new w1 (.cells #[.slice none 0 0, .int .i64 0, .int .i64 1, .int .i64 1, .int .i64 0, .int .i64 0] 53)
  have hb2 : Below w.heap.size w (w1.alloc (.cells #[.slice none 0 0, .int .i64 0, .int .i64 1, .int .i64 1, .int .i64 0, .int .i64 0] 53)) := hb1'.alloc hs1 _
  have hs2 : (w1.alloc (.cells #[.slice none 0 0, .int .i64 0, .int .i64 1, .int .i64 1, .int .i64 0, .int .i64 0] 53)).heap.size = w1.heap.size + 1 := by simp
  obtain ⟨p, hp⟩ : ∃ p, p = w1.heap.size := ⟨_, rfl⟩
  rw [← hp] at h2 hs2 ⊢
  generalize w1.alloc (.cells #[.slice none 0 0, .int .i64 0, .int .i64 1, .int .i64 1, .int .i64 0, .int .i64 0] 53) = W at h2 hb2 hs2 ⊢
  have hbw : w.heap.size ≤ p := by omega
  clear hb1 hs1 hp hb0 hb1'
  have hit0 := World.iter_heap W s 0
  have h3 : (W.alloc (.stringIter s 0)).heap[p]? = some (.cells #[.slice none 0 0, .int .i64 0, .int .i64 1, .int .i64 1, .int .i64 0, .int .i64 0] 53 (0, 0)) := (Below.heap_alloc _ _ _ (by omega)).trans h2
  have hb3 : Below w.heap.size w (W.alloc (.stringIter s 0)) := hb2.alloc (by omega) _
  have hs3 : (W.alloc (.stringIter s 0)).heap.size = p + 2 := by simp; omega
  have hsW : W.heap.size = p + 1 := hs2
  rw [hsW] at hit0
  have hSB : SB (W.alloc (.stringIter s 0)) p (p + 2) spl0.ws spl0.wi spl0.pl (0, 0) := ⟨none, 0, h3, World.ownsRow_nil _ _ _ _⟩
  clear h2 hb2 hs2 h3
  go_wp2
  go_loopw [10] (fun _ wr => ∃ (pos k : Nat) (S : Sp) (f : Nat × Nat), wr.heap[p + 1]? = some (.stringIter s pos) ∧ SB wr p (p + 2) S.ws S.wi S.pl f ∧ Good S k ∧ k ≤ pos ∧ Below w.heap.size w wr ∧ mach S (rns (s.data.toList.drop pos)) = X ∧ Lib.validD (s.data.toList.drop pos) = true ∧ pos ≤ s.size ∧ p + 2 ≤ wr.heap.size) (fun _ wr => s.size - wr.iterPos (p + 1))
  case atStart => exact ⟨0, 0, spl0, (0, 0), hit0, hSB, good0, Nat.le_refl _, hb3, by rw [List.drop_zero]; exact HX.out.1.symm, by rw [List.drop_zero]; exact HX.out.2, by omega, Nat.le_of_eq hs3.symm⟩
  case round =>
    clear hit0 hb3 hsW hSB hs3 HX
    obtain ⟨pos, k, S, f, hit, hSB, hg, hk, hbl, hm, hv, hps, hsr⟩ := hrel
    by_cases hp : pos < s.size
    · have hnx : ∀ ty, (Instr.next (.pointer (some ⟨p + 1, 0, none⟩)) true ty).run Tryd.prog wr = _ := fun ty => Lib.run_next_any_at wr (p + 1) s pos ty hit hp
      have hwd := Lib.decode_width_pos s pos hp
      have hd1 : pos + (Utf8.decode s pos).2 ≤ s.size := by
        have := Lib.decodeL_le (s.data.toList.drop pos) (drop_ne s pos hp)
        rw [Lib.decodeL_drop, List.length_drop] at this
        have hl : s.data.toList.length = s.size := Array.length_toList
        omega
      obtain ⟨hnb, hv2⟩ := valid_at s pos hp hv
      have hcons := rns_cons_at s pos hp hnb
      have hit2 := Lib.iterAt_heap wr (p + 1) s pos (pos + (Utf8.decode s pos).2) hit
      have hbl2 := Lib.below_iterAt hbl (k := p + 1) (by omega) s (pos + (Utf8.decode s pos).2)
      have hsz2 : p + 2 ≤ (wr.iterAt (p + 1) s (pos + (Utf8.decode s pos).2)).heap.size := by rw [Lib.iterAt_size]; omega
      have hSB2 : SB (wr.iterAt (p + 1) s (pos + (Utf8.decode s pos).2)) p (p + 2) S.ws S.wi S.pl f := by
        obtain ⟨A, c, q1, q2⟩ := hSB
        refine ⟨A, c, (Lib.iterAt_other wr (p + 1) p s _ (by omega)).trans q1, ?_⟩
        refine ⟨q2.1, ?_⟩
        rcases q2.2 with h2 | ⟨g, cap, cur, hv, hgg, hh, r⟩
        · exact .inl h2
        · refine .inr ⟨g, cap, cur, hv, hgg, ?_, r⟩
          rw [Lib.iterAt_other wr (p + 1) g s _ (by omega)]
          exact hh
      have hmea : s.size - (pos + (Utf8.decode s pos).2) < s.size - wr.iterPos (p + 1) := by simp only [World.iterPos, hit]; omega
      obtain ⟨⟨r, d⟩, hrd⟩ : ∃ x, x = Utf8.decode s pos := ⟨_, rfl⟩
      rw [← hrd] at hit2 hbl2 hsz2 hSB2 hmea hcons hwd hd1 hnx hv2
      simp only at hit2 hbl2 hsz2 hSB2 hmea hcons hwd hd1 hv2
      rw [hcons] at hm
      generalize wr.iterAt (p + 1) s (pos + d) = W2 at hnx hit2 hbl2 hsz2 hSB2
      have htk := take_any p (p + 2) S f k r W2 hSB2 (by omega) hsz2 hg (by omega)
      have HTK := Lib.hid htk
      have HF := Lib.hid (And.intro hm (And.intro hg (And.intro hk (And.intro hbl2 (And.intro hit2 (And.intro hsz2 (And.intro hmea (And.intro hv2 (And.intro hd1 hwd)))))))))
      clear hit hSB hg hk hbl hm hv hps hsr hcons hit2 hbl2 hsz2 hSB2 hmea hv2 hnb htk hrd
      obtain ⟨T, hT⟩ : ∃ T, T = tk S r := ⟨_, rfl⟩
      rw [← hT] at HTK
      rcases T with q | S2
      · have HT := Lib.hid hT
        clear hT
        go_upto_region 11 with (go_at_call 18; (with_reducible refine HTK.out.mono ?_); rintro e w3 ⟨⟨rfl, ws, wi, pl, h3⟩, h4⟩)
        obtain ⟨⟨-, -, -, y4, y5⟩, -, hp3⟩ := h3.cells
        have HQ := Lib.hid (And.intro h3 h4)
        clear h3 h4
        go_quiet (fail)
        go_wp2_with (fail)
        have hXE : X = .error q := by rw [← HF.out.1, mach_bad _ HT.out.symm]
        rw [hXE]
        refine bodyPost_ret (resSplit _ _) rfl (splitNone w _ q.1 q.2 80 (below_draws (HF.out.2.2.2.1.trans ((HQ.out.2.below (B := w.heap.size) (by omega) (by omega)))) _))
      · have HT := Lib.hid hT
        clear hT
        go_wp2_with (go_at_call 18; (with_reducible refine HTK.out.mono ?_); rintro e w3 ⟨⟨rfl, f3, h3⟩, h4⟩)
        have HQ := Lib.hid (And.intro h3 h4)
        have e1 := (h4.block (p + 1) (by omega) (by omega)).trans HF.out.2.2.2.2.1
        clear h3 h4
        go_roundw
        case rel => exact ⟨pos + d, k + 1, S2, f3, e1, HQ.out.1, HF.out.2.1.step HT.out.symm, by have := HF.out.2.2.1; have := HF.out.2.2.2.2.2.2.2.2.2; omega, HF.out.2.2.2.1.trans (HQ.out.2.below (by omega) (by omega)), by rw [← HF.out.1, mach_ok _ HT.out.symm], HF.out.2.2.2.2.2.2.2.1, HF.out.2.2.2.2.2.2.2.2.1, Nat.le_trans HF.out.2.2.2.2.2.1 HQ.out.2.size⟩
        case measure =>
          have hme := HF.out.2.2.2.2.2.2.1
          simp only [World.iterPos, e1] at hme ⊢
          exact hme
    · have hnx : ∀ ty, (Instr.next (.pointer (some ⟨p + 1, 0, none⟩)) true ty).run Tryd.prog wr = _ := fun ty => Lib.run_next_end_at wr (p + 1) s pos ty hit hp
      rw [drop_end s pos (by omega), rns_nil] at hm
      obtain ⟨A, c, q1, q2⟩ := hSB
      have y0 := cell_of_row wr p 0 _ _ _ q1
      have HF := Lib.hid (And.intro hm (And.intro hbl q2))
      clear hm hbl q1 q2 hit hv
      go_wp2_with (fail)
      have hXE : X = .ok S.ws := HF.out.1.symm
      rw [hXE]
      refine bodyPost_ret (resSplit _ _) rfl ⟨A, c, rfl, own_mono HF.out.2.2 (by omega), HF.out.2.1⟩

theorem split_any (s : ByteArray) (w : World) (hs : s.size ≤ 140737488355328) (hT : Tabs w) :
    Calls Tryd.prog 9 #[.string s] w fun e w' => SplitPost w (splitW s.data.toList) e w' := by
  by_cases h : 1024 < s.size ∨ Lib.validD s.data.toList = false
  · exact split_bad s w hs hT h
  · exact split_ok s w hT (by omega) (by simpa using (not_or.1 h).2)
end Go.Proofs.YtfgojbfdjbochaaDoor
