/- The document's image: write. -/
import Derived.Test.YtdjcpjfomgfjlaaRefJ
import Derived.Test.YtdjcpjfomgfjlaaLogJ
namespace Go.Proofs.Ytdjcpjfomgfjlaa
open Go.RowKit Go.Maps

section
variable {w wr w' : World} {X : List Nat} {M : DM} {T : Nat} {v : Value}
theorem RefV.rwrite (hv : RefV wr X (refOf M) v) (hk : M.Ok T) (hX : ∀ x ∈ X, x < wr.heap.size) (i : Int) (b : List UInt8) :
    Calls Try.prog 19 #[v, .int .i64 i, .string ⟨b.toArray⟩] wr fun e w' => ∃ B1 B2 B3 m1 m2 m3 d1 d2 d3 s l, e = .returned (.tuple #[.agg #[.slice B1 m1 d1, .slice B2 m2 d2, .slice B3 m3 d3, .int .i64 s, .int .i64 l], .int .i64 (M.writeE i b)]) ∧ RefV w' X (refOf (M.writeM i b)) (.agg #[.slice B1 m1 d1, .slice B2 m2 d2, .slice B3 m3 d3, .int .i64 s, .int .i64 l]) ∧ Below wr.heap.size wr w' := by
  refine (rwrite_any wr X (refOf M) v hv (refOf_ok hk) hX i b).mono ?_
  rintro e w' ⟨v', rfl, hR, hb⟩
  rw [(refOf_write M i b).1]
  rw [(refOf_write M i b).2] at hR
  have hR' := hR
  obtain ⟨A1, A2, A3, c1, c2, c3, rfl, _, _, _⟩ := hR'
  exact ⟨_, _, _, _, _, _, _, _, _, _, _, rfl, hR, hb⟩
theorem RefV.rflush (hv : RefV wr X (refOf M) v) (hk : M.Ok T) (hX : ∀ x ∈ X, x < wr.heap.size) :
    Calls Try.prog 48 #[v] wr fun e w' => ∃ B1 B2 B3 m1 m2 m3 d1 d2 d3 s l, e = .returned (.tuple #[.agg #[.slice B1 m1 d1, .slice B2 m2 d2, .slice B3 m3 d3, .int .i64 s, .int .i64 l], .int .i64 M.flushE]) ∧ RefV w' X (refOf M.flushM) (.agg #[.slice B1 m1 d1, .slice B2 m2 d2, .slice B3 m3 d3, .int .i64 s, .int .i64 l]) ∧ Below wr.heap.size wr w' := by
  refine (rflush_any wr X (refOf M) v hv (refOf_ok hk) hX).mono ?_
  rintro e w' ⟨v', rfl, hR, hb⟩
  rw [(refOf_flush M).1]
  rw [(refOf_flush M).2] at hR
  have hR' := hR
  obtain ⟨A1, A2, A3, c1, c2, c3, rfl, _, _, _⟩ := hR'
  exact ⟨_, _, _, _, _, _, _, _, _, _, _, rfl, hR, hb⟩
/-- The document's disk in a new block, and behind it a block for what is handed back. -/
structure RBox (w wr : World) (X : List Nat) (M : DM) : Prop where
  box : ∃ A1 A2 A3 n1 n2 n3 c1 c2 c3 s l, wr.heap[w.heap.size]? = some (.cells #[.slice A1 n1 c1, .slice A2 n2 c2, .slice A3 n3 c3, .int .i64 s, .int .i64 l] 33 (0, 0)) ∧ RefV wr (w.heap.size :: (w.heap.size + 1) :: X) (refOf M) (.agg #[.slice A1 n1 c1, .slice A2 n2 c2, .slice A3 n3 c3, .int .i64 s, .int .i64 l])
  res : wr.heap[w.heap.size + 1]? = some (.cells #[.slice none 0 0, .slice none 0 0, .slice none 0 0, .int .i64 0, .int .i64 0] 33 (0, 0))
  below : Below w.heap.size w wr
theorem RBox.kept (h : RBox w wr X M) (hb : Below wr.heap.size wr w') : RBox w w' X M := by
  obtain ⟨A1, A2, A3, n1, n2, n3, c1, c2, c3, s, l, hg, hv⟩ := h.box
  exact ⟨⟨A1, A2, A3, n1, n2, n3, c1, c2, c3, s, l, (hb.block _ (heap_lt hg)).trans hg, hv.below hb⟩, (hb.block _ (heap_lt h.res)).trans h.res, h.below.trans (lower' hb h.below.size)⟩
theorem RBox.new {A1 A2 A3 : Option Addr} {n1 n2 n3 c1 c2 c3 : Nat} {s l : Int} (hv : RefV w X (refOf M) (.agg #[.slice A1 n1 c1, .slice A2 n2 c2, .slice A3 n3 c3, .int .i64 s, .int .i64 l])) (hp : 0 < M.size) :
    RBox w ((w.alloc (.cells #[.slice A1 n1 c1, .slice A2 n2 c2, .slice A3 n3 c3, .int .i64 s, .int .i64 l] 33)).alloc (.cells #[.slice none 0 0, .slice none 0 0, .slice none 0 0, .int .i64 0, .int .i64 0] 33)) X M := by
  obtain ⟨g0, g1⟩ := two_new w (.cells #[.slice A1 n1 c1, .slice A2 n2 c2, .slice A3 n3 c3, .int .i64 s, .int .i64 l] 33) (.cells #[.slice none 0 0, .slice none 0 0, .slice none 0 0, .int .i64 0, .int .i64 0] 33)
  have hb : Below w.heap.size w ((w.alloc (.cells #[.slice A1 n1 c1, .slice A2 n2 c2, .slice A3 n3 c3, .int .i64 s, .int .i64 l] 33)).alloc (.cells #[.slice none 0 0, .slice none 0 0, .slice none 0 0, .int .i64 0, .int .i64 0] 33)) := below2 _ _ _
  have h2 := (hv.ext (Y := [w.heap.size, w.heap.size + 1]) hp (by simp)).sub (Y := w.heap.size :: (w.heap.size + 1) :: X) (by
    intro y hy
    simp at hy ⊢
    rcases hy with h | h | h
    · exact .inr (.inl h)
    · exact .inr (.inr h)
    · exact .inl h)
  exact ⟨⟨_, _, _, _, _, _, _, _, _, _, _, g0, h2.below hb⟩, g1, hb⟩
theorem RBox.drew (h : RBox w wr X M) : RBox w wr.drew X M := h.kept (Below.refl _ _).drew
theorem RBox.put (h : RBox w wr X M) (hb : Below wr.heap.size wr w') {M' : DM} {B1 B2 B3 : Option Addr} {m1 m2 m3 d1 d2 d3 : Nat} {s l : Int} (hR : RefV w' (w.heap.size :: (w.heap.size + 1) :: X) (refOf M') (.agg #[.slice B1 m1 d1, .slice B2 m2 d2, .slice B3 m3 d3, .int .i64 s, .int .i64 l])) :
    RBox w (((((w'.setCell ⟨w.heap.size, 0, none⟩ (.slice B1 m1 d1)).setCell ⟨w.heap.size, 1, none⟩ (.slice B2 m2 d2)).setCell ⟨w.heap.size, 2, none⟩ (.slice B3 m3 d3)).setCell ⟨w.heap.size, 3, none⟩ (.int .i64 s)).setCell ⟨w.heap.size, 4, none⟩ (.int .i64 l)) X M' := by
  have h7 := h.kept hb
  obtain ⟨A1, A2, A3, n1, n2, n3, c1, c2, c3, s', l', hg, hv⟩ := h7.box
  have hf : Fr w' (((((w'.setCell ⟨w.heap.size, 0, none⟩ (.slice B1 m1 d1)).setCell ⟨w.heap.size, 1, none⟩ (.slice B2 m2 d2)).setCell ⟨w.heap.size, 2, none⟩ (.slice B3 m3 d3)).setCell ⟨w.heap.size, 3, none⟩ (.int .i64 s)).setCell ⟨w.heap.size, 4, none⟩ (.int .i64 l)) [w.heap.size] := (((((Fr.refl _ _).setCell (by simp) _).setCell (by simp) _).setCell (by simp) _).setCell (by simp) _).setCell (by simp) _
  exact ⟨⟨_, _, _, _, _, _, _, _, _, _, _, set5 hg _ _ _ _ _, hR.fr hf (by simp)⟩, (hf.block _ (heap_lt h7.res) (by simp)).trans h7.res, h7.below.trans (hf.below h7.below.size (by simp))⟩
/-- What is handed back is stored. -/
theorem RBox.done (h : RBox w wr X M) (hb : Below wr.heap.size wr w') {M' : DM} {B1 B2 B3 : Option Addr} {m1 m2 m3 d1 d2 d3 : Nat} {s l : Int} (hR : RefV w' (w.heap.size :: (w.heap.size + 1) :: X) (refOf M') (.agg #[.slice B1 m1 d1, .slice B2 m2 d2, .slice B3 m3 d3, .int .i64 s, .int .i64 l])) :
    (((((w'.setCell ⟨w.heap.size + 1, 0, none⟩ (.slice B1 m1 d1)).setCell ⟨w.heap.size + 1, 1, none⟩ (.slice B2 m2 d2)).setCell ⟨w.heap.size + 1, 2, none⟩ (.slice B3 m3 d3)).setCell ⟨w.heap.size + 1, 3, none⟩ (.int .i64 s)).setCell ⟨w.heap.size + 1, 4, none⟩ (.int .i64 l)).heap[w.heap.size + 1]? = some (.cells #[.slice B1 m1 d1, .slice B2 m2 d2, .slice B3 m3 d3, .int .i64 s, .int .i64 l] 33 (0, 0)) ∧
    RefV (((((w'.setCell ⟨w.heap.size + 1, 0, none⟩ (.slice B1 m1 d1)).setCell ⟨w.heap.size + 1, 1, none⟩ (.slice B2 m2 d2)).setCell ⟨w.heap.size + 1, 2, none⟩ (.slice B3 m3 d3)).setCell ⟨w.heap.size + 1, 3, none⟩ (.int .i64 s)).setCell ⟨w.heap.size + 1, 4, none⟩ (.int .i64 l)) X (refOf M') (.agg #[.slice B1 m1 d1, .slice B2 m2 d2, .slice B3 m3 d3, .int .i64 s, .int .i64 l]) ∧
    Below w.heap.size w (((((w'.setCell ⟨w.heap.size + 1, 0, none⟩ (.slice B1 m1 d1)).setCell ⟨w.heap.size + 1, 1, none⟩ (.slice B2 m2 d2)).setCell ⟨w.heap.size + 1, 2, none⟩ (.slice B3 m3 d3)).setCell ⟨w.heap.size + 1, 3, none⟩ (.int .i64 s)).setCell ⟨w.heap.size + 1, 4, none⟩ (.int .i64 l)) := by
  have h7 := h.kept hb
  have hf : Fr w' (((((w'.setCell ⟨w.heap.size + 1, 0, none⟩ (.slice B1 m1 d1)).setCell ⟨w.heap.size + 1, 1, none⟩ (.slice B2 m2 d2)).setCell ⟨w.heap.size + 1, 2, none⟩ (.slice B3 m3 d3)).setCell ⟨w.heap.size + 1, 3, none⟩ (.int .i64 s)).setCell ⟨w.heap.size + 1, 4, none⟩ (.int .i64 l)) [w.heap.size + 1] := (((((Fr.refl _ _).setCell (by simp) _).setCell (by simp) _).setCell (by simp) _).setCell (by simp) _).setCell (by simp) _
  exact ⟨set5 h7.res _ _ _ _ _, (hR.fr hf (by simp)).sub (fun y hy => by simp [hy]), h7.below.trans (hf.below h7.below.size (by simp))⟩
end
theorem resWr {w : World} {b : Nat} {v0 v1 v2 v3 v4 : Value} (h : w.heap[b]? = some (.cells #[v0, v1, v2, v3, v4] 33 (0, 0))) (tmps : Array Value) (h2 : tmps.getD 6 undef = .pointer (some ⟨b, 0, none⟩)) :
    (results Try.f65 tmps).run Try.prog w = .ok (.tuple #[.agg #[v0, v1, v2, v3, v4], tmps.getD 7 undef]) w := by
  have e0 : w.cell? ⟨b, 0, none⟩ = some v0 := cell_of_row w b 0 _ _ _ h
  have e1 : w.cell? ⟨b, 1, none⟩ = some v1 := cell_of_row w b 1 _ _ _ h
  have e2 : w.cell? ⟨b, 2, none⟩ = some v2 := cell_of_row w b 2 _ _ _ h
  have e3 : w.cell? ⟨b, 3, none⟩ = some v3 := cell_of_row w b 3 _ _ _ h
  have e4 : w.cell? ⟨b, 4, none⟩ = some v4 := cell_of_row w b 4 _ _ _ h
  have h2' := h2
  simp only [Array.getD_eq_getD_getElem?] at h2'
  simp [results, Try.results65, go_sem, h2', e0, e1, e2, e3, e4]
set_option maxRecDepth 100000 in
set_option maxHeartbeats 4000000 in
theorem rwr_any (w : World) (X : List Nat) (M : DM) (T : Nat) (v : Value) (hv : RefV w X (refOf M) v) (hk : M.Ok T) (hp : 0 < M.size) (hX : ∀ x ∈ X, x < w.heap.size) (a0 : Nat) (A : Option Addr) (c B : Nat) (bs : List (List UInt8)) (hst : M.steps + bs.length ≤ 1000000000) (hr : Rd w B A (strs bs)) (hB : B ≤ w.heap.size) (h64 : ∀ b ∈ bs, b.length = 64) (hat : a0 + bs.length ≤ M.size) :
    Calls Try.prog 65 #[v, .int .i64 (a0 : Int), .slice A bs.length c] w fun e w' => ∃ v', e = .returned (.tuple #[v', .int .i64 (runOps (wrs a0 bs ++ [none]) M).1]) ∧ RefV w' X (refOf (runOps (wrs a0 bs ++ [none]) M).2) v' ∧ Below w.heap.size w w' := by
  have hv' := hv
  obtain ⟨A1, A2, A3, c1, c2, c3, rfl, _, _, _⟩ := hv'
  obtain ⟨n1, hn1⟩ : ∃ n, n = (refOf M).sure.length := ⟨_, rfl⟩
  obtain ⟨n2, hn2⟩ : ∃ n, n = (refOf M).now.length := ⟨_, rfl⟩
  obtain ⟨n3, hn3⟩ : ∃ n, n = (refOf M).fresh.length := ⟨_, rfl⟩
  obtain ⟨sx, hsx⟩ : ∃ n, n = (refOf M).steps := ⟨_, rfl⟩
  obtain ⟨lx, hlx⟩ : ∃ n, n = (refOf M).left := ⟨_, rfl⟩
  rw [← hn1, ← hn2, ← hn3, ← hsx, ← hlx] at hv ⊢
  have h2 := RBox.new hv hp
  have hsz4 := hk.size
  have hatI : (a0 : Int) + (bs.length : Int) ≤ 4096 := by omega
  have HR := Lib.hid (And.intro hr (And.intro hB (And.intro h64 (And.intro hat (And.intro hk (And.intro hst hX))))))
  clear hn1 hn2 hn3 hsx hlx hv hr hB h64 hat hk hp hst hX hsz4
  obtain ⟨Rz, hRz⟩ : ∃ Rz, Rz = runOps (wrs a0 bs ++ [none]) M := ⟨_, rfl⟩
  rw [← hRz]
  have HRZ := Lib.hid hRz
  clear hRz
  go_enter Try.func65, Try.ntmps65
  go_upto_region 2 with (fail)
  generalize ((w.alloc (.cells #[.slice A1 n1 c1, .slice A2 n2 c2, .slice A3 n3 c3, .int .i64 sx, .int .i64 lx] 33)).alloc (.cells #[.slice none 0 0, .slice none 0 0, .slice none 0 0, .int .i64 0, .int .i64 0] 33)) = W2 at h2 ⊢
  have H2 := Lib.hid h2
  clear h2
  go_wp2_with (fail)
  go_loopw [8, 9, 12] (fun cd _ a wr => ∃ (k : Nat) (Mk : DM), k ≤ bs.length ∧ a = .int .i64 (k : Int) ∧ cd = .int .i64 0 ∧ runOps (wrs a0 (bs.take k)) M = (0, Mk) ∧ RBox w wr X Mk)
    (fun _ _ a _ => bs.length - (intOf a).toNat)
  case atStart => exact ⟨0, M, by omega, rfl, rfl, rfl, H2.out⟩
  case round =>
    obtain ⟨k, Mk, hkl, rfl, rfl, hrun, hbx⟩ := hrel
    have hfa := runOps_facts (wrs a0 (bs.take k)) M
    rw [hrun, wrs_len, List.length_take] at hfa
    dsimp only at hfa
    have hok : Mk.Ok T := ⟨by rw [hfa.1]; exact HR.out.2.2.2.2.1.size, by have := HR.out.2.2.2.2.2.1; omega, Nat.le_trans hfa.2.2.1 HR.out.2.2.2.2.1.left, HR.out.2.2.2.2.1.T⟩
    obtain ⟨P1, P2, P3, p1, p2, p3, e1, e2, e3, sk, lk, hg, hvk⟩ := hbx.box
    have hXk : ∀ x ∈ w.heap.size :: (w.heap.size + 1) :: X, x < wr.heap.size := by
      intro x hx
      rcases List.mem_cons.1 hx with rfl | hx
      · exact heap_lt hg
      · rcases List.mem_cons.1 hx with rfl | hx
        · exact heap_lt hbx.res
        · exact Nat.lt_of_lt_of_le (HR.out.2.2.2.2.2.2 x hx) hbx.below.size
    by_cases hkn : k < bs.length
    · have hkI : (k : Int) < (bs.length : Int) := by omega
      obtain ⟨b, hbe⟩ : ∃ b, b = bs[k] := ⟨_, rfl⟩
      have hb64 : b.length = 64 := by rw [hbe]; exact HR.out.2.2.1 _ (List.getElem_mem hkn)
      have htk : bs.take (k + 1) = bs.take k ++ [b] := by rw [hbe]; exact List.take_succ_eq_append_getElem hkn
      have hki : a0 + k < Mk.size := by rw [hfa.1]; have := HR.out.2.2.2.1; omega
      have hsn : wrs a0 (bs.take (k + 1)) = wrs a0 (bs.take k) ++ [some (a0 + k, b)] := by
        rw [htk, wrs_snoc, List.length_take, Nat.min_eq_left (by omega)]
      obtain ⟨ab, ao, rfl, hab, hcell⟩ := HR.out.1.get (k := k) (by rw [strs_len]; exact hkn)
      have hrow : wr.cell? ⟨ab, ao + k, none⟩ = some (.string ⟨b.toArray⟩) := by
        have h := hcell
        simp only [strs, List.getElem_map, ← hbe] at h
        rw [← h]
        exact hbx.below.cell (p := ⟨ab, ao + k, none⟩) (Nat.lt_of_lt_of_le hab HR.out.2.1)
      have hwk : IntKind.i64.wrap ((a0 : Int) + (k : Int)) = (a0 : Int) + (k : Int) := by rw [IntKind.wrap_i64]; omega
      have hw := (hvk.below (Below.refl _ _).drew).rwrite (wr := wr.drew) hok hXk ((a0 + k : Nat) : Int) b
      rw [(write_eq hki hb64).1, (write_eq hki hb64).2, Int.natCast_add, ← hwk] at hw
      clear hwk
      have y0 := cell_of_row wr (w.heap.size) 0 _ _ _ hg; have y1 := cell_of_row wr (w.heap.size) 1 _ _ _ hg; have y2 := cell_of_row wr (w.heap.size) 2 _ _ _ hg; have y3 := cell_of_row wr (w.heap.size) 3 _ _ _ hg; have y4 := cell_of_row wr (w.heap.size) 4 _ _ _ hg
      have HG := Lib.hid hg
      cases hd : Mk.dead with
      | true =>
        rw [if_pos hd, if_pos hd] at hw
        have hz : Rz = (30, Mk) := by
          rw [HRZ.out, ← List.take_append_drop k (wrs a0 bs), wrs_take, List.append_assoc, runOps_append, hrun, if_pos rfl]
          exact runOps_dead hd (by simp)
        have HZ := Lib.hid hz
        have HW := Lib.hid hw
        have HX := Lib.hid hbx
        clear hw hz hd hrun hfa hok hvk hXk hbe hb64 htk hki hsn hcell hg hbx
        go_upto_region 5 with (fail)
        go_region_with (go_at_call 19; (with_reducible refine HW.out.mono ?_); rintro e w9 ⟨B1, B2, B3, r1, r2, r3, f1, f2, f3, s9, l9, rfl, hR9, hb9⟩; have hg9 := (hb9.block _ (heap_lt HG.out)).trans HG.out; have u0 := cell_of_row w9 (w.heap.size) 0 _ _ _ hg9; have u1 := cell_of_row w9 (w.heap.size) 1 _ _ _ hg9; have u2 := cell_of_row w9 (w.heap.size) 2 _ _ _ hg9; have u3 := cell_of_row w9 (w.heap.size) 3 _ _ _ hg9; have u4 := cell_of_row w9 (w.heap.size) 4 _ _ _ hg9; have t0 := frozen_of_row w9 (w.heap.size) 0 _ _ hg9; have t1 := frozen_of_row w9 (w.heap.size) 1 _ _ hg9; have t2 := frozen_of_row w9 (w.heap.size) 2 _ _ hg9; have t3 := frozen_of_row w9 (w.heap.size) 3 _ _ hg9; have t4 := frozen_of_row w9 (w.heap.size) 4 _ _ hg9)
        all_goals
          have hX9 := HX.out.drew.put hb9 hR9
          generalize (((((w9.setCell ⟨w.heap.size, 0, none⟩ (.slice B1 r1 f1)).setCell ⟨w.heap.size, 1, none⟩ (.slice B2 r2 f2)).setCell ⟨w.heap.size, 2, none⟩ (.slice B3 r3 f3)).setCell ⟨w.heap.size, 3, none⟩ (.int .i64 s9)).setCell ⟨w.heap.size, 4, none⟩ (.int .i64 l9)) = w10 at hX9 ⊢
          clear hb9 hR9 hg9 u0 u1 u2 u3 u4 t0 t1 t2 t3 t4
          obtain ⟨Q1, Q2, Q3, q1, q2, q3, g1, g2, g3, sq, lq, hgq, hvq⟩ := hX9.box
          have hrs := hX9.res
          have z0 := cell_of_row w10 (w.heap.size) 0 _ _ _ hgq; have z1 := cell_of_row w10 (w.heap.size) 1 _ _ _ hgq; have z2 := cell_of_row w10 (w.heap.size) 2 _ _ _ hgq; have z3 := cell_of_row w10 (w.heap.size) 3 _ _ _ hgq; have z4 := cell_of_row w10 (w.heap.size) 4 _ _ _ hgq
          have m0 := cell_of_row w10 (w.heap.size + 1) 0 _ _ _ hrs; have m1 := cell_of_row w10 (w.heap.size + 1) 1 _ _ _ hrs; have m2 := cell_of_row w10 (w.heap.size + 1) 2 _ _ _ hrs; have m3 := cell_of_row w10 (w.heap.size + 1) 3 _ _ _ hrs; have m4 := cell_of_row w10 (w.heap.size + 1) 4 _ _ _ hrs
          have mf0 := frozen_of_row w10 (w.heap.size + 1) 0 _ _ hrs; have mf1 := frozen_of_row w10 (w.heap.size + 1) 1 _ _ hrs; have mf2 := frozen_of_row w10 (w.heap.size + 1) 2 _ _ hrs; have mf3 := frozen_of_row w10 (w.heap.size + 1) 3 _ _ hrs; have mf4 := frozen_of_row w10 (w.heap.size + 1) 4 _ _ hrs
          have hdn := hX9.done (Below.refl _ _) hvq
          have HDN := Lib.hid hdn
          clear hdn hX9 hgq hvq hrs
          go_wp2_with (fail)
          exact bodyPost_ret (resWr HDN.out.1 _ rfl) rfl ⟨_, by rw [HZ.out]; rfl, by rw [HZ.out]; exact HDN.out.2.1, HDN.out.2.2⟩
      | false =>
        rw [if_neg (by simp [hd]), if_neg (by simp [hd])] at hw
        have hrn : runOps (wrs a0 (bs.take (k + 1))) M = (0, Mk.written (a0 + k) b) := by
          rw [hsn, runOps_append, hrun, if_pos rfl]
          simp only [runOps]
          rw [if_neg (by simp [hd])]
          rfl
        have HRN := Lib.hid hrn
        have HW := Lib.hid hw
        have HX := Lib.hid (And.intro hbx hkn)
        clear hw hrn hd hrun hfa hok hvk hXk hbe hb64 htk hki hsn hcell hg hbx
        go_upto_region 5 with (fail)
        go_region_with (go_at_call 19; (with_reducible refine HW.out.mono ?_); rintro e w9 ⟨B1, B2, B3, r1, r2, r3, f1, f2, f3, s9, l9, rfl, hR9, hb9⟩; have hg9 := (hb9.block _ (heap_lt HG.out)).trans HG.out; have u0 := cell_of_row w9 (w.heap.size) 0 _ _ _ hg9; have u1 := cell_of_row w9 (w.heap.size) 1 _ _ _ hg9; have u2 := cell_of_row w9 (w.heap.size) 2 _ _ _ hg9; have u3 := cell_of_row w9 (w.heap.size) 3 _ _ _ hg9; have u4 := cell_of_row w9 (w.heap.size) 4 _ _ _ hg9; have t0 := frozen_of_row w9 (w.heap.size) 0 _ _ hg9; have t1 := frozen_of_row w9 (w.heap.size) 1 _ _ hg9; have t2 := frozen_of_row w9 (w.heap.size) 2 _ _ hg9; have t3 := frozen_of_row w9 (w.heap.size) 3 _ _ hg9; have t4 := frozen_of_row w9 (w.heap.size) 4 _ _ hg9)
        all_goals
          have hX9 := HX.out.1.drew.put hb9 hR9
          generalize (((((w9.setCell ⟨w.heap.size, 0, none⟩ (.slice B1 r1 f1)).setCell ⟨w.heap.size, 1, none⟩ (.slice B2 r2 f2)).setCell ⟨w.heap.size, 2, none⟩ (.slice B3 r3 f3)).setCell ⟨w.heap.size, 3, none⟩ (.int .i64 s9)).setCell ⟨w.heap.size, 4, none⟩ (.int .i64 l9)) = w10 at hX9 ⊢
          clear hb9 hR9 hg9 u0 u1 u2 u3 u4 t0 t1 t2 t3 t4
          have HX9 := Lib.hid hX9
          clear hX9
          go_wp2_with (fail)
          exact ⟨⟨k + 1, _, HX.out.2, by simp, rfl, HRN.out, HX9.out⟩, by simp [intOf]; have := HX.out.2; omega⟩
    · obtain rfl : k = bs.length := by omega
      have hkI : ¬ (bs.length : Int) < (bs.length : Int) := by omega
      rw [List.take_length] at hrun
      have hz : Rz = (Mk.flushE, Mk.flushM) := by
        rw [HRZ.out, runOps_append, hrun, if_pos rfl]
        unfold runOps DM.flushE DM.flushM
        cases hd : Mk.dead with
        | true => rfl
        | false => rfl
      have hw := hvk.rflush hok hXk
      have y0 := cell_of_row wr (w.heap.size) 0 _ _ _ hg; have y1 := cell_of_row wr (w.heap.size) 1 _ _ _ hg; have y2 := cell_of_row wr (w.heap.size) 2 _ _ _ hg; have y3 := cell_of_row wr (w.heap.size) 3 _ _ _ hg; have y4 := cell_of_row wr (w.heap.size) 4 _ _ _ hg
      have HZ := Lib.hid hz
      have HW := Lib.hid hw
      have HX := Lib.hid (And.intro hbx hbx.res)
      clear hw hz hrun hfa hok hvk hXk hg hbx
      go_wp2_with (first
        | (go_at_call 48; (with_reducible refine HW.out.mono ?_); rintro e w9 ⟨B1, B2, B3, r1, r2, r3, f1, f2, f3, s9, l9, rfl, hR9, hb9⟩; have hdn := HX.out.1.done hb9 hR9; have HDN := Lib.hid hdn; have hrs := (hb9.block _ (heap_lt HX.out.2)).trans HX.out.2; have z0 := cell_of_row w9 (w.heap.size + 1) 0 _ _ _ hrs; have z1 := cell_of_row w9 (w.heap.size + 1) 1 _ _ _ hrs; have z2 := cell_of_row w9 (w.heap.size + 1) 2 _ _ _ hrs; have z3 := cell_of_row w9 (w.heap.size + 1) 3 _ _ _ hrs; have z4 := cell_of_row w9 (w.heap.size + 1) 4 _ _ _ hrs; have zf0 := frozen_of_row w9 (w.heap.size + 1) 0 _ _ hrs; have zf1 := frozen_of_row w9 (w.heap.size + 1) 1 _ _ hrs; have zf2 := frozen_of_row w9 (w.heap.size + 1) 2 _ _ hrs; have zf3 := frozen_of_row w9 (w.heap.size + 1) 3 _ _ hrs; have zf4 := frozen_of_row w9 (w.heap.size + 1) 4 _ _ hrs; clear hdn)
        | fail)
      exact bodyPost_ret (resWr HDN.out.1 _ rfl) rfl ⟨_, by rw [HZ.out]; rfl, by rw [HZ.out]; exact HDN.out.2.1, HDN.out.2.2⟩
end Go.Proofs.Ytdjcpjfomgfjlaa
